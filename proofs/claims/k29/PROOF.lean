import PyProof.Rows.All
import Wide.All
import OpenK.AllK
import Wide.FinOn
import HandS.Codes
import HandS.Conv
import HandS.EndBits
import HandS.Exc
import HandS.ExcInit
import HandS.ExcOwn
import HandS.ExcValue
import HandS.FStr
import HandS.Flow
import HandS.ForMost
import HandS.Gcd
import HandS.IsInst
import HandS.Iter
import HandS.NoneIn
import HandS.Property
import HandS.RaiseMore
import HandS.SetFor
import HandS.SortInts
import HandS.SortRule
import HandS.StrMore
import HandS.Style
import HandS.Text
import HandS.TupLen
import HandS.Walk
import HandS.Wide
import HandS.WideBits
import HandS.WordsDict
import HandS.WordsExc
import HandS.Zip
import KE.GoesZip
import KE.KDictDisplayH
import KE.KExcIs
import PyProof.Draws
import PyProof.InstEq
import PyProof.LongRange
import PyProof.NeKinds
import PyProof.Rows.FinIter
import PyProof.Rows.StrReprJoin
import PyProof.Rows.StrRev
import PyProof.Rows.SumAny
import PyProof.Rows.TupIter
import PyProof.WalksMore
import PyProof.ZipIter
import PySem.Challenge.RW_indexturns_k29_exchanges
set_option Elab.async false
set_option linter.all false
set_option maxRecDepth 100000
set_option maxHeartbeats 4000000
/-! Own rules over the hand layer: defs that know that no repr is under way around them (FnG), repr of data, powers of great numbers, an own __eq__ of an instance. -/
namespace G
open PySem PySem.Spec PyProof.Rows L2

/-- as the layer's FnOk, but called only where no guarded code is under way -/
structure FnG (P : Program) (w : World) (K : PySem.W.Frag) (mg : Str → Option Value) (base : Heap) (CX : CXT) (k : Nat) (f : Addr) (fd : FuncData) (ps : List Str) (sp : Sp) : Prop where
  len : ∀ vs H Q E, sp vs H Q E → vs.length = ps.length
  go : ∀ (A : Around) (outer : List Env) (s : Shared) (H : Hp) (us : List Value) (vs : List V) (Q : VK) (E : XK) (args : Args), A.guards = some [] → Room k A → Env0 P w K mg base A outer s H → BindsTo s fd args (ps.zip us) →
    Vals vs us → sp vs H Q E → codeAny (model P w) A (.call (.ref f) args) (CR CX outer P w H s Q E) s

section
variable {P : Program} {w : World} {K : PySem.W.Frag} {mg : Str → Option Value} {base : Heap} {CX : CXT} {k j : Nat} {f : Addr} {fd : FuncData} {ps : List Str} {sp sp' : Sp}
theorem FnG.of (F : FnOk P w K mg base CX k f fd ps sp) : FnG P w K mg base CX k f fd ps sp :=
  ⟨F.len, fun A outer s H us vs Q E args _ hr e0 hb r h => F.run A outer s H args us vs Q E hr e0 hb r h⟩
theorem FnG.mono (F : FnG P w K mg base CX j f fd ps sp) (h : j ≤ k) : FnG P w K mg base CX k f fd ps sp :=
  ⟨F.len, fun A outer s H us vs Q E args hg hr e0 hb r q => F.go A outer s H us vs Q E args hg (hr.mono h) e0 hb r q⟩

/-- a def of the text: its body as a term of rules and that term's reading; the body may use that nothing guarded is under way -/
theorem fn_G {qual name : Str} {st : Stmt} {N : List Str} (F : Fun K name qual st f fd) (S : FnScope N ps (defScope st)) (len : ∀ vs H Q E, sp vs H Q E → vs.length = ps.length)
    (body : ∀ (cd : Value) (A : Around) (outer : List Env) (s : Shared) (H : Hp) (vs : List V) (Q : VK) (E : XK), A.guards = some [] → Room k (A.deeper (envOfC qual (defScope st) s.heap.objs.size f cd)) → sp vs H Q E →
      ∃ t, PSs (cxOf CX P w K mg base N qual (defScope st) f cd A outer s H E) (defBody st) t ∧ t { nx := fun _ H' => Q .non H', rt := Q } (start N vs) H) :
    FnG P w K mg base CX (k + 1) f fd ps sp := by
  obtain ⟨oc, od, kV, doc, pm, an, cd, ct, osl, rfl, lk, hcd⟩ := F.ex
  refine ⟨len, fun A outer s H us vs Q E args hg hr e0 hb r hs => ?_⟩
  have KX : K.In s.heap := e0.mod.kin.keeps fun b o e => (e0.bs b o e).1
  refine codeAny_call_function hr.depth (KX _ _ lk) rfl S.co S.gen rfl (PySem.W.codeRec_of KX hcd) (hb _ _ _ _ ?_)
  refine wpAny_newFunctionEnv_cells S.kind (fun y hy => ?_) fun env he s1 x => ?_
  · rcases S.par y.1 (List.of_mem_zip hy).1 with q | q
    · exact .inl q
    · exact .inr ⟨q, PySem.W.cellsFrom_some _ _ _ (.inl q)⟩
  subst he
  have lim : s.heap.NoLimit := e0.mod.nolimit.keeps fun b o e => (e0.bs b o e).1
  refine ⟨lim.keeps x.toInCall.keep, codeAny_func ?_⟩
  obtain ⟨t, ht, hq⟩ := body cd A outer s H vs Q E hg (hr.deeper _) hs
  have I : Inv (cxOf CX P w K mg base N qual (defScope st) f cd A outer s H E) [] (start N vs) H s1 := inv_start S hr.hd e0 (len _ _ _ _ hs) r x
  refine wpAny_mono (ht.run [] s1 (start N vs) H _ I hq) (fun fl s' hf => ?_) fun e s' he => he
  cases fl with
  | ret u =>
    obtain ⟨v, σ', H', J, rv, q⟩ := hf
    exact ⟨v, H', J.os, J.bare, J.base, J.hok, rv, q⟩
  | next =>
    obtain ⟨σ', H', J, q⟩ := hf
    exact ⟨V.non, H', J.os, J.bare, J.base, J.hok, rfl, q⟩
  | brk => exact (hf.elim fun _ z => z.elim fun _ y => False.elim y.2)
  | cont => exact (hf.elim fun _ z => z.elim fun _ y => False.elim y.2)
end

/-- the same where no error leaves it -/
theorem fn_G0 {P : Program} {w : World} {K : PySem.W.Frag} {mg : Str → Option Value} {base : Heap} {k : Nat} {f : Addr} {fd : FuncData} {ps : List Str} {sp : Sp} {qual name : Str} {st : Stmt} {N : List Str}
    (F : Fun K name qual st f fd) (S : FnScope N ps (defScope st)) (len : ∀ vs H Q E, sp vs H Q E → vs.length = ps.length)
    (body : ∀ (cd : Value) (A : Around) (outer : List Env) (s : Shared) (H : Hp) (vs : List V) (Q : VK) (E : XK), A.guards = some [] → Room k (A.deeper (envOfC qual (defScope st) s.heap.objs.size f cd)) → sp vs H Q E →
      ∃ t, PSs (cxOf CX0 P w K mg base N qual (defScope st) f cd A outer s H E).nox (defBody st) t ∧ t { nx := fun _ H' => Q .non H', rt := Q } (start N vs) H) :
    FnG P w K mg base CX0 (k + 1) f fd ps sp :=
  fn_G F S len fun cd A outer s H vs Q E gd hr h => (body cd A outer s H vs Q E gd hr h).elim fun t z => ⟨t, z.1.nox, z.2⟩

section
variable {X : Cx} {CX : CXT} {k : Nat} {f : Addr} {fd : FuncData} {ps : List Str} {sp : Sp} {E : XK} {x : Str} {p pos : Pos} {e : Expr} {es : List Expr} {t : TA}
/-- the callee runs -/
theorem run_G {pins : List (Addr × Obj)} {σ : L2.St} {H : Hp} {s : Shared} {Q : VK} {us : List Value} {vs : List V} (F : FnG X.prog X.w X.K X.mg X.base CX k f fd ps sp) (gd : X.A.guards = some []) (hr : Room k X.A) (hb : Binds X.K fd ps [])
    (hx : Passes CX X E) (I : Inv X pins σ H s) (r : Vals vs us) (h : sp vs H Q E) : wpAny (model X.prog X.w) X.A (call (.ref f) us) (EP X pins σ Q) X.xe s := by
  have hl : (us ++ []).length = ps.length := by
    rw [List.append_nil, ← r.length]
    exact F.len _ _ _ _ h
  have hb1 := hb s us I.kIn hl
  rw [List.append_nil] at hb1
  refine wpAny_call (codeAny_mono (F.go X.A X.stack s H us vs Q E _ gd hr I.env0 hb1 r h) fun res s' hq => ?_)
  match res, hq with
  | .error e, hq => exact hx pins σ H s e s' I hq
  | .ok (.ret u), hq => exact I.after hq
/-- f(e, ..) -/
theorem pe_callG (F : FnG X.prog X.w X.K X.mg X.base CX k f fd ps sp) (gd : X.A.guards = some []) (hr : Room k X.A) (hg : Gl X x) (hm : X.mg x = some (.ref f)) (hk : PySem.W.keepIn X.K (.ref f) = true) (hb : Binds X.K fd ps []) (hx : Passes CX X E)
    (ha : PA X (e :: es) t) (hdb : (x == ("__debug__" : Str)) = false := by decide) (he : starEach (e :: es) X.env = (false, eval e X.env) :: starEach es X.env := by rfl) (hpl : (backTo pos (starEach es X.env)).any (·.1) = false := by rfl) :
    PE X (.Call (.Name x p) (e :: es) [] pos) (fun σ H Q => t σ H fun vs H1 => sp vs H1 Q E) := by
  refine ⟨fun pins s σ H Q I h => wpAny_Call_Name_kw (ld_glob I hg hm ?_ hdb)⟩
  refine PySem.W.callWith_K (h₀ := X.base) I.ok.mod.kin hk (thn (ha.run pos pins s σ H _ I h) fun us s1 hh => ?_) he hpl
  obtain ⟨vs, H1, I1, r, q⟩ := hh
  exact ⟨I1.kIn, run_G F gd hr hb hx I1 r q⟩
end

/-! ### the law's own call -/
/-- as the layer's SqL, but what stands in the written part is known as a whole -/
def SqP (K : PySem.W.Frag) (H : Hp) (a : Addr) (xs : List V) : Prop := Rd H a (.lst xs) ∨ ∃ (its : List Value) (n : Nat), K.lookup a = some { cls := .type "list", data := .seq its.toArray n } ∧ its.length ≤ sizeLine ∧ Vals xs its
theorem SqP.sqL {K : PySem.W.Frag} {H : Hp} {a : Addr} {xs : List V} (h : SqP K H a xs) : SqL K H a xs := h.elim .inl fun ⟨its, n, e, z, r⟩ => .inr ⟨_, its.toArray, n, e, rfl, rfl, rfl, by simpa using z, by simpa using r⟩
theorem law_G {P : Program} {w : World} {K : PySem.W.Frag} {mg mb : Str → Option Value} {CX : CXT} {k : Nat} {fa a : Addr} {fd : FuncData} {x : Str} {sp : Sp} {s : Shared} {vs : List Value} {ns : List Int}
    (KX : K.In s.heap) (hns : s.heap.Ns mainGlobals mg) (hb : s.heap.Ns builtinsNs mb) (hbb : ∀ x : Str, x ≠ "__name__" → mb x = bootBuiltins x) (hlim : s.heap.NoLimit) (hg : s.gens = #[])
    (ha : s.heap.get? a = some { cls := .type "list", data := .seq vs.toArray }) (hi : IntsAre vs ns) (hl : ns.length ≤ sizeLine) (hr : Room k callerA)
    (F : ∀ base : Heap, K.In base → base.Ns mainGlobals mg → FnG P w K mg base CX k fa fd [x] sp) (hbind : ∀ (s : Shared) (u : Value), BindsTo s fd ⟨[u], []⟩ [(x, u)])
    (hsp : ∀ H : Hp, Only H → SqP K H a (ns.map V.int) → sp [.ref a] H (fun v _ => v = .bl true) fun _ _ _ => False)
    (hCX : ∀ H e s', CX [] H s (fun _ _ _ => False) e s' → False) :
    codeAny (model P w) callerA (.call (.ref fa) ⟨[.ref a], []⟩) (fun r s' => r = .ok (.ret (.bool true)) ∧ OldK s.heap s'.heap ∧ s'.os = s.os ∧ AllBare s'.gens) s := by
  -- H may track the script alone
  have main : ∀ H : Hp, (∀ b u, H b = some u → b = a ∧ K.lookup a = none ∧ u = .frz { cls := .type "list", data := .seq vs.toArray } (.lst (ns.map V.int))) → SqP K H a (ns.map V.int) → HOk P w H s.heap →
      codeAny (model P w) callerA (.call (.ref fa) ⟨[.ref a], []⟩) (fun r s' => r = .ok (.ret (.bool true)) ∧ OldK s.heap s'.heap ∧ s'.os = s.os ∧ AllBare s'.gens) s := by
    intro H trk sq ok
    have only : Only H := fun b => by
      cases q : H b with
      | none => exact .inl rfl
      | some u => exact .inr ⟨_, _, congrArg some (trk b u q).2.2⟩
    have free : ∀ {b : Addr} {o : Obj}, s.heap.get? b = some o → (∀ es ep, o.data = .dict es ep → H b = none) := fun {b o} e es ep d => by
      cases q : H b with
      | none => rfl
      | some u =>
        obtain ⟨rfl, _, _⟩ := trk b u q
        have z := e.symm.trans ha
        cases z
        cases d
    have nsB : ∀ {b : Addr} {m : Str → Option Value}, s.heap.Ns b m → (hidT s.heap H).Ns b m := fun {b m} ⟨o, es, ep, e, d, r⟩ => ⟨o, es, ep, hidT_get e (free e es ep d), d, r⟩
    have kB : K.In (hidT s.heap H) := fun b o e => hidT_get (KX b o e) (by
      cases q : H b with
      | none => rfl
      | some u =>
        obtain ⟨rfl, n, _⟩ := trk b u q
        rw [n] at e
        cases e)
    have md : Mod K mg (hidT s.heap H) := ⟨kB, nsB hns, ⟨mb, nsB hb, hbb⟩, hlim.elim fun mc z => ⟨mc, nsB z.1, z.2⟩⟩
    have e0 : Env0 P w K mg (hidT s.heap H) callerA [] s H := ⟨rfl, md, fun b o e => of_hidT e, Nat.le_of_eq (hidT_size _ _), trivial, fun b z => (nomatch z), ok, .of_eq hg⟩
    refine codeAny_mono ((F _ kB (nsB hns)).go callerA [] s H [.ref a] [.ref a] _ _ ⟨[.ref a], []⟩ rfl hr e0 (hbind s (.ref a)) (.cons rfl .nil) (hsp H only sq)) fun r s' h => ?_
    match r, h with
    | .error e, h => exact (hCX H e s' h).elim
    | .ok (.ret u), h =>
      obtain ⟨v, H', os, bare, un, ok', ru, rfl⟩ := h
      obtain rfl : u = Value.bool true := ru
      refine ⟨rfl, OldK.of_keep fun b o e => ?_, os, bare⟩
      cases q : H b with
      | none => exact un.keep b o e q (fun z => nomatch z) (by simp)
      | some u =>
        obtain ⟨_, _, rfl⟩ := trk b u q
        obtain ⟨e1, _⟩ := ok b _ q
        obtain ⟨e2, _⟩ := ok' b _ (un.frzs b _ _ q)
        rw [e] at e1
        cases e1
        exact e2
  have rv := vals_ints hi
  cases hk : K.lookup a with
  | some o =>
    have e := KX a o hk
    rw [ha] at e
    cases e
    refine main (fun _ => none) (fun b u z => nomatch z) (.inr ⟨vs, _, hk, ?_, rv⟩) (fun b u z => nomatch z)
    rw [hi.length]
    exact hl
  | none =>
    refine main (upd (fun _ => none) a (.frz { cls := .type "list", data := .seq vs.toArray } (.lst (ns.map V.int)))) (fun b u z => ?_) (.inl (.inr ⟨_, upd_same⟩)) (fun b u z => ?_)
    all_goals
      by_cases hb : b = a
      case neg =>
        rw [upd_ne hb] at z
        cases z
      subst hb
      rw [upd_same] at z
      cases z
    · exact ⟨rfl, hk, rfl⟩
    · exact ⟨ha, by rw [List.length_map]; exact hl, vs, _, rv, ha⟩

/-- what k_head leaves, from the promise of the law's def; the script's numbers have at most 2^20 bits -/
theorem walk_G {l : PySem.W.OpenLaw} {n k : Nat} {q : Program} {loose : List Str} {XP : (Str → Option Value) → Heap → Prop} {YP : World → Heap → Prop} {d : DefRec} {K : Params → PySem.W.Frag} {CX : World → CXT} {sp : World → Sp} {x : Str}
    (hn : l.most = some n) (hn2 : n ≤ sizeLine) (hdf : d.params.defaults = []) (hr : Room k callerA)
    (hY : ∀ (w : World) (h : Heap), YP w h → (K w.params).In h)
    (F : ∀ (w : World) (mg : Str → Option Value) (fa : Addr) (h : Heap), (K w.params).In h → h.Ns mainGlobals mg → mg d.name = some (.ref fa) →
      ∃ fd : FuncData, (∀ (s : Shared) (u : Value), BindsTo s fd ⟨[u], []⟩ [(x, u)]) ∧
        ∀ base : Heap, (K w.params).In base → base.Ns mainGlobals mg → FnG l.prog w (K w.params) mg base (CX w) k fa fd [x] (sp w))
    (hsp : ∀ (w : World) (H : Hp) (a : Addr) (ns : List Int), ns.length ≤ n → (∀ z ∈ ns, Builtin.Int.intBits z ≤ 1048576) → Only H → SqP (K w.params) H a (ns.map V.int) → sp w [.ref a] H (fun v _ => v = .bl true) fun _ _ _ => False)
    (hCX : ∀ (w : World) (H : Hp) (s : Shared) (e : Value) (s' : Shared), CX w [] H s (fun _ _ _ => False) e s' → False) :
    PySem.W.WalkO q loose XP YP l.row.toRowW d [] (fun f vs => PySem.call f vs) := by
  refine Att.attach_callB hn hdf fun w s0 s mg mb fa o pm cd doc a vs ns G Y _ _ _ hmg hobj hints hlen hbits hg => ?_
  obtain ⟨fd, hb, hF⟩ := F w mg fa _ (hY w _ Y) G.T.g hmg
  exact law_G (hY w _ Y) G.T.g G.T.b G.T.builtins G.T.nolimit hg hobj hints (Nat.le_trans hlen hn2) hr hF hb (fun H hO hS => hsp w H a ns hlen hbits hO hS) fun H e s' => hCX w H s e s'

/-! ### further rules -/
section
variable {X : Cx}
/-- list + list, the first one of the law's own script -/
def rCatP (K : PySem.W.Frag) : R2 := fun x y H Q => ∃ l b xs zs, x = .ref l ∧ y = .ref b ∧ SqP K H l xs ∧ H b = some (.lst zs) ∧ xs.length + zs.length ≤ sizeLine ∧ ∀ p, H p = none → Q (.ref p) (upd H p (.lst (xs ++ zs)))
theorem op_catP0 : OpR X (binaryOp .Add) (rCatP X.K) := by
  intro pins s σ H x y v u Q I rx ry h
  obtain ⟨l, b, xs, zs, rfl, rfl, hP, hB, hz, q⟩ := h
  cases (show v = Value.ref l from rx)
  cases (show u = Value.ref b from ry)
  obtain ⟨its, n, r, e⟩ : ∃ (its : List Value) (n : Nat), Vals xs its ∧ s.heap.get? l = some { cls := .type "list", data := .seq its.toArray n } := by
    rcases hP with q | ⟨its, n, k, _, r⟩
    · obtain ⟨_, its, n, hv, e⟩ := (show ObjOk X.prog X.w H s.heap l (.lst xs) from q.ok I.hok)
      exact ⟨its, n, hv, e⟩
    · exact ⟨its, n, r, I.kIn _ _ k⟩
  obtain ⟨z2, its2, n2, r2, hl2, e2⟩ := I.lstM hB
  have hl := r.length
  refine PySem.P.add_list e e2 ?_ (by rw [List.size_toArray, List.size_toArray]; omega)
  rw [show its.toArray ++ its2.toArray = (its ++ its2).toArray by simp]
  exact ⟨.ref _, _, I.lnew (t' := s.toks) (r.append r2) (by rw [List.length_append]; omega), rfl, q _ I.fresh⟩
theorem op_catPK {K0 : PySem.W.Frag} (hK : X.K = K0 := by rfl) : OpR X (binaryOp .Add) (rCatP K0) := hK ▸ op_catP0
def CPowW (i j : Int) : Prop := 0 ≤ j ∧ (Builtin.Int.intBits i : Int) * j ≤ 2 ^ 27
theorem op_powW : OpR X (binaryOp .Pow) (rI CPowW fun i j => .int (i ^ j.toNat)) := opI fun i j _ _ _ _ _ hc q => pow_int hc.1 hc.2 q

/-- repr of data of any depth, where nothing guarded is under way -/
def rReprD (K : PySem.W.Frag) : List V → Hp → VK → Prop := fun xs H Q => ∃ x d, xs = [x] ∧ Dp K H x d ∧ d.showable = true ∧ d.hasDict = false ∧ d.depth ≤ 40 ∧ d.shown.length ≤ sizeLine ∧ (∃ a, x = .ref a) ∧ Q (.str d.shown) H
theorem call_reprD {k : Nat} (gd : X.A.guards = some []) (hr : Room k X.A) : CallR X (.builtin "repr") (rReprD X.K) := by
  intro pins s σ H xs us Q I r h
  obtain ⟨x, d, rfl, hd, h1, h2, h3, h4, ⟨a, rfl⟩, q⟩ := h
  obtain ⟨u, rfl, ru⟩ := r.one
  cases (show u = Value.ref a from ru)
  obtain ⟨as, rd⟩ := Dp.reads I d _ _ hd rfl
  have un := hr.un
  exact repr_of_reads' rd h1 (fun z => absurd z (by rw [h2]; decide)) gd (by omega) (fun _ _ e => e) (fun h' u tk hk => ⟨.str d.shown, H, I.kept (t' := tk) hk, ⟨u, rfl⟩, q⟩) h4

/-- a == b, a an instance whose class has the def at g for it; b of any type that goes not ahead -/
def rEqOwn (K : PySem.W.Frag) (C : Addr) (sp : Sp) (E : XK) : R2 := fun x y H Q => ∃ a dx fs t, x = .ref a ∧ H a = some (.ins C dx fs) ∧ TyX K H y t ∧ PySem.W.notFirst K C t = true ∧ sp [x, y] H (fun v H' => Q v H') E
theorem cmp_back {P : Value → Shared → Prop} {z : V} {v : Value} {s' : Shared} (r : RelV z v) (h : P v s') : PySem.W.CmpBack P v s' := by
  cases z
  case non | bl | ref | ty =>
    cases r
    exact h
  case int | str | byt | flt =>
    cases r with
    | intro t e =>
      cases e
      exact h
theorem op_eqOwn {CX : CXT} {k : Nat} {C g : Addr} {fd : FuncData} {ps : List Str} {sp : Sp} {E : XK} (hs : PySem.W.findIn X.K (.ref C) "__eq__" = some (some (.ref g))) (hf : PySem.W.isFn X.K (.ref g) = true) (F : FnOk X.prog X.w X.K X.mg X.base CX k g fd ps sp)
    (hr : Room k X.A) (hb : Binds X.K fd ps []) (hx : Passes CX X E) : OpR X (compareOp .Eq) (rEqOwn X.K C sp E) := by
  intro pins s σ H x y v u Q I rx ry h
  obtain ⟨a, dx, fs, t, rfl, ha, ty, nf, q⟩ := h
  cases (show v = Value.ref a from rx)
  obtain ⟨mA, O, _⟩ := ins_get I.hok ha
  obtain ⟨od, J, _⟩ := O.look
  obtain ⟨Z, kx, hz, _⟩ := kit_of I ry ty
  obtain ⟨m, hF⟩ := I.fr
  show wpAny _ _ (richCompare .Eq (.ref a) u) _ _ _
  refine PySem.W.cmp_K (op := .Eq) hr.units0 hF I.ok.mod.kin J (kx.ty _ _ I.kIn hz) nf hs hf ?_
  refine wpAny_mono (run_fn (us := [.ref a, u]) (vs := [.ref a, y]) F hr hb .nil hx I (.cons rfl (.cons ry .nil)) q) (fun w s' hw => ?_) fun _ _ z => z
  obtain ⟨z, H', I', rz, qz⟩ := hw
  exact cmp_back rz ⟨z, H', I', rz, qz⟩
end

/-! ### defs as constants of the module, called -/
/-- the module's name x holds a def that keeps sp and lets no error out -/
structure Cal (P : Program) (w : World) (K : PySem.W.Frag) (mg : Str → Option Value) (base : Heap) (x : Str) (k : Nat) (sp : Sp) : Prop where
  ex : ∃ (f : Addr) (fd : FuncData) (ps : List Str), FnG P w K mg base CX0 k f fd ps sp ∧ mg x = some (.ref f) ∧ PySem.W.keepIn K (.ref f) = true ∧ Binds K fd ps []
section
variable {X : Cx} {k j : Nat} {sp : Sp} {x : Str} {p pos : Pos} {e : Expr} {es : List Expr} {t : TA}
def tCal (sp : Sp) (t : TA) : TE := fun σ H Q => t σ H fun vs H1 => sp vs H1 Q E0
theorem pe_c (c : Cal X.prog X.w X.K X.mg X.base x k sp) (gd : X.A.guards = some []) (hr : Room j X.A) (hk : k ≤ j) (hg : Gl X x) (ha : PA X (e :: es) t)
    (hdb : (x == ("__debug__" : Str)) = false := by decide) (he : starEach (e :: es) X.env = (false, eval e X.env) :: starEach es X.env := by rfl) (hpl : (backTo pos (starEach es X.env)).any (·.1) = false := by rfl) :
    PE X (.Call (.Name x p) (e :: es) [] pos) (tCal sp t) := by
  obtain ⟨f, fd, ps, F, hm, hkp, hb⟩ := c.ex
  exact pe_callG F gd (hr.mono hk) hg hm hkp hb pass0 ha hdb he hpl
end

/-- the same for a def that may be called anywhere -/
structure CalO (P : Program) (w : World) (K : PySem.W.Frag) (mg : Str → Option Value) (base : Heap) (x : Str) (k : Nat) (sp : Sp) : Prop where
  ex : ∃ (f : Addr) (fd : FuncData) (ps : List Str), FnOk P w K mg base CX0 k f fd ps sp ∧ mg x = some (.ref f) ∧ PySem.W.keepIn K (.ref f) = true ∧ Binds K fd ps []
section
variable {X : Cx} {k j : Nat} {sp : Sp} {x : Str} {p pos : Pos} {e : Expr} {es : List Expr} {t : TA}
theorem pe_o (c : CalO X.prog X.w X.K X.mg X.base x k sp) (hr : Room j X.A) (hk : k ≤ j) (hg : Gl X x) (ha : PA X (e :: es) t)
    (hdb : (x == ("__debug__" : Str)) = false := by decide) (he : starEach (e :: es) X.env = (false, eval e X.env) :: starEach es X.env := by rfl) (hpl : (backTo pos (starEach es X.env)).any (·.1) = false := by rfl) :
    PE X (.Call (.Name x p) (e :: es) [] pos) (tCal sp t) := by
  obtain ⟨f, fd, ps, F, hm, hkp, hb⟩ := c.ex
  refine ⟨fun pins s σ H Q I h => (pe_call F (hr.mono hk) hg hm hkp hb .nil pass0 ha hdb he hpl).run pins s σ H Q I ?_⟩
  exact cast (congrArg (t σ H) (funext fun vs => funext fun H1 => by rw [List.append_nil])) h
end
/-- a module's name as a value -/
theorem pe_gc {X : Cx} {x : Str} {v : V} {pos : Pos} (hg : Gl X x) (h : ∃ u, X.mg x = some u ∧ RelV v u) (hd : (x == ("__debug__" : Str)) = false := by decide) : PE X (.Name x pos) (tC v) := h.elim fun u z => pe_glob hg z.1 z.2 hd
/-! ### the rules that speak of the written part, with that part told by its own name (also within a comprehension) -/
section
variable {X : Cx} {K0 : PySem.W.Frag}
theorem ix_listK (hK : X.K = K0 := by rfl) : IxR X (rIxL K0) := hK ▸ ix_list
theorem ix_tupK (hK : X.K = K0 := by rfl) : IxR X (rIxT K0) := hK ▸ ix_tup
theorem sl_listK (hK : X.K = K0 := by rfl) : SlR X (rSlL K0) := hK ▸ sl_list
theorem op_eqDK {k : Nat} (hr : Room k X.A) (hK : X.K = K0 := by rfl) : OpR X (compareOp .Eq) (rEqD K0) := hK ▸ op_eqD hr.units
theorem op_neDK {k : Nat} (hr : Room k X.A) (hK : X.K = K0 := by rfl) : OpR X (compareOp .NotEq) (rNeD K0) := hK ▸ op_neD hr.units
theorem op_in_seqK (hK : X.K = K0 := by rfl) : OpR X (compareOp .In) (rIn K0 false) := hK ▸ op_in_seq
theorem op_notIn_seqK (hK : X.K = K0 := by rfl) : OpR X (compareOp .NotIn) (rIn K0 true) := hK ▸ op_notIn_seq
def rLenK (K : PySem.W.Frag) : List V → Hp → VK → Prop := fun xs H Q => ∃ p ys, xs = [.ref p] ∧ (SqL K H p ys ∨ SqT K H p ys) ∧ Q (.int ys.length) H
def rListK (K : PySem.W.Frag) : List V → Hp → VK → Prop := fun xs H Q => ∃ p ys, xs = [.ref p] ∧ (SqL K H p ys ∨ SqT K H p ys) ∧ ∀ l, H l = none → Q (.ref l) (upd H l (.lst ys))
theorem call_lenK (hK : X.K = K0 := by rfl) : CallR X (.builtin "len") (rLenK K0) := hK ▸ call_len_seq
theorem call_listK (hK : X.K = K0 := by rfl) : CallR X (.type "list") (rListK K0) := hK ▸ call_list_of
theorem call_isiK (hK : X.K = K0 := by rfl) : CallR X (.builtin "isinstance") (rIsi K0) := hK ▸ call_isi
theorem cr_sortedK (hK : X.K = K0 := by rfl) : CallR X (.builtin "sorted") (rSortedI K0) := hK ▸ cr_sortedI
theorem call_reprK {k : Nat} (gd : X.A.guards = some []) (hr : Room k X.A) (hK : X.K = K0 := by rfl) : CallR X (.builtin "repr") (rReprD K0) := hK ▸ call_reprD gd hr
theorem pe_fldK {e : Expr} {f : Str} {ta : TE} {pos : Pos} (he : PE X e ta) (hb : attributeBase e f X.env (eval e X.env) = eval e X.env) (hK : X.K = K0 := by rfl) : PE X (.Attribute e f pos) (tFld K0 ta f) := hK ▸ pe_fld he hb
end
theorem bt_ValueError : bootBuiltins "ValueError" = some (.type "ValueError") := by decide +kernel
theorem bt_len : bootBuiltins "len" = some (.builtin "len") := by decide +kernel
theorem bt_max : bootBuiltins "max" = some (.builtin "max") := by decide +kernel
theorem bt_min : bootBuiltins "min" = some (.builtin "min") := by decide +kernel
theorem bt_abs : bootBuiltins "abs" = some (.builtin "abs") := by decide +kernel
theorem bt_sum : bootBuiltins "sum" = some (.builtin "sum") := by decide +kernel
theorem bt_repr : bootBuiltins "repr" = some (.builtin "repr") := by decide +kernel
theorem bt_sorted : bootBuiltins "sorted" = some (.builtin "sorted") := by decide +kernel
theorem bt_all : bootBuiltins "all" = some (.builtin "all") := by decide +kernel
theorem bt_any : bootBuiltins "any" = some (.builtin "any") := by decide +kernel
theorem bt_isinstance : bootBuiltins "isinstance" = some (.builtin "isinstance") := by decide +kernel
theorem bt_int : bootBuiltins "int" = some (.type "int") := by decide +kernel
theorem bt_str : bootBuiltins "str" = some (.type "str") := by decide +kernel
theorem bt_bool : bootBuiltins "bool" = some (.type "bool") := by decide +kernel
theorem bt_list : bootBuiltins "list" = some (.type "list") := by decide +kernel
theorem bt_tuple : bootBuiltins "tuple" = some (.type "tuple") := by decide +kernel
end G

/-! Turns of bits, in plain Lean: a turn has targets ts (a list of the numbers below its length, each once) and flips fl. -/
namespace M

/-- the number below 2^n whose bits are f -/
def nb : Nat → (Nat → Bool) → Nat
  | 0, _ => 0
  | n + 1, f => nb n f + (if f n then 2 ^ n else 0)
theorem nb_lt : ∀ (n : Nat) (f : Nat → Bool), nb n f < 2 ^ n
  | 0, _ => Nat.one_pos
  | n + 1, f => by
    have h := nb_lt n f
    unfold nb
    rw [Nat.pow_succ]
    split <;> omega
theorem testBit_nb : ∀ (n : Nat) (f : Nat → Bool) (j : Nat), (nb n f).testBit j = (decide (j < n) && f j)
  | 0, f, j => by simp [nb]
  | n + 1, f, j => by
    have h := nb_lt n f
    have ih := testBit_nb n f j
    unfold nb
    by_cases hf : f n = true
    · rw [if_pos hf, Nat.add_comm]
      rcases Nat.lt_trichotomy j n with hj | hj | hj
      · rw [Nat.testBit_two_pow_add_gt hj, ih]
        simp [hj, Nat.lt_succ_of_lt hj]
      · subst hj
        rw [Nat.testBit_two_pow_add_eq, ih]
        simp [hf]
      · have e : (2 ^ n + nb n f).testBit j = false := Nat.testBit_lt_two_pow (Nat.lt_of_lt_of_le (by omega : 2 ^ n + nb n f < 2 ^ (n + 1)) (Nat.pow_le_pow_right (by decide) hj))
        rw [e]
        simp
        intro q
        omega
    · rw [if_neg hf, Nat.add_zero, ih]
      rcases Nat.lt_trichotomy j n with hj | hj | hj
      · simp [hj, Nat.lt_succ_of_lt hj]
      · subst hj
        simp [hf]
      · have a : ¬ j < n := by omega
        have b : ¬ j < n + 1 := by omega
        simp [a, b]
theorem nb_ext {n : Nat} {f g : Nat → Bool} (h : ∀ j, j < n → f j = g j) : nb n f = nb n g := by
  refine Nat.eq_of_testBit_eq fun j => ?_
  rw [testBit_nb, testBit_nb]
  by_cases hj : j < n
  · rw [h j hj]
  · simp [hj]
theorem eq_nb {n x : Nat} {f : Nat → Bool} (hx : x < 2 ^ n) (h : ∀ j, j < n → x.testBit j = f j) : x = nb n f := by
  refine Nat.eq_of_testBit_eq fun j => ?_
  rw [testBit_nb]
  by_cases hj : j < n
  · simp [hj, h j hj]
  · have e : x.testBit j = false := Nat.testBit_lt_two_pow (Nat.lt_of_lt_of_le hx (Nat.pow_le_pow_right (by decide) (by omega)))
    simp [hj, e]

/-- targets of a turn -/
structure Ts (ts : List Nat) : Prop where
  one : 1 ≤ ts.length
  most : ts.length ≤ 100
  lt : ∀ t ∈ ts, t < ts.length
  nd : ts.Nodup

/-- where the item at p goes -/
def go (ts : List Nat) (fl p : Nat) : Nat := nb ts.length fun j => (p.testBit (ts.idxOf j)) ^^ fl.testBit j
theorem go_lt (ts : List Nat) (fl p : Nat) : go ts fl p < 2 ^ ts.length := nb_lt _ _

theorem nodup_lt_length : ∀ {n : Nat} {l : List Nat}, l.Nodup → (∀ x ∈ l, x < n) → l.length ≤ n
  | 0, [], _, _ => Nat.le_refl _
  | 0, x :: l, _, h => absurd (h x List.mem_cons_self) (Nat.not_lt_zero _)
  | n + 1, l, nd, h => by
    by_cases hn : n ∈ l
    · have h1 : (l.erase n).length ≤ n := nodup_lt_length (nd.erase n) fun x hx => by
        have hne : x ≠ n := fun e => (List.Nodup.not_mem_erase nd) (e ▸ hx)
        have := h x (List.mem_of_mem_erase hx)
        omega
      rw [List.length_erase_of_mem hn] at h1
      omega
    · have h1 : l.length ≤ n := nodup_lt_length nd fun x hx => by
        have hne : x ≠ n := fun e => hn (e ▸ hx)
        have := h x hx
        omega
      omega
theorem nodup_map_on {α β : Type} {f : α → β} : ∀ {l : List α}, l.Nodup → (∀ x ∈ l, ∀ y ∈ l, f x = f y → x = y) → (l.map f).Nodup
  | [], _, _ => List.nodup_nil
  | a :: l, nd, inj => by
    rw [List.nodup_cons] at nd
    rw [List.map_cons, List.nodup_cons]
    refine ⟨fun hm => ?_, nodup_map_on nd.2 fun x hx y hy => inj x (List.mem_cons_of_mem _ hx) y (List.mem_cons_of_mem _ hy)⟩
    obtain ⟨y, hy, e⟩ := List.mem_map.mp hm
    have := inj y (List.mem_cons_of_mem _ hy) a List.mem_cons_self e
    exact nd.1 (this ▸ hy)
/-- as many different numbers below n as there are: all of them -/
theorem mem_of_full {l : List Nat} (nd : l.Nodup) (lt : ∀ x ∈ l, x < l.length) {j : Nat} (hj : j < l.length) : j ∈ l := by
  by_cases hm : j ∈ l
  · exact hm
  · have h1 : (l.map fun x => if x > j then x - 1 else x).length ≤ l.length - 1 := by
      refine nodup_lt_length ?_ fun y hy => ?_
      · refine nodup_map_on nd fun x hx y hy e => ?_
        have h1 : x ≠ j := fun e => hm (e ▸ hx)
        have h2 : y ≠ j := fun e => hm (e ▸ hy)
        have e' : (if x > j then x - 1 else x) = (if y > j then y - 1 else y) := e
        split at e' <;> split at e' <;> omega
      · obtain ⟨x, hx, rfl⟩ := List.mem_map.mp hy
        have hne : x ≠ j := fun e => hm (e ▸ hx)
        have := lt x hx
        show (if x > j then x - 1 else x) < _
        split <;> omega
    rw [List.length_map] at h1
    omega
theorem perm_range_of {l : List Nat} (nd : l.Nodup) (lt : ∀ x ∈ l, x < l.length) : l.Perm (List.range l.length) :=
  (List.perm_ext_iff_of_nodup nd List.nodup_range).mpr fun x => ⟨fun h => List.mem_range.mpr (lt x h), fun h => mem_of_full nd lt (List.mem_range.mp h)⟩
theorem Ts.of_perm {ts : List Nat} {n : Nat} (h : ts.Perm (List.range n)) (h1 : 1 ≤ n) (h2 : n ≤ 100) : Ts ts ∧ ts.length = n := by
  have hl : ts.length = n := by
    rw [h.length_eq, List.length_range]
  refine ⟨⟨by omega, by omega, fun t ht => ?_, (h.nodup_iff).mpr List.nodup_range⟩, hl⟩
  rw [hl]
  exact List.mem_range.mp (h.mem_iff.mp ht)
theorem Ts.perm {ts : List Nat} (h : Ts ts) : ts.Perm (List.range ts.length) := perm_range_of h.nd h.lt
theorem Ts.mem {ts : List Nat} (h : Ts ts) {j : Nat} (hj : j < ts.length) : j ∈ ts := mem_of_full h.nd h.lt hj
theorem Ts.idx_lt {ts : List Nat} (h : Ts ts) {j : Nat} (hj : j < ts.length) : ts.idxOf j < ts.length := List.idxOf_lt_length_of_mem (h.mem hj)
theorem Ts.idx_get {ts : List Nat} (h : Ts ts) {e t : Nat} (he : ts[e]? = some t) : ts.idxOf t = e := by
  obtain ⟨hlt, rfl⟩ := List.getElem?_eq_some_iff.mp he
  exact h.nd.idxOf_getElem e hlt
theorem Ts.get_idx {ts : List Nat} (h : Ts ts) {j : Nat} (hj : j < ts.length) : ts[ts.idxOf j]? = some j := by
  rw [List.getElem?_eq_getElem (h.idx_lt hj), List.getElem_idxOf]

/-! ### the loop of goes_to: the bits of the first i targets are set -/
/-- bit j is set by one of the first i bits -/
def byFirst (ts : List Nat) (g : Nat → Nat → Bool) (i j : Nat) : Bool := decide (j < ts.length) && decide (ts.idxOf j < i) && g (ts.idxOf j) j
theorem byFirst_zero (ts : List Nat) (g : Nat → Nat → Bool) (j : Nat) : byFirst ts g 0 j = false := by simp [byFirst]
theorem byFirst_all {ts : List Nat} (h : Ts ts) (g : Nat → Nat → Bool) (j : Nat) : byFirst ts g ts.length j = (decide (j < ts.length) && g (ts.idxOf j) j) := by
  unfold byFirst
  by_cases hj : j < ts.length
  · simp [hj, h.idx_lt hj]
  · simp [hj]
theorem byFirst_succ {ts : List Nat} (h : Ts ts) (g : Nat → Nat → Bool) {i t : Nat} (ht : ts[i]? = some t) (j : Nat) : byFirst ts g (i + 1) j = (byFirst ts g i j || (decide (j = t) && g i t)) := by
  have e := h.idx_get ht
  have ht2 : t < ts.length := h.lt t (List.mem_of_getElem? ht)
  unfold byFirst
  by_cases hj : j = t
  · subst hj
    simp [e, ht2]
  · have hne : j < ts.length → ts.idxOf j ≠ i := fun hlt q => by
      have z := h.get_idx hlt
      rw [q, ht] at z
      exact hj (Option.some.inj z).symm
    by_cases hlt : j < ts.length
    · have h1 := hne hlt
      have h2 : (ts.idxOf j < i + 1) = (ts.idxOf j < i) := by
        apply propext
        constructor <;> intro q <;> omega
      simp [hj, h2]
    · simp [hlt, hj]
/-- moved | (bit << t) -/
theorem or_step {ts : List Nat} (h : Ts ts) {g : Nat → Nat → Bool} {i t m : Nat} (ht : ts[i]? = some t) (hm : ∀ j, m.testBit j = byFirst ts g i j) {b : Nat} (hb : b = (g i t).toNat) :
    ∀ j, (m ||| (b * 2 ^ t)).testBit j = byFirst ts g (i + 1) j := fun j => by
  rw [Nat.testBit_or, hm, byFirst_succ h g ht j]
  congr 1
  subst hb
  cases g i t with
  | false => simp
  | true =>
    show (1 * 2 ^ t).testBit j = _
    rw [Nat.one_mul, Nat.testBit_two_pow]
    simp [eq_comm]
theorem add_or_pow {m t : Nat} (h : m.testBit t = false) : m + 2 ^ t = m ||| 2 ^ t := by
  have e1 : m / 2 ^ t % 2 = 0 := by
    rw [Nat.testBit_eq_decide_div_mod_eq] at h
    simpa using h
  have e2 : 2 ^ t * (m / 2 ^ t) + m % 2 ^ t = m := Nat.div_add_mod m (2 ^ t)
  have e3 : m / 2 ^ t = 2 * (m / 2 ^ t / 2) := by omega
  have r : m % 2 ^ t < 2 ^ t := Nat.mod_lt _ (Nat.two_pow_pos t)
  have p : (2 : Nat) ^ (t + 1) = 2 ^ t * 2 := Nat.pow_succ 2 t
  have em : m = 2 ^ (t + 1) * (m / 2 ^ t / 2) + m % 2 ^ t := by
    rw [p, Nat.mul_assoc, ← e3]
    exact e2.symm
  have r2 : 2 ^ t + m % 2 ^ t < 2 ^ (t + 1) := by omega
  have o1 := Nat.two_pow_add_eq_or_of_lt (show m % 2 ^ t < 2 ^ (t + 1) by omega) (m / 2 ^ t / 2)
  have o2 := Nat.two_pow_add_eq_or_of_lt r2 (m / 2 ^ t / 2)
  have o3 := Nat.two_pow_add_eq_or_of_lt r 1
  rw [Nat.mul_one] at o3
  have ml : m + 2 ^ t = 2 ^ (t + 1) * (m / 2 ^ t / 2) + (2 ^ t + m % 2 ^ t) := by omega
  rw [ml, o2, o3]
  have mr : m = 2 ^ (t + 1) * (m / 2 ^ t / 2) ||| m % 2 ^ t := em.trans o1
  rw (occs := .pos [3]) [mr]
  rw [Nat.or_assoc, Nat.or_comm (m % 2 ^ t)]
/-- found + 2^t where the t-th bit is not yet set -/
theorem add_step {ts : List Nat} (h : Ts ts) {g : Nat → Nat → Bool} {i t m : Nat} (ht : ts[i]? = some t) (hm : ∀ j, m.testBit j = byFirst ts g i j) :
    ∀ j, (if g i t = true then m + 2 ^ t else m).testBit j = byFirst ts g (i + 1) j := fun j => by
  have e0 : m.testBit t = false := by
    rw [hm]
    unfold byFirst
    rw [h.idx_get ht]
    simp
  rw [byFirst_succ h g ht j]
  cases hg : g i t with
  | false => simp [hm]
  | true =>
    rw [if_pos rfl, ← hm]
    have e : m + 2 ^ t = m ||| 2 ^ t := add_or_pow e0
    rw [e, Nat.testBit_or, Nat.testBit_two_pow]
    simp [eq_comm]
theorem go_of_or {ts : List Nat} (h : Ts ts) {fl p m : Nat} (hf : fl < 2 ^ ts.length) (hm : ∀ j, m.testBit j = byFirst ts (fun e _ => p.testBit e) ts.length j) : m ^^^ fl = go ts fl p := by
  refine Nat.eq_of_testBit_eq fun j => ?_
  rw [Nat.testBit_xor, hm, byFirst_all h]
  unfold go
  rw [testBit_nb]
  by_cases hj : j < ts.length
  · simp [hj]
  · have e : fl.testBit j = false := Nat.testBit_lt_two_pow (Nat.lt_of_lt_of_le hf (Nat.pow_le_pow_right (by decide) (by omega)))
    simp [hj, e]
theorem go_of_add {ts : List Nat} (h : Ts ts) {fl p m : Nat} (hm : ∀ j, m.testBit j = byFirst ts (fun e t => p.testBit e != fl.testBit t) ts.length j) : m = go ts fl p := by
  refine Nat.eq_of_testBit_eq fun j => ?_
  rw [hm, byFirst_all h]
  unfold go
  rw [testBit_nb]
/-! ### different items go to different places -/
theorem go_bit {ts : List Nat} (h : Ts ts) (fl p : Nat) {e t : Nat} (he : ts[e]? = some t) : (go ts fl p).testBit t = (p.testBit e ^^ fl.testBit t) := by
  unfold go
  rw [testBit_nb, h.idx_get he]
  simp [h.lt t (List.mem_of_getElem? he)]
theorem bits_ext {n p q : Nat} (hp : p < 2 ^ n) (hq : q < 2 ^ n) (h : ∀ e, e < n → p.testBit e = q.testBit e) : p = q := by
  rw [eq_nb hp h]
  exact (eq_nb hq fun _ _ => rfl).symm
theorem go_inj {ts : List Nat} (h : Ts ts) {fl p q : Nat} (hp : p < 2 ^ ts.length) (hq : q < 2 ^ ts.length) (e : go ts fl p = go ts fl q) : p = q :=
  bits_ext hp hq fun i hi => by
    have a := go_bit h fl p (List.getElem?_eq_getElem hi)
    have b := go_bit h fl q (List.getElem?_eq_getElem hi)
    rw [e, b] at a
    revert a
    cases p.testBit i <;> cases q.testBit i <;> cases fl.testBit ts[i] <;> decide
theorem go_all {ts : List Nat} (h : Ts ts) (fl : Nat) : ((List.range (2 ^ ts.length)).map (go ts fl)).Perm (List.range (2 ^ ts.length)) := by
  have hl : ((List.range (2 ^ ts.length)).map (go ts fl)).length = 2 ^ ts.length := by rw [List.length_map, List.length_range]
  have z := perm_range_of (l := (List.range (2 ^ ts.length)).map (go ts fl)) (nodup_map_on List.nodup_range fun x hx y hy => go_inj h (List.mem_range.mp hx) (List.mem_range.mp hy)) fun x hx => by
    obtain ⟨p, _, rfl⟩ := List.mem_map.mp hx
    rw [hl]
    exact go_lt _ _ _
  rw [hl] at z
  exact z
end M

/-! Powers of turns, in plain Lean: where a bit with a value goes along its cycle. -/
namespace M
def it {α : Type} (f : α → α) : Nat → α → α
  | 0, x => x
  | n + 1, x => f (it f n x)
theorem it_succ {α : Type} (f : α → α) : ∀ (n : Nat) (x : α), it f (n + 1) x = it f n (f x)
  | 0, x => rfl
  | n + 1, x => by
    show f (it f (n + 1) x) = f (it f n (f x))
    rw [it_succ f n x]
theorem it_add {α : Type} (f : α → α) (m : Nat) : ∀ (n : Nat) (x : α), it f (n + m) x = it f n (it f m x)
  | 0, x => by
    rw [Nat.zero_add]
    rfl
  | n + 1, x => by
    rw [Nat.add_right_comm]
    show f (it f (n + m) x) = f (it f n (it f m x))
    rw [it_add f m n x]

/-- the bit e with the value v: where it goes, and from where it came -/
def fw (ts : List Nat) (fl : Nat) (x : Nat × Bool) : Nat × Bool := (ts.getD x.1 0, x.2 ^^ fl.testBit (ts.getD x.1 0))
def bw (ts : List Nat) (fl : Nat) (x : Nat × Bool) : Nat × Bool := (ts.idxOf x.1, x.2 ^^ fl.testBit x.1)
def pw (ts : List Nat) (fl : Nat) (n : Int) (x : Nat × Bool) : Nat × Bool := if 0 ≤ n then it (fw ts fl) n.toNat x else it (bw ts fl) (-n).toNat x
section
variable {ts : List Nat} {fl : Nat} {x : Nat × Bool}
theorem Ts.getD (h : Ts ts) {e : Nat} (he : e < ts.length) : ts[e]? = some (ts.getD e 0) := by
  rw [List.getD_eq_getElem?_getD, List.getElem?_eq_getElem he]
  rfl
theorem Ts.getD_lt (h : Ts ts) {e : Nat} (he : e < ts.length) : ts.getD e 0 < ts.length := h.lt _ (List.mem_of_getElem? (h.getD he))
theorem fw_lt (h : Ts ts) (hx : x.1 < ts.length) : (fw ts fl x).1 < ts.length := h.getD_lt hx
theorem bw_lt (h : Ts ts) (hx : x.1 < ts.length) : (bw ts fl x).1 < ts.length := h.idx_lt hx
theorem bw_fw (h : Ts ts) (hx : x.1 < ts.length) : bw ts fl (fw ts fl x) = x := by
  unfold bw fw
  rw [h.idx_get (h.getD hx)]
  show (x.1, ((x.2 ^^ fl.testBit _) ^^ fl.testBit _)) = x
  rw [Bool.xor_assoc, Bool.xor_self, Bool.xor_false]
theorem fw_bw (h : Ts ts) (hx : x.1 < ts.length) : fw ts fl (bw ts fl x) = x := by
  unfold bw fw
  have e : ts.getD (ts.idxOf x.1) 0 = x.1 := by
    rw [List.getD_eq_getElem?_getD, h.get_idx hx]
    rfl
  show (ts.getD (ts.idxOf x.1) 0, ((x.2 ^^ fl.testBit x.1) ^^ fl.testBit (ts.getD (ts.idxOf x.1) 0))) = x
  rw [e, Bool.xor_assoc, Bool.xor_self, Bool.xor_false]
theorem it_fw_lt (h : Ts ts) : ∀ (n : Nat) {x : Nat × Bool}, x.1 < ts.length → (it (fw ts fl) n x).1 < ts.length
  | 0, _, hx => hx
  | n + 1, _, hx => fw_lt h (it_fw_lt h n hx)
theorem it_bw_lt (h : Ts ts) : ∀ (n : Nat) {x : Nat × Bool}, x.1 < ts.length → (it (bw ts fl) n x).1 < ts.length
  | 0, _, hx => hx
  | n + 1, _, hx => bw_lt h (it_bw_lt h n hx)
theorem pw_lt (h : Ts ts) (n : Int) (hx : x.1 < ts.length) : (pw ts fl n x).1 < ts.length := by
  unfold pw
  split
  · exact it_fw_lt h _ hx
  · exact it_bw_lt h _ hx
theorem pw_zero : pw ts fl 0 x = x := rfl
/-- one step more -/
theorem pw_succ (h : Ts ts) (n : Int) (hx : x.1 < ts.length) : pw ts fl (n + 1) x = fw ts fl (pw ts fl n x) := by
  unfold pw
  by_cases h0 : 0 ≤ n
  · rw [if_pos h0, if_pos (by omega), show (n + 1).toNat = n.toNat + 1 by omega]
    rfl
  · rw [if_neg h0]
    have e : (-n).toNat = (-(n + 1)).toNat + 1 := by omega
    rw [e]
    show _ = fw ts fl (bw ts fl (it (bw ts fl) (-(n + 1)).toNat x))
    rw [fw_bw h (it_bw_lt h _ hx)]
    by_cases h1 : 0 ≤ n + 1
    · have e1 : n + 1 = 0 := by omega
      rw [if_pos h1, e1]
      rfl
    · rw [if_neg h1]
theorem pw_pred (h : Ts ts) (n : Int) (hx : x.1 < ts.length) : pw ts fl (n - 1) x = bw ts fl (pw ts fl n x) := by
  have e := pw_succ (fl := fl) h (n - 1) hx
  rw [Int.sub_add_cancel] at e
  rw [e, bw_fw h (pw_lt h _ hx)]
theorem int_ind {P : Int → Prop} (h0 : P 0) (hs : ∀ n, P n → P (n + 1)) (hp : ∀ n, P n → P (n - 1)) (n : Int) : P n := by
  have hn : ∀ k : Nat, P (k : Int) := fun k => by
    induction k with
    | zero => exact h0
    | succ k ih => exact hs _ ih
  have hm : ∀ k : Nat, P (-(k : Int)) := fun k => by
    induction k with
    | zero => exact h0
    | succ k ih =>
      have e : -((k + 1 : Nat) : Int) = -(k : Int) - 1 := by omega
      rw [e]
      exact hp _ ih
  by_cases h : 0 ≤ n
  · have := hn n.toNat
    rwa [Int.toNat_of_nonneg h] at this
  · have := hm (-n).toNat
    rw [Int.toNat_of_nonneg (by omega), Int.neg_neg] at this
    exact this
theorem pw_add (h : Ts ts) (m n : Int) (hx : x.1 < ts.length) : pw ts fl (n + m) x = pw ts fl n (pw ts fl m x) := by
  refine int_ind (P := fun n => pw ts fl (n + m) x = pw ts fl n (pw ts fl m x)) ?_ ?_ ?_ n
  · rw [Int.zero_add, pw_zero]
  · intro n ih
    rw [show n + 1 + m = n + m + 1 by omega, pw_succ h _ hx, ih, pw_succ h _ (pw_lt h _ hx)]
  · intro n ih
    rw [show n - 1 + m = n + m - 1 by omega, pw_pred h _ hx, ih, pw_pred h _ (pw_lt h _ hx)]
theorem pw_inj (h : Ts ts) {n : Int} {x y : Nat × Bool} (hx : x.1 < ts.length) (hy : y.1 < ts.length) (e : pw ts fl n x = pw ts fl n y) : x = y := by
  have a := pw_add (fl := fl) h n (-n) hx
  have b := pw_add (fl := fl) h n (-n) hy
  rw [Int.add_left_neg, pw_zero] at a b
  rw [a, b, e]
/-- with the other value -/
theorem it_flip (f : Nat × Bool → Nat × Bool) (hf : ∀ e v b, f (e, v ^^ b) = ((f (e, v)).1, (f (e, v)).2 ^^ b)) : ∀ (n : Nat) (e : Nat) (v b : Bool), it f n (e, v ^^ b) = ((it f n (e, v)).1, (it f n (e, v)).2 ^^ b)
  | 0, _, _, _ => rfl
  | n + 1, e, v, b => by
    show f (it f n (e, v ^^ b)) = _
    rw [it_flip f hf n e v b, hf]
    rfl
theorem xor_swap (a b c : Bool) : ((a ^^ b) ^^ c) = ((a ^^ c) ^^ b) := by cases a <;> cases b <;> cases c <;> rfl
theorem pw_flip (n : Int) (e : Nat) (v b : Bool) : pw ts fl n (e, v ^^ b) = ((pw ts fl n (e, v)).1, (pw ts fl n (e, v)).2 ^^ b) := by
  unfold pw
  split
  · exact it_flip _ (fun e v b => by
      show (_, _) = (_, _)
      rw [show ((e, v ^^ b) : Nat × Bool).2 = (v ^^ b) from rfl, xor_swap]
      rfl) _ _ _ _
  · exact it_flip _ (fun e v b => by
      show (_, _) = (_, _)
      rw [show ((e, v ^^ b) : Nat × Bool).2 = (v ^^ b) from rfl, xor_swap]
      rfl) _ _ _ _
end

/-! ### the power as a turn -/
def pT (ts : List Nat) (fl : Nat) (n : Int) : List Nat := (List.range ts.length).map fun e => (pw ts fl n (e, false)).1
def pF (ts : List Nat) (fl : Nat) (n : Int) : Nat := nb ts.length fun t => (pw ts fl n ((pT ts fl n).idxOf t, false)).2
section
variable {ts : List Nat} {fl : Nat}
theorem pT_len (n : Int) : (pT ts fl n).length = ts.length := by
  unfold pT
  rw [List.length_map, List.length_range]
theorem pT_get (n : Int) {e : Nat} (he : e < ts.length) : (pT ts fl n)[e]? = some (pw ts fl n (e, false)).1 := by
  unfold pT
  rw [List.getElem?_map, List.getElem?_range he]
  rfl
theorem pw_inj1 (h : Ts ts) {n : Int} {a b : Nat} (ha : a < ts.length) (hb : b < ts.length) (e : (pw ts fl n (a, false)).1 = (pw ts fl n (b, false)).1) : a = b := by
  by_cases q : (pw ts fl n (a, false)).2 = (pw ts fl n (b, false)).2
  · exact congrArg Prod.fst (pw_inj h (x := (a, false)) (y := (b, false)) ha hb (Prod.ext e q))
  · have f := pw_flip (ts := ts) (fl := fl) n a false true
    have z : pw ts fl n (a, true) = pw ts fl n (b, false) := by
      rw [show (true : Bool) = (false ^^ true) from rfl, f]
      refine Prod.ext e ?_
      show ((pw ts fl n (a, false)).2 ^^ true) = (pw ts fl n (b, false)).2
      cases h1 : (pw ts fl n (a, false)).2 <;> cases h2 : (pw ts fl n (b, false)).2 <;> simp_all
    have := pw_inj h (x := (a, true)) (y := (b, false)) ha hb z
    cases this
theorem pT_ok (h : Ts ts) (n : Int) : Ts (pT ts fl n) := by
  refine ⟨by rw [pT_len]; exact h.one, by rw [pT_len]; exact h.most, fun t ht => ?_, ?_⟩
  · rw [pT_len]
    obtain ⟨e, he, rfl⟩ := List.mem_map.mp ht
    exact pw_lt h n (List.mem_range.mp he)
  · exact nodup_map_on List.nodup_range fun a ha b hb e => pw_inj1 h (List.mem_range.mp ha) (List.mem_range.mp hb) e
theorem pF_lt (n : Int) : pF ts fl n < 2 ^ ts.length := nb_lt _ _
theorem pF_bit (h : Ts ts) (n : Int) {e : Nat} (he : e < ts.length) : (pF ts fl n).testBit (pw ts fl n (e, false)).1 = (pw ts fl n (e, false)).2 := by
  unfold pF
  rw [testBit_nb, (pT_ok h n).idx_get (pT_get n he), decide_eq_true (pw_lt h n he)]
  rfl
/-- what the item at p has at the bit, it has behind the turn where the bit goes -/
theorem go_fw (h : Ts ts) {p : Nat} {x : Nat × Bool} (hx : x.1 < ts.length) (hp : p.testBit x.1 = x.2) : (go ts fl p).testBit (fw ts fl x).1 = (fw ts fl x).2 := by
  unfold fw
  rw [go_bit h fl p (h.getD hx), hp]
theorem it_go_fw (h : Ts ts) : ∀ (n : Nat) {p : Nat} {x : Nat × Bool}, x.1 < ts.length → p.testBit x.1 = x.2 → (it (go ts fl) n p).testBit (it (fw ts fl) n x).1 = (it (fw ts fl) n x).2
  | 0, _, _, _, hp => hp
  | n + 1, _, _, hx, hp => go_fw h (it_fw_lt h n hx) (it_go_fw h n hx hp)
theorem it_go_lt (n : Nat) {p : Nat} (hp : p < 2 ^ ts.length) : it (go ts fl) n p < 2 ^ ts.length := by
  cases n with
  | zero => exact hp
  | succ n => exact go_lt _ _ _
/-- the power's way of an item -/
theorem go_p (h : Ts ts) (n : Int) (p : Nat) {e : Nat} (he : e < ts.length) : (go (pT ts fl n) (pF ts fl n) p).testBit (pw ts fl n (e, p.testBit e)).1 = (pw ts fl n (e, p.testBit e)).2 := by
  have f := pw_flip (ts := ts) (fl := fl) n e false (p.testBit e)
  rw [Bool.false_xor] at f
  rw [f]
  show (go (pT ts fl n) (pF ts fl n) p).testBit (pw ts fl n (e, false)).1 = _
  rw [go_bit (pT_ok h n) _ _ (pT_get n he), pF_bit h n he, Bool.xor_comm]
theorem go_pT_nonneg (h : Ts ts) (n : Nat) {p : Nat} (hp : p < 2 ^ ts.length) : go (pT ts fl n) (pF ts fl n) p = it (go ts fl) n p := by
  have l := go_lt (pT ts fl n) (pF ts fl n) p
  rw [pT_len] at l
  refine bits_ext l (it_go_lt n hp) fun t ht => ?_
  have hi : ts.length = (pT ts fl n).length := (pT_len _).symm
  have ht' : t < (pT ts fl n).length := by omega
  have he := (pT_ok (fl := fl) h n).idx_lt ht'
  have hg := (pT_ok (fl := fl) h n).get_idx ht'
  rw [pT_len] at he
  rw [pT_get _ he] at hg
  have a := go_p (fl := fl) h n p he
  have b := it_go_fw (fl := fl) h n (p := p) (x := ((pT ts fl n).idxOf t, p.testBit ((pT ts fl n).idxOf t))) he rfl
  have ew : it (fw ts fl) n ((pT ts fl n).idxOf t, p.testBit ((pT ts fl n).idxOf t)) = pw ts fl n ((pT ts fl n).idxOf t, p.testBit ((pT ts fl n).idxOf t)) := by
    unfold pw
    rw [if_pos (Int.natCast_nonneg n), Int.toNat_natCast]
  have f := pw_flip (ts := ts) (fl := fl) n ((pT ts fl n).idxOf t) false (p.testBit ((pT ts fl n).idxOf t))
  rw [Bool.false_xor] at f
  have e1 : (pw ts fl n ((pT ts fl n).idxOf t, p.testBit ((pT ts fl n).idxOf t))).1 = t := by
    rw [f]
    exact Option.some.inj hg
  rw [ew, e1] at b
  rw [e1] at a
  rw [a, b]
theorem go_pT_neg (h : Ts ts) (n : Nat) {p : Nat} (hp : p < 2 ^ ts.length) : it (go ts fl) n (go (pT ts fl (-(n : Int))) (pF ts fl (-(n : Int))) p) = p := by
  have l := go_lt (pT ts fl (-(n : Int))) (pF ts fl (-(n : Int))) p
  rw [pT_len] at l
  refine bits_ext (it_go_lt n l) hp fun e he => ?_
  have a := go_p (fl := fl) h (-(n : Int)) p he
  have b := it_go_fw (fl := fl) h n (pw_lt h (-(n : Int)) (x := (e, p.testBit e)) he) a
  have ew : it (fw ts fl) n (pw ts fl (-(n : Int)) (e, p.testBit e)) = (e, p.testBit e) := by
    have c := pw_add (fl := fl) h (-(n : Int)) (n : Int) (x := (e, p.testBit e)) he
    rw [Int.add_right_neg, pw_zero] at c
    have d : pw ts fl (n : Int) (pw ts fl (-(n : Int)) (e, p.testBit e)) = it (fw ts fl) n (pw ts fl (-(n : Int)) (e, p.testBit e)) := by
      generalize pw ts fl (-(n : Int)) (e, p.testBit e) = y
      unfold pw
      rw [if_pos (Int.natCast_nonneg n), Int.toNat_natCast]
    rw [← d, ← c]
  rw [ew] at b
  exact b
end

/-! ### a cycle, gone around twice -/
/-- c goes along the targets, from its last back to its first -/
structure Cyc (ts c : List Nat) : Prop where
  one : 1 ≤ c.length
  step : ∀ (i : Nat) (b : Nat), c[i]? = some b → ts[b]? = c[(i + 1) % c.length]?
def vis (fl : Nat) : List Nat → Bool → List (Nat × Bool)
  | [], _ => []
  | b :: r, v => (b, v ^^ fl.testBit b) :: vis fl r (v ^^ fl.testBit b)
def xs (fl : Nat) : List Nat → Bool → Bool
  | [], v => v
  | b :: r, v => xs fl r (v ^^ fl.testBit b)
theorem vis_len (fl : Nat) : ∀ (l : List Nat) (v : Bool), (vis fl l v).length = l.length
  | [], _ => rfl
  | b :: r, v => by
    show (vis fl r _).length + 1 = r.length + 1
    rw [vis_len fl r]
theorem xs_append (fl : Nat) (m : List Nat) : ∀ (l : List Nat) (v : Bool), xs fl (l ++ m) v = xs fl m (xs fl l v)
  | [], _ => rfl
  | b :: r, v => xs_append fl m r _
theorem xs_flip (fl : Nat) : ∀ (l : List Nat) (v b : Bool), xs fl l (v ^^ b) = (xs fl l v ^^ b)
  | [], _, _ => rfl
  | c :: r, v, b => by
    show xs fl r ((v ^^ b) ^^ fl.testBit c) = _
    rw [xor_swap, xs_flip fl r]
    rfl
theorem xs_twice (fl : Nat) (c : List Nat) (v : Bool) : xs fl (c ++ c) v = v := by
  rw [xs_append]
  have h : ∀ w, xs fl c w = (xs fl c false ^^ w) := fun w => by
    have := xs_flip fl c false w
    rw [Bool.false_xor] at this
    exact this
  rw [h (xs fl c v), h v]
  cases xs fl c false <;> cases v <;> rfl
theorem vis_get (fl : Nat) : ∀ (l : List Nat) (v : Bool) (i : Nat), i < l.length → (vis fl l v)[i]? = some (l.getD i 0, xs fl (l.take (i + 1)) v)
  | [], _, _, h => absurd h (by simp)
  | b :: r, v, 0, _ => by
    show some _ = some _
    simp [xs]
  | b :: r, v, i + 1, h => by
    show (vis fl r _)[i]? = _
    rw [vis_get fl r _ i (by simpa using h)]
    rfl
theorem vis_append (fl : Nat) (m : List Nat) : ∀ (l : List Nat) (v : Bool), vis fl (l ++ m) v = vis fl l v ++ vis fl m (xs fl l v)
  | [], _ => rfl
  | b :: r, v => by
    show (b, _) :: vis fl (r ++ m) _ = (b, _) :: (vis fl r _ ++ _)
    rw [vis_append fl m r]
    rfl
section
variable {ts c : List Nat} {fl : Nat}
theorem Cyc.lt (h : Cyc ts c) {b : Nat} (hb : b ∈ c) : b < ts.length := by
  obtain ⟨i, hi⟩ := List.mem_iff_getElem?.mp hb
  have e := h.step i b hi
  have l : (i + 1) % c.length < c.length := Nat.mod_lt _ h.one
  rw [List.getElem?_eq_getElem l] at e
  exact (List.getElem?_eq_some_iff.mp e).1
theorem twice_get {i : Nat} (h : i < 2 * c.length) : (c ++ c)[i]? = c[i % c.length]? := by
  by_cases hi : i < c.length
  · rw [List.getElem?_append_left hi, Nat.mod_eq_of_lt hi]
  · rw [List.getElem?_append_right (by omega), Nat.mod_eq_sub_mod (by omega), Nat.mod_eq_of_lt (by omega)]
theorem vis_at (h : Cyc ts c) {i : Nat} (hi : i < 2 * c.length) : ∃ b v, (vis fl (c ++ c) false)[i]? = some (b, v) ∧ c[i % c.length]? = some b ∧ v = xs fl ((c ++ c).take (i + 1)) false := by
  have hl : i < (c ++ c).length := by
    rw [List.length_append]
    omega
  refine ⟨_, _, vis_get fl _ _ _ hl, ?_, rfl⟩
  rw [← twice_get hi, List.getD_eq_getElem?_getD, List.getElem?_eq_getElem hl]
  rfl
theorem vis_step (h : Cyc ts c) {i : Nat} (hi : i < 2 * c.length) {x : Nat × Bool} (hx : (vis fl (c ++ c) false)[i]? = some x) : (vis fl (c ++ c) false)[(i + 1) % (2 * c.length)]? = some (fw ts fl x) := by
  obtain ⟨b, v, e1, e2, e3⟩ := vis_at (fl := fl) h hi
  rw [e1] at hx
  cases hx
  have pos := h.one
  have lj : (i + 1) % (2 * c.length) < 2 * c.length := Nat.mod_lt _ (by omega)
  obtain ⟨b', v', f1, f2, f3⟩ := vis_at (fl := fl) h lj
  rw [f1]
  have st := h.step _ _ e2
  have em : (i + 1) % (2 * c.length) % c.length = (i % c.length + 1) % c.length := by
    rw [Nat.mod_mul_left_mod, Nat.mod_add_mod]
  rw [em, ← st] at f2
  have eb : ts.getD b 0 = b' := by
    rw [List.getD_eq_getElem?_getD, f2]
    rfl
  show some (b', v') = some (ts.getD b 0, v ^^ fl.testBit (ts.getD b 0))
  rw [eb]
  refine congrArg some (Prod.ext rfl ?_)
  show v' = (v ^^ fl.testBit b')
  by_cases hl : i + 1 < 2 * c.length
  · rw [Nat.mod_eq_of_lt hl] at f3 f1
    have g : (c ++ c)[i + 1]? = some b' := by
      rw [twice_get hl]
      have := f2
      rw [st, Nat.mod_add_mod] at this
      exact this
    have ll : i + 1 < (c ++ c).length := (List.getElem?_eq_some_iff.mp g).1
    rw [f3, List.take_succ, g, xs_append, ← e3]
    rfl
  · have ei : i + 1 = 2 * c.length := by omega
    rw [ei, Nat.mod_self] at f3
    have e0 : v = false := by
      rw [e3, ei, List.take_of_length_le (by rw [List.length_append]; omega), xs_twice]
    have g : (c ++ c)[0]? = some b' := by
      rw [twice_get (by omega), Nat.zero_mod]
      have := f2
      rw [st, Nat.mod_add_mod, ei, show 2 * c.length % c.length = 0 by simp] at this
      exact this
    rw [f3, e0, List.take_succ, g]
    rfl
/-- n steps on, or back, of the two rounds -/
theorem vis_pw (ok : Ts ts) (h : Cyc ts c) {i : Nat} (hi : i < 2 * c.length) {x : Nat × Bool} (hx : (vis fl (c ++ c) false)[i]? = some x) (n : Int) :
    (vis fl (c ++ c) false)[(((i : Int) + n) % ((2 * c.length : Nat) : Int)).toNat]? = some (pw ts fl n x) := by
  have pos := h.one
  have lt1 : ∀ {j : Nat} {y : Nat × Bool}, (vis fl (c ++ c) false)[j]? = some y → y.1 < ts.length := fun {j y} e => by
    have hj : j < 2 * c.length := by
      have := (List.getElem?_eq_some_iff.mp e).1
      rw [vis_len, List.length_append] at this
      omega
    obtain ⟨b, v, e1, e2, _⟩ := vis_at (fl := fl) h hj
    rw [e1] at e
    cases e
    exact h.lt (List.mem_of_getElem? e2)
  have bnd : ∀ k : Int, 0 ≤ k % ((2 * c.length : Nat) : Int) ∧ k % ((2 * c.length : Nat) : Int) < ((2 * c.length : Nat) : Int) := fun k => ⟨Int.emod_nonneg _ (by omega), Int.emod_lt_of_pos _ (by omega)⟩
  refine int_ind (P := fun n => (vis fl (c ++ c) false)[(((i : Int) + n) % ((2 * c.length : Nat) : Int)).toNat]? = some (pw ts fl n x)) ?_ ?_ ?_ n
  · rw [Int.add_zero, Int.emod_eq_of_lt (by omega) (by omega), Int.toNat_natCast, pw_zero]
    exact hx
  · intro n ih
    obtain ⟨b1, b2⟩ := bnd ((i : Int) + n)
    have s := vis_step h (by omega) ih
    rw [pw_succ ok n (lt1 hx)]
    rw [← s]
    congr 1
    have e : ((i : Int) + (n + 1)) % ((2 * c.length : Nat) : Int) = (((i : Int) + n) % ((2 * c.length : Nat) : Int) + 1) % ((2 * c.length : Nat) : Int) := by
      rw [Int.emod_add_emod]
      congr 1
      omega
    rw [e]
    generalize ((i : Int) + n) % ((2 * c.length : Nat) : Int) = k at b1 b2 ⊢
    obtain ⟨k', rfl⟩ := Int.eq_ofNat_of_zero_le b1
    rw [Int.toNat_natCast, show ((k' : Int) + 1) = ((k' + 1 : Nat) : Int) by omega, ← Int.natCast_emod, Int.toNat_natCast]
  · intro n ih
    obtain ⟨b1, b2⟩ := bnd ((i : Int) + (n - 1))
    obtain ⟨k', hk⟩ := Int.eq_ofNat_of_zero_le b1
    have lk : k' < 2 * c.length := by omega
    obtain ⟨b, v, e1, e2, _⟩ := vis_at (fl := fl) h lk
    have s := vis_step h lk e1
    have e : ((i : Int) + n) % ((2 * c.length : Nat) : Int) = (((i : Int) + (n - 1)) % ((2 * c.length : Nat) : Int) + 1) % ((2 * c.length : Nat) : Int) := by
      rw [Int.emod_add_emod]
      congr 1
      omega
    rw [e, hk, show ((k' : Int) + 1) = ((k' + 1 : Nat) : Int) by omega, ← Int.natCast_emod, Int.toNat_natCast] at ih
    rw [s] at ih
    have q := Option.some.inj ih
    rw [hk, Int.toNat_natCast, e1, pw_pred ok n (lt1 hx), ← q, bw_fw ok (lt1 e1)]
end

/-! ### the cycles, found one by one -/
structure Pth (ts c : List Nat) (s b : Nat) : Prop where
  head : (c ++ [b])[0]? = some s
  step : ∀ (i x : Nat), c[i]? = some x → ts[x]? = (c ++ [b])[i + 1]?
  nd : c.Nodup
  lt : ∀ x ∈ c, x < ts.length
  end_ : b < ts.length
theorem Pth.nil {ts : List Nat} {s : Nat} (h : s < ts.length) : Pth ts [] s s := ⟨rfl, fun i x e => (by cases e), .nil, fun x e => (by cases e), h⟩
theorem Pth.push {ts c : List Nat} {s b t : Nat} (ok : Ts ts) (p : Pth ts c s b) (hb : b ∉ c) (ht : ts[b]? = some t) : Pth ts (c ++ [b]) s t := by
  refine ⟨?_, fun i x e => ?_, ?_, fun x hx => ?_, ok.lt t (List.mem_of_getElem? ht)⟩
  · rw [List.getElem?_append_left (by simp)]
    exact p.head
  · by_cases hi : i < c.length
    · rw [List.getElem?_append_left hi] at e
      rw [p.step i x e, List.getElem?_append_left (l₁ := c ++ [b]) (by simp; omega)]
    · rw [List.getElem?_append_right (by omega)] at e
      have e0 : i - c.length = 0 := by
        have := (List.getElem?_eq_some_iff.mp e).1
        simp at this
        omega
      rw [e0] at e
      cases e
      rw [ht, List.getElem?_append_right (by simp; omega)]
      simp
      rw [show i - c.length = 0 from e0]
      rfl
  · refine List.nodup_append.mpr ⟨p.nd, List.pairwise_singleton _ _, ?_⟩
    rintro x hx y hy rfl
    rw [List.mem_singleton.mp hy] at hx
    exact hb hx
  · rcases List.mem_append.mp hx with h | h
    · exact p.lt x h
    · rw [List.mem_singleton.mp h]
      exact p.end_
theorem Ts.inj {ts : List Nat} (ok : Ts ts) {a b t : Nat} (ha : ts[a]? = some t) (hb : ts[b]? = some t) : a = b := by
  rw [← ok.idx_get ha, ← ok.idx_get hb]
theorem nodup_at : ∀ {l : List Nat}, l.Nodup → ∀ {i j x : Nat}, l[i]? = some x → l[j]? = some x → i = j
  | [], _, i, j, x, hi, _ => by cases hi
  | a :: l, h, 0, 0, x, _, _ => rfl
  | a :: l, h, 0, j + 1, x, hi, hj => by
    have e : a = x := Option.some.inj hi
    subst e
    exact absurd (List.mem_of_getElem? (l := l) hj) (List.nodup_cons.mp h).1
  | a :: l, h, i + 1, 0, x, hi, hj => by
    have e : a = x := Option.some.inj hj
    subst e
    exact absurd (List.mem_of_getElem? (l := l) hi) (List.nodup_cons.mp h).1
  | a :: l, h, i + 1, j + 1, x, hi, hj => congrArg (· + 1) (nodup_at (l := l) (List.nodup_cons.mp h).2 hi hj)
theorem Pth.close {ts c : List Nat} {s b : Nat} (ok : Ts ts) (p : Pth ts c s b) (hb : b ∈ c) : Cyc ts c := by
  obtain ⟨j, hj⟩ := List.mem_iff_getElem?.mp hb
  have jl := (List.getElem?_eq_some_iff.mp hj).1
  have pos : 1 ≤ c.length := by omega
  obtain ⟨z, hz⟩ : ∃ z, c[c.length - 1]? = some z := ⟨_, List.getElem?_eq_getElem (by omega)⟩
  have ez := p.step _ _ hz
  rw [show c.length - 1 + 1 = c.length by omega, List.getElem?_append_right (Nat.le_refl _), Nat.sub_self] at ez
  have j0 : j = 0 := by
    cases j with
    | zero => rfl
    | succ j =>
      obtain ⟨y, hy⟩ : ∃ y, c[j]? = some y := ⟨_, List.getElem?_eq_getElem (by omega)⟩
      have ey := p.step _ _ hy
      rw [List.getElem?_append_left (by omega), hj] at ey
      have := ok.inj ey ez
      subst this
      have := nodup_at p.nd hy hz
      omega
  subst j0
  refine ⟨pos, fun i x e => ?_⟩
  have il := (List.getElem?_eq_some_iff.mp e).1
  rw [p.step i x e]
  by_cases h : i + 1 < c.length
  · rw [Nat.mod_eq_of_lt h, List.getElem?_append_left h]
  · have ei : i + 1 = c.length := by omega
    rw [ei, Nat.mod_self, hj, List.getElem?_append_right (Nat.le_refl _), Nat.sub_self]
    rfl
structure Cov (ts : List Nat) (cs : List (List Nat)) (vs : List Bool) (i : Nat) : Prop where
  len : vs.length = ts.length
  cyc : ∀ c ∈ cs, Cyc ts c
  sub : ∀ e : Nat, vs[e]? = some true → ∃ c ∈ cs, e ∈ c
  sup : ∀ c ∈ cs, ∀ e ∈ c, vs[e]? = some true
  upto : ∀ e, e < i → vs[e]? = some true
  few : cs.length ≤ i
  short : ∀ c ∈ cs, c.length ≤ ts.length
  nd : cs.flatten.Nodup
theorem Cov.start (ts : List Nat) : Cov ts [] (List.replicate ts.length false) 0 := by
  refine ⟨List.length_replicate, fun c h => (by cases h), fun e h => ?_, fun c h => (by cases h), fun e h => absurd h (by omega), Nat.le_refl _, fun c h => (by cases h), List.nodup_nil⟩
  rw [List.getElem?_replicate] at h
  split at h <;> simp at h
theorem Cov.perm {ts : List Nat} {cs : List (List Nat)} {vs : List Bool} (h : Cov ts cs vs ts.length) : cs.flatten.Perm (List.range ts.length) := by
  refine (List.perm_ext_iff_of_nodup h.nd List.nodup_range).mpr fun e => ?_
  rw [List.mem_flatten, List.mem_range]
  constructor
  · rintro ⟨c, hc, ec⟩
    have := (List.getElem?_eq_some_iff.mp (h.sup c hc e ec)).1
    rw [h.len] at this
    exact this
  · intro he
    exact h.sub e (h.upto e he)
theorem Cov.back {ts : List Nat} {cs : List (List Nat)} {vs : List Bool} {i e t : Nat} (ok : Ts ts) (h : Cov ts cs vs i) (ht : ts[e]? = some t) (hs : vs[t]? = some true) : vs[e]? = some true := by
  obtain ⟨c, hc, tc⟩ := h.sub t hs
  have cy := h.cyc c hc
  obtain ⟨j, hj⟩ := List.mem_iff_getElem?.mp tc
  have jl := (List.getElem?_eq_some_iff.mp hj).1
  have pos := cy.one
  obtain ⟨k, hk, ek⟩ : ∃ k, k < c.length ∧ (k + 1) % c.length = j := by
    cases j with
    | zero => exact ⟨c.length - 1, by omega, by rw [show c.length - 1 + 1 = c.length by omega, Nat.mod_self]⟩
    | succ j => exact ⟨j, by omega, Nat.mod_eq_of_lt jl⟩
  obtain ⟨y, hy⟩ : ∃ y, c[k]? = some y := ⟨_, List.getElem?_eq_getElem hk⟩
  have ey := cy.step k y hy
  rw [ek, hj] at ey
  have := ok.inj ht ey
  subst this
  exact h.sup c hc _ (List.mem_of_getElem? hy)
structure Mid (ts : List Nat) (cs : List (List Nat)) (vs0 : List Bool) (i : Nat) (c : List Nat) (vs : List Bool) (b : Nat) : Prop where
  cov : Cov ts cs vs0 i
  pth : Pth ts c i b
  len : vs.length = ts.length
  iff_ : ∀ e : Nat, vs[e]? = some true ↔ (vs0[e]? = some true ∨ e ∈ c)
  dis : ∀ e ∈ c, ¬ vs0[e]? = some true
section
variable {ts : List Nat} {cs : List (List Nat)} {vs0 vs : List Bool} {i b : Nat} {c : List Nat}
theorem Mid.start (h : Cov ts cs vs0 i) (hi : i < ts.length) : Mid ts cs vs0 i [] vs0 i := ⟨h, .nil hi, h.len, fun e => ⟨.inl, fun z => z.elim id fun q => (by cases q)⟩, fun e q => (by cases q)⟩
theorem Mid.at (h : Mid ts cs vs0 i c vs b) : ∃ k, vs[b]? = some k := ⟨_, List.getElem?_eq_getElem (by rw [h.len]; exact h.pth.end_)⟩
theorem Mid.few (h : Mid ts cs vs0 i c vs b) : c.length ≤ ts.length := nodup_lt_length h.pth.nd h.pth.lt
theorem Mid.next (ok : Ts ts) (h : Mid ts cs vs0 i c vs b) (hb : vs[b]? = some false) : Mid ts cs vs0 i (c ++ [b]) (vs.set b true) (ts.getD b 0) := by
  have nb : b ∉ c := fun z => by
    have := (h.iff_ b).mpr (.inr z)
    rw [hb] at this
    cases this
  have n0 : ¬ vs0[b]? = some true := fun z => by
    have := (h.iff_ b).mpr (.inl z)
    rw [hb] at this
    cases this
  refine ⟨h.cov, h.pth.push ok nb (ok.getD h.pth.end_), by rw [List.length_set]; exact h.len, fun e => ?_, fun e he => ?_⟩
  · by_cases eb : e = b
    · subst eb
      rw [List.getElem?_set_self (by rw [h.len]; exact h.pth.end_)]
      simp
    · rw [List.getElem?_set_ne (Ne.symm eb), h.iff_ e]
      simp [eb]
  · rcases List.mem_append.mp he with q | q
    · exact h.dis e q
    · rw [List.mem_singleton.mp q]
      exact n0
theorem Mid.done (ok : Ts ts) (h : Mid ts cs vs0 i c vs b) (hb : vs[b]? = some true) : (c = [] ∧ Cov ts cs vs (i + 1)) ∨ (c ≠ [] ∧ Cov ts (cs ++ [c]) vs (i + 1)) := by
  have V := h.cov
  by_cases hc : c = []
  · subst hc
    have eb : b = i := by
      have := h.pth.head
      exact Option.some.inj this
    subst eb
    have same : ∀ e : Nat, vs[e]? = some true ↔ vs0[e]? = some true := fun e => by
      rw [h.iff_ e]
      simp
    refine .inl ⟨rfl, h.len, V.cyc, fun e q => V.sub e ((same e).mp q), fun c hc e he => (same e).mpr (V.sup c hc e he), fun e he => ?_, by have := V.few; omega, V.short, V.nd⟩
    by_cases e2 : e = b
    · subst e2
      exact hb
    · exact (same e).mpr (V.upto e (by omega))
  · have pos : 0 < c.length := List.length_pos_iff.mpr hc
    have n0 : ¬ vs0[b]? = some true := fun z => by
      obtain ⟨y, hy⟩ : ∃ y, c[c.length - 1]? = some y := ⟨_, List.getElem?_eq_getElem (by omega)⟩
      have ey := h.pth.step _ _ hy
      rw [show c.length - 1 + 1 = c.length by omega, List.getElem?_append_right (Nat.le_refl _), Nat.sub_self] at ey
      exact h.dis y (List.mem_of_getElem? hy) (V.back ok ey z)
    have bc : b ∈ c := ((h.iff_ b).mp hb).elim (fun z => absurd z n0) id
    have cy := h.pth.close ok bc
    have ic : i ∈ c := by
      have := h.pth.head
      rw [List.getElem?_append_left pos] at this
      exact List.mem_of_getElem? this
    have ndn : (cs ++ [c]).flatten.Nodup := by
      rw [List.flatten_append, List.flatten_singleton, List.nodup_append]
      refine ⟨V.nd, h.pth.nd, fun a ha b hb e => ?_⟩
      subst e
      obtain ⟨d, hd, ad⟩ := List.mem_flatten.mp ha
      exact h.dis a hb (V.sup d hd a ad)
    refine .inr ⟨hc, h.len, fun d hd => ?_, fun e q => ?_, fun d hd e he => ?_, fun e he => ?_, ?_, fun d hd => ?_, ndn⟩
    · rcases List.mem_append.mp hd with q | q
      · exact V.cyc d q
      · rw [List.mem_singleton.mp q]
        exact cy
    · rcases (h.iff_ e).mp q with q | q
      · obtain ⟨d, hd, ed⟩ := V.sub e q
        exact ⟨d, List.mem_append_left _ hd, ed⟩
      · exact ⟨c, List.mem_append_right _ (List.mem_singleton.mpr rfl), q⟩
    · rcases List.mem_append.mp hd with q | q
      · exact (h.iff_ e).mpr (.inl (V.sup d q e he))
      · rw [List.mem_singleton.mp q] at he
        exact (h.iff_ e).mpr (.inr he)
    · by_cases e2 : e = i
      · subst e2
        exact (h.iff_ e).mpr (.inr ic)
      · exact (h.iff_ e).mpr (.inl (V.upto e (by omega)))
    · rw [List.length_append]
      have := V.few
      simp
      exact this
    · rcases List.mem_append.mp hd with q | q
      · exact V.short d q
      · rw [List.mem_singleton.mp q]
        exact h.few
end

/-! ### the power, bit by bit -/
structure Pi (ts : List Nat) (fl : Nat) (n : Int) (tg : List Nat) (F : Nat) (D : Nat → Prop) : Prop where
  len : tg.length = ts.length
  lt : F < 2 ^ ts.length
  tgt : ∀ e, D e → tg[e]? = some (pw ts fl n (e, false)).1
  bit : ∀ t, F.testBit t = true ↔ ∃ e, D e ∧ (pw ts fl n (e, false)).1 = t ∧ (pw ts fl n (e, false)).2 = true
section
variable {ts : List Nat} {fl : Nat} {n : Int} {tg : List Nat} {F : Nat} {D D' : Nat → Prop}
theorem Pi.start (ts : List Nat) (fl : Nat) (n : Int) : Pi ts fl n (List.replicate ts.length 0) 0 (fun _ => False) := by
  refine ⟨List.length_replicate, Nat.two_pow_pos _, fun e h => h.elim, fun t => ?_⟩
  rw [Nat.zero_testBit]
  exact ⟨fun h => (by cases h), fun ⟨e, h, _⟩ => h.elim⟩
theorem Pi.imp (h : Pi ts fl n tg F D) (g : ∀ e, D e ↔ D' e) : Pi ts fl n tg F D' := by
  have e : D = D' := funext fun x => propext (g x)
  rw [← e]
  exact h
theorem Pi.next (ok : Ts ts) (h : Pi ts fl n tg F D) {e : Nat} (he : e < ts.length) :
    Pi ts fl n (tg.set e (pw ts fl n (e, false)).1) (F ||| (pw ts fl n (e, false)).2.toNat * 2 ^ (pw ts fl n (e, false)).1) (fun x => D x ∨ x = e) := by
  have hl := pw_lt (fl := fl) ok n (x := (e, false)) he
  have hb : (pw ts fl n (e, false)).2.toNat * 2 ^ (pw ts fl n (e, false)).1 < 2 ^ ts.length := by
    cases (pw ts fl n (e, false)).2
    · simp
      exact Nat.two_pow_pos _
    · simp
      exact Nat.pow_lt_pow_right (by decide) hl
  refine ⟨by rw [List.length_set]; exact h.len, Nat.or_lt_two_pow h.lt hb, fun x hx => ?_, fun t => ?_⟩
  · by_cases q : x = e
    · subst q
      rw [List.getElem?_set_self (by rw [h.len]; exact he)]
    · rw [List.getElem?_set_ne (Ne.symm q)]
      exact h.tgt x (hx.resolve_right q)
  · rw [Nat.testBit_or, Bool.or_eq_true, h.bit t]
    have tb : ((pw ts fl n (e, false)).2.toNat * 2 ^ (pw ts fl n (e, false)).1).testBit t = true ↔ (pw ts fl n (e, false)).1 = t ∧ (pw ts fl n (e, false)).2 = true := by
      cases hv : (pw ts fl n (e, false)).2
      · simp
      · simp only [Bool.toNat_true, Nat.one_mul, Nat.testBit_two_pow, decide_eq_true_eq, and_true]
    rw [tb]
    constructor
    · rintro (⟨x, dx, h1, h2⟩ | ⟨h1, h2⟩)
      · exact ⟨x, .inl dx, h1, h2⟩
      · exact ⟨e, .inr rfl, h1, h2⟩
    · rintro ⟨x, dx | rfl, h1, h2⟩
      · exact .inl ⟨x, dx, h1, h2⟩
      · exact .inr ⟨h1, h2⟩
theorem Pi.all (ok : Ts ts) (h : Pi ts fl n tg F D) (hD : ∀ e, D e ↔ e < ts.length) : tg = pT ts fl n ∧ F = pF ts fl n := by
  refine ⟨List.ext_getElem? fun e => ?_, ?_⟩
  · by_cases he : e < ts.length
    · rw [pT_get n he]
      exact h.tgt e ((hD e).mpr he)
    · rw [List.getElem?_eq_none (by rw [h.len]; omega), List.getElem?_eq_none (by rw [pT_len]; omega)]
  · refine bits_ext h.lt (pF_lt n) fun t ht => ?_
    have ht' : t < (pT ts fl n).length := by rw [pT_len]; exact ht
    have hi := (pT_ok (fl := fl) ok n).idx_lt ht'
    rw [pT_len] at hi
    have hg := (pT_ok (fl := fl) ok n).get_idx ht'
    rw [pT_get n hi] at hg
    have et : (pw ts fl n ((pT ts fl n).idxOf t, false)).1 = t := Option.some.inj hg
    have pb := pF_bit (fl := fl) ok n hi
    rw [et] at pb
    rw [pb]
    have b := h.bit t
    cases hv : (pw ts fl n ((pT ts fl n).idxOf t, false)).2 with
    | true => exact b.mpr ⟨_, (hD _).mpr hi, et, hv⟩
    | false =>
      cases hF : F.testBit t with
      | false => rfl
      | true =>
        obtain ⟨e, de, h1, h2⟩ := b.mp hF
        have := pw_inj1 ok ((hD e).mp de) hi (h1.trans et.symm)
        subst this
        rw [hv] at h2
        cases h2
/-- what the two visits tell -/
theorem pw_two {e : Nat} {v : Bool} {t : Nat} {w : Bool} (h : pw ts fl n (e, v) = (t, w)) : pw ts fl n (e, false) = (t, v ^^ w) := by
  have f := pw_flip (ts := ts) (fl := fl) n e v v
  rw [Bool.xor_self, h] at f
  rw [f, Bool.xor_comm]
end
end M

/-! Heaps that grow; promises by the number of parameters; ints as naturals and bits. -/
namespace G
open PySem PySem.Spec PyProof.Rows L2

/-! ### promises of one to four parameters -/
def sp1 (P : V → Hp → VK → Prop) : Sp := fun vs H Q _ => ∃ a, vs = [a] ∧ P a H Q
def sp2 (P : V → V → Hp → VK → Prop) : Sp := fun vs H Q _ => ∃ a b, vs = [a, b] ∧ P a b H Q
def sp3 (P : V → V → V → Hp → VK → Prop) : Sp := fun vs H Q _ => ∃ a b c, vs = [a, b, c] ∧ P a b c H Q
def sp4 (P : V → V → V → V → Hp → VK → Prop) : Sp := fun vs H Q _ => ∃ a b c d, vs = [a, b, c, d] ∧ P a b c d H Q
def sp5 (P : V → V → V → V → V → Hp → VK → Prop) : Sp := fun vs H Q _ => ∃ a b c d e, vs = [a, b, c, d, e] ∧ P a b c d e H Q
theorem sp5_len {P : V → V → V → V → V → Hp → VK → Prop} {x y z u v : Str} : ∀ vs H Q E, sp5 P vs H Q E → vs.length = [x, y, z, u, v].length := fun vs H Q E h => by
  obtain ⟨a, b, c, d, e, rfl, _⟩ := h
  rfl
theorem sp1_len {P : V → Hp → VK → Prop} {x : Str} : ∀ vs H Q E, sp1 P vs H Q E → vs.length = [x].length := fun vs H Q E h => by
  obtain ⟨a, rfl, _⟩ := h
  rfl
theorem sp2_len {P : V → V → Hp → VK → Prop} {x y : Str} : ∀ vs H Q E, sp2 P vs H Q E → vs.length = [x, y].length := fun vs H Q E h => by
  obtain ⟨a, b, rfl, _⟩ := h
  rfl
theorem sp3_len {P : V → V → V → Hp → VK → Prop} {x y z : Str} : ∀ vs H Q E, sp3 P vs H Q E → vs.length = [x, y, z].length := fun vs H Q E h => by
  obtain ⟨a, b, c, rfl, _⟩ := h
  rfl
theorem sp4_len {P : V → V → V → V → Hp → VK → Prop} {x y z u : Str} : ∀ vs H Q E, sp4 P vs H Q E → vs.length = [x, y, z, u].length := fun vs H Q E h => by
  obtain ⟨a, b, c, d, rfl, _⟩ := h
  rfl

/-! ### what is tracked stays -/
def Ext (H H' : Hp) : Prop := ∀ b o, H b = some o → H' b = some o
theorem Ext.refl (H : Hp) : Ext H H := fun _ _ h => h
theorem Ext.trans {H H1 H2 : Hp} (a : Ext H H1) (b : Ext H1 H2) : Ext H H2 := fun c o h => b c o (a c o h)
theorem Ext.new {H : Hp} {p : Addr} {o : HO} (h : H p = none) : Ext H (upd H p o) := fun a u e => by
  rw [upd_ne (ne_of_none e h)]
  exact e
theorem Ext.new' {H H1 : Hp} {p : Addr} {o : HO} (e : Ext H H1) (h : H1 p = none) : Ext H (upd H1 p o) := e.trans (Ext.new h)
/-- what H does not know may change -/
theorem Ext.mut {H H1 : Hp} {p : Addr} {o : HO} (e : Ext H H1) (h : H p = none) : Ext H (upd H1 p o) := fun a u ha => by
  rw [upd_ne (ne_of_none ha h)]
  exact e a u ha
theorem Ext.free {H H1 : Hp} {p : Addr} (e : Ext H H1) (h : H1 p = none) : H p = none := by
  cases q : H p with
  | none => rfl
  | some o =>
    rw [e p o q] at h
    cases h
theorem Ext.sqL {K : PySem.W.Frag} {H H1 : Hp} {a : Addr} {xs : List V} (e : Ext H H1) (h : SqL K H a xs) : SqL K H1 a xs := by
  rcases h with (h | ⟨o, h⟩) | h
  · exact .inl (.inl (e _ _ h))
  · exact .inl (.inr ⟨o, e _ _ h⟩)
  · exact .inr h
theorem Ext.sqT {K : PySem.W.Frag} {H H1 : Hp} {a : Addr} {xs : List V} (e : Ext H H1) (h : SqT K H a xs) : SqT K H1 a xs := by
  rcases h with (h | ⟨o, h⟩) | h
  · exact .inl (.inl (e _ _ h))
  · exact .inl (.inr ⟨o, e _ _ h⟩)
  · exact .inr h

/-! ### all stays but one list (the reel of the draws) -/
def Stp (r : Addr) (H H' : Hp) : Prop := ∀ b o, H b = some o → b ≠ r → H' b = some o
theorem Stp.refl (r : Addr) (H : Hp) : Stp r H H := fun _ _ h _ => h
theorem Stp.trans {r : Addr} {H H1 H2 : Hp} (a : Stp r H H1) (b : Stp r H1 H2) : Stp r H H2 := fun c o h hc => b c o (a c o h hc) hc
theorem Ext.stp {r : Addr} {H H1 : Hp} (e : Ext H H1) : Stp r H H1 := fun b o h _ => e b o h
theorem Stp.ext {r : Addr} {H H1 H2 : Hp} (a : Stp r H H1) (e : Ext H1 H2) : Stp r H H2 := a.trans e.stp
theorem Stp.put {r : Addr} {H : Hp} {o : HO} : Stp r H (upd H r o) := fun b u h hb => by
  rw [upd_ne hb]
  exact h
theorem Stp.free {r : Addr} {H H1 : Hp} {p : Addr} (e : Stp r H H1) (h : H1 p = none) (hp : p ≠ r) : H p = none := by
  cases q : H p with
  | none => rfl
  | some o =>
    rw [e p o q hp] at h
    cases h

/-! ### ints -/
/-- a list of naturals, as values -/
def nv (l : List Nat) : List V := l.map fun (n : Nat) => V.int (n : Int)
theorem nv_len (l : List Nat) : (nv l).length = l.length := List.length_map _
theorem nv_get {l : List Nat} {i : Nat} {v : V} (h : (nv l)[i]? = some v) : ∃ n, l[i]? = some n ∧ v = .int (n : Int) := by
  unfold nv at h
  rw [List.getElem?_map] at h
  cases e : l[i]? with
  | none =>
    rw [e] at h
    cases h
  | some n =>
    rw [e] at h
    exact ⟨n, rfl, (Option.some.inj h).symm⟩
theorem nv_at {l : List Nat} {i n : Nat} (h : l[i]? = some n) : (nv l)[i]? = some (.int (n : Int)) := by
  unfold nv
  rw [List.getElem?_map, h]
  rfl
theorem nv_ints (l : List Nat) : nv l = (l.map fun (n : Nat) => (n : Int)).map V.int := by
  unfold nv
  rw [List.map_map]
  rfl
theorem atI_nv {l : List Nat} {i n : Nat} (h : l[i]? = some n) : atI (nv l) (i : Int) = some (.int (n : Int)) := atI_nat (nv_at h)
theorem rgV_nv (n : Nat) : rgV 0 (n : Int) = nv (List.range n) := by
  unfold rgV nv
  rw [show ((n : Int) - 0).toNat = n by omega]
  refine List.map_congr_left fun i _ => ?_
  rw [Int.zero_add]
theorem nv_append (a b : List Nat) : nv (a ++ b) = nv a ++ nv b := List.map_append
theorem nv_set (l : List Nat) (i n : Nat) : (nv l).set i (.int (n : Int)) = nv (l.set i n) := by
  unfold nv
  rw [List.map_set]
theorem nv_rev (l : List Nat) : (nv l).reverse = nv l.reverse := List.map_reverse.symm

theorem or_parts : ∀ a b : Nat, a ||| b = (a ^^^ b) + (a &&& b) := by
  intro a
  induction a using Nat.strongRecOn with
  | _ a ih =>
    intro b
    by_cases h0 : a = 0
    · subst h0
      simp
    have e1 := ih (a / 2) (by omega) (b / 2)
    have d1 : (a ||| b) / 2 = a / 2 ||| b / 2 := Nat.or_div_two
    have d2 : (a ^^^ b) / 2 = a / 2 ^^^ b / 2 := Nat.xor_div_two
    have d3 : (a &&& b) / 2 = a / 2 &&& b / 2 := Nat.and_div_two
    have m1 : (a ||| b) % 2 = 1 ↔ a % 2 = 1 ∨ b % 2 = 1 := Nat.or_mod_two_eq_one
    have m2 : (a &&& b) % 2 = 1 ↔ a % 2 = 1 ∧ b % 2 = 1 := Nat.and_mod_two_eq_one
    have m3 : (a ^^^ b) % 2 = 1 ↔ ¬(a % 2 = 1 ↔ b % 2 = 1) := Nat.xor_mod_two_eq_one
    omega
theorem bitAnd_nat (a b : Nat) : Builtin.bitAnd (a : Int) (b : Int) = ((a &&& b : Nat) : Int) := by
  unfold Builtin.bitAnd
  rw [decide_eq_true (Int.natCast_nonneg a), decide_eq_true (Int.natCast_nonneg b)]
  simp
theorem bitOr_nat (a b : Nat) : Builtin.bitOr (a : Int) (b : Int) = ((a ||| b : Nat) : Int) := bitOr_nn (Int.natCast_nonneg a) (Int.natCast_nonneg b)
theorem bitXor_nat (a b : Nat) : Builtin.bitXor (a : Int) (b : Int) = ((a ^^^ b : Nat) : Int) := by
  unfold Builtin.bitXor
  rw [bitAnd_nat, bitOr_nat]
  have := or_parts a b
  omega
theorem shr_nat (a : Nat) (k : Nat) : (a : Int) / 2 ^ ((k : Int).toNat) = ((a / 2 ^ k : Nat) : Int) := by
  rw [Int.toNat_natCast]
  simp
theorem shl_nat (a : Nat) (k : Nat) : (a : Int) * 2 ^ ((k : Int).toNat) = ((a * 2 ^ k : Nat) : Int) := by
  rw [Int.toNat_natCast]
  simp
theorem one_shl (k : Nat) : (1 : Int) * 2 ^ ((k : Int).toNat) = ((2 ^ k : Nat) : Int) := by
  rw [Int.toNat_natCast, Int.one_mul]
  simp
/-- (x >> k) & 1 -/
theorem bit_at (a k : Nat) : Builtin.bitAnd ((a : Int) / 2 ^ ((k : Int).toNat)) 1 = (((a.testBit k).toNat : Nat) : Int) := by
  rw [shr_nat]
  show Builtin.bitAnd ((a / 2 ^ k : Nat) : Int) ((1 : Nat) : Int) = _
  rw [bitAnd_nat, Nat.and_one_is_mod, Nat.testBit_eq_decide_div_mod_eq]
  have : a / 2 ^ k % 2 = 0 ∨ a / 2 ^ k % 2 = 1 := by omega
  rcases this with h | h <;> rw [h] <;> simp
/-! ### lists of naturals as data -/
def nd (l : List Nat) : List PyData := l.map fun (n : Nat) => PyData.int (n : Int)
theorem dpAll_nv {K : PySem.W.Frag} {H : Hp} : ∀ l : List Nat, DpAll K H (nv l) (nd l)
  | [] => .nil
  | n :: l => .cons (.int _) (dpAll_nv l)
theorem dp_nv {K : PySem.W.Frag} {H : Hp} {a : Addr} {l : List Nat} (h : H a = some (.lst (nv l))) : Dp K H (.ref a) (.list (nd l)) := .lst (SqL.of h) (dpAll_nv l)
open PyData in
theorem nd_canLay : ∀ l : List Nat, canLayAll0 (nd l) = true
  | [] => by simp only [nd, List.map_nil, canLayAll0]
  | n :: l => by
    have ih := nd_canLay l
    unfold nd at ih ⊢
    simp only [List.map_cons, canLayAll0, canLay0, Bool.true_and]
    exact ih
open PyData in
theorem nd_depth : ∀ l : List Nat, depthAll (nd l) = 0
  | [] => by simp only [nd, List.map_nil, depthAll]
  | n :: l => by
    have ih := nd_depth l
    unfold nd at ih ⊢
    simp only [List.map_cons, depthAll, depth, Nat.zero_max]
    exact ih
open PyData in
theorem nd_eqvAll : ∀ l m : List Nat, eqvAll (nd l) (nd m) = decide (l = m)
  | [], [] => by simp [nd, eqvAll]
  | [], b :: m => by simp [nd, eqvAll]
  | a :: l, [] => by simp [nd, eqvAll]
  | a :: l, b :: m => by
    have ih := nd_eqvAll l m
    show (eqv (.int (a : Int)) (.int (b : Int)) && eqvAll (nd l) (nd m)) = _
    rw [ih]
    have e : eqv (.int (a : Int)) (.int (b : Int)) = decide (a = b) := by
      unfold eqv
      by_cases h : a = b
      · subst h
        simp
      · have h' : ¬ ((a : Int) = (b : Int)) := by omega
        simp [h, h']
    rw [e]
    by_cases h : a = b <;> by_cases g : l = m <;> simp [h, g]
theorem nd_shaped (l : List Nat) : SeqAt.shaped (.list (nd l)) = true := by
  unfold SeqAt.shaped
  rw [show PyData.canLay0 (.list (nd l)) = true by unfold PyData.canLay0; exact nd_canLay l]
  unfold PyData.depth
  rw [nd_depth]
  rfl
theorem nd_eq (l m : List Nat) : PyData.eqv (.list (nd l)) (.list (nd m)) = decide (l = m) := by
  unfold PyData.eqv
  exact nd_eqvAll l m

/-! ### their texts -/
theorem textFrom_le : ∀ (ts : List Str) (k : Nat) (acc : Str), (textFrom k acc ts).length ≤ acc.length + piled ts
  | [], k, acc => by
    rw [piled_nil]
    exact Nat.le_refl _
  | t :: r, k, acc => by
    have ih := textFrom_le r (k + 1) (acc ++ (if k > 0 then ", " else "" : String) ++ t)
    have e : ((((if k > 0 then ", " else "" : String)) : Str)).length ≤ 2 := by split <;> decide +kernel
    rw [strLen_append, strLen_append] at ih
    rw [piled_cons]
    show (textFrom (k + 1) _ r).length ≤ _
    omega
theorem listText_le (ts : List Str) : (listText ts).length ≤ piled ts + 2 := by
  have h := textFrom_le ts 0 "["
  have e1 : ((("[" : String) : Str)).length = 1 := rfl
  have e2 : ((("]" : String) : Str)).length = 1 := rfl
  unfold listText
  rw [strLen_append, e2]
  omega
theorem int_show_le {i : Int} (h : i.natAbs.log2 < 1920) : (PyData.shown (.int i)).length ≤ 1921 := by
  unfold PyData.shown
  exact int_text_len_1921 h
open PyData in
theorem nd_show : ∀ l : List Nat, (∀ n ∈ l, n < 2 ^ 1900) → showableAll (nd l) = true ∧ hasDictAll (nd l) = false ∧ piled (shownAll (nd l)) ≤ 1923 * l.length
  | [], _ => ⟨by simp only [nd, List.map_nil, showableAll], by simp only [nd, List.map_nil, hasDictAll], by simp [nd, shownAll, piled]⟩
  | n :: l, h => by
    obtain ⟨h1, h2, h3⟩ := nd_show l fun x hx => h x (List.mem_cons_of_mem _ hx)
    have hl : ((n : Int)).natAbs.log2 < 1920 := by
      have := h n List.mem_cons_self
      rw [Int.natAbs_natCast]
      by_cases h0 : n = 0
      · subst h0
        decide
      · rw [Nat.log2_lt h0]
        exact Nat.lt_trans this (Nat.pow_lt_pow_right (by decide) (by decide))
    have h4 := int_show_le hl
    unfold nd at h1 h2 h3 ⊢
    simp only [List.map_cons, showableAll, showable, hasDictAll, hasDict, shownAll, piled_cons, List.length_cons, decide_eq_true hl, Bool.true_and, Bool.false_or]
    exact ⟨h1, h2, by omega⟩
theorem cut_from (xs : List V) (k : Nat) (h : k ≤ xs.length) : cutV xs (some (k : Int)) none = xs.drop k := by
  unfold cutV
  rw [HT.sIx_nat, HT.sIx_none, Nat.min_eq_left h, List.take_of_length_le (by rw [List.length_drop]; exact Nat.le_refl _)]
theorem cut_to (xs : List V) (k : Nat) (h : k ≤ xs.length) : cutV xs none (some (k : Int)) = xs.take k := by
  unfold cutV
  rw [HT.sIx_nat, HT.sIx_none, Nat.min_eq_left h]
  rfl
end G

/-! Readings, step by step: for each transformer the one step that it stands for. -/
namespace G
open PySem PySem.Spec PyProof.Rows L2
section
variable {D : Ends} {σ : L2.St} {H : Hp} {Q : VK} {t u : TS} {te ta tb tc : TE} {tt tu : TT} {tl tr : TA} {g : TG} {gs : TGs} {v x y : V} {i j : Int} {K : PySem.W.Frag} {r r' : R2} {QT : Bool → Hp → Prop} {QL : List V → Hp → Prop} {QS : L2.St → Hp → Prop}
theorem g_seq (h : t { D with nx := u D } σ H) : tSeq t u D σ H := h
theorem g_next (h : D.nx σ H) : tNext D σ H := h
theorem g_asg (h : te σ H fun x H1 => g x σ H1 D.nx) : tAsg te g D σ H := h
theorem g_drop (h : te σ H fun _ H1 => D.nx σ H1) : tDrop te D σ H := h
theorem g_ret (h : te σ H D.rt) : tRet te D σ H := h
theorem g_if (h : tt σ H fun b H1 => if b = true then t D σ H1 else u D σ H1) : tIfS tt t u D σ H := h
theorem g_par {a b : Nat} (h : tl σ H fun vs H1 => ∃ v w, vs = [v, w] ∧ D.nx ((σ.set a (some v)).set b (some w)) H1) : tPar a b tl D σ H := h
theorem g_par2 {a b : Nat} {v w : V} (h : QS ((σ.set a (some v)).set b (some w)) H) : ∃ v' w', [v, w] = [v', w'] ∧ QS ((σ.set a (some v')).set b (some w')) H := ⟨v, w, rfl, h⟩
theorem g_name {n : Nat} (h : QS (σ.set n (some v)) H) : gName n v σ H QS := h
theorem g_gtup {a : Addr} {n : Nat} {xs : List V} (hs : SqT K H a xs) (hl : xs.length = n) (h : gs xs σ H QS) : gTup K n gs (.ref a) σ H QS := ⟨a, xs, rfl, hs, hl, h⟩
theorem g_gcons {vs : List V} (h : g v σ H fun σ' H' => gs vs σ' H' QS) : gCons g gs (v :: vs) σ H QS := ⟨v, vs, rfl, h⟩
theorem g_gnil (h : QS σ H) : gNil [] σ H QS := ⟨rfl, h⟩
theorem g_gsub {t : TSet} (h : ta σ H fun o H1 => tb σ H1 fun i H2 => t o i v H2 fun H3 => QS σ H3) : gSub ta tb t v σ H QS := h
theorem g_var {n : Nat} (e : σ[n]? = some (some v)) (h : Q v H) : tVar n σ H Q := ⟨v, e, h⟩
theorem g_c (h : Q v H) : tC v σ H Q := h
theorem g_op (h : ta σ H fun x H1 => tb σ H1 fun y H2 => r x y H2 Q) : tOp r ta tb σ H Q := h
theorem g_un {r : V → Hp → VK → Prop} (h : ta σ H fun x H1 => r x H1 Q) : tUn r ta σ H Q := h
theorem g_I0 {f : Int → Int → V} (h : Q (f i j) H) : rI0 f (.int i) (.int j) H Q := ⟨i, j, rfl, rfl, h⟩
theorem g_I {C : Int → Int → Prop} {f : Int → Int → V} (c : C i j) (h : Q (f i j) H) : rI C f (.int i) (.int j) H Q := ⟨i, j, rfl, rfl, c, h⟩
theorem g_U {f : Int → V} (h : Q (f i) H) : rU f (.int i) H Q := ⟨i, rfl, h⟩
theorem g_eq (s : scal x y = true) (h : Q (.bl (decide (x = y))) H) : rEq x y H Q := ⟨s, h⟩
theorem g_ne (s : scal x y = true) (h : Q (.bl (!decide (x = y))) H) : rNe x y H Q := ⟨s, h⟩
theorem g_test (h : te σ H fun x H' => ∃ k, x = .bl k ∧ QT k H') : tTest te σ H QT := h
theorem g_B (h : te σ H fun x H' => ∃ k, x = .bl k ∧ QT k H') : tB te σ H QT := h
theorem g_bl {b : Bool} {P : Bool → Prop} (h : P b) : ∃ k, V.bl b = .bl k ∧ P k := ⟨b, rfl, h⟩
theorem g_yes (h : QT true H) : tYes σ H QT := h
theorem g_and (h : tt σ H fun c H1 => if c = true then tu σ H1 QT else QT false H1) : tAnd tt tu σ H QT := h
theorem g_or (h : tt σ H fun c H1 => if c = true then QT true H1 else tu σ H1 QT) : tOr tt tu σ H QT := h
theorem g_not (h : tt σ H fun c H1 => QT (!c) H1) : tNot tt σ H QT := h
theorem g_andV (h : ta σ H fun x H1 => ∃ c, x = .bl c ∧ if c = true then tb σ H1 Q else Q (.bl false) H1) : tAndV ta tb σ H Q := h
theorem g_orV (h : ta σ H fun x H1 => ∃ c, x = .bl c ∧ if c = true then Q (.bl true) H1 else tb σ H1 Q) : tOrV ta tb σ H Q := h
theorem g_notV (h : ta σ H fun x H1 => ∃ c, x = .bl c ∧ Q (.bl (!c)) H1) : tNotV ta σ H Q := h
theorem g_ifE (h : tt σ H fun c H1 => if c = true then ta σ H1 Q else tb σ H1 Q) : tIf tt ta tb σ H Q := h
theorem g_chain (h : ta σ H fun x H1 => tb σ H1 fun y H2 => r x y H2 fun z H3 => ∃ k, z = .bl k ∧ (if k = true then tc σ H3 fun w H4 => r' y w H4 Q else Q (.bl false) H3)) : tChain r r' ta tb tc σ H Q := h
theorem g_nil (h : QL [] H) : tNil σ H QL := h
theorem g_cons (h : te σ H fun x H1 => tl σ H1 fun xs H2 => QL (x :: xs) H2) : tCons te tl σ H QL := h
theorem g_cal {sp : Sp} (h : tl σ H fun vs H1 => sp vs H1 Q E0) : tCal sp tl σ H Q := h
theorem g_cb {r : List V → Hp → VK → Prop} (h : tl σ H fun vs H1 => r vs H1 Q) : tCB r tl σ H Q := h
theorem g_sp1 {P : V → Hp → VK → Prop} {E : XK} (h : P x H Q) : sp1 P [x] H Q E := ⟨x, rfl, h⟩
theorem g_sp2 {P : V → V → Hp → VK → Prop} {E : XK} (h : P x y H Q) : sp2 P [x, y] H Q E := ⟨x, y, rfl, h⟩
theorem g_sp3 {P : V → V → V → Hp → VK → Prop} {E : XK} {z : V} (h : P x y z H Q) : sp3 P [x, y, z] H Q E := ⟨x, y, z, rfl, h⟩
theorem g_sp4 {P : V → V → V → V → Hp → VK → Prop} {E : XK} {z z' : V} (h : P x y z z' H Q) : sp4 P [x, y, z, z'] H Q E := ⟨x, y, z, z', rfl, h⟩
theorem g_sp5 {P : V → V → V → V → V → Hp → VK → Prop} {E : XK} {z z' z'' : V} (h : P x y z z' z'' H Q) : sp5 P [x, y, z, z', z''] H Q E := ⟨x, y, z, z', z'', rfl, h⟩
theorem g_tup {xs : List V} (hl : xs.length ≤ sizeLine) (h : ∀ p, H p = none → Q (.ref p) (upd H p (.tup xs))) : (fun xs H1 => xs.length ≤ sizeLine ∧ ∀ p, H1 p = none → Q (.ref p) (upd H1 p (.tup xs))) xs H := ⟨hl, h⟩
theorem g_tupT (h : tl σ H fun xs H1 => xs.length ≤ sizeLine ∧ ∀ p, H1 p = none → Q (.ref p) (upd H1 p (.tup xs))) : tTup tl σ H Q := h
theorem g_lstT (h : tl σ H fun xs H1 => xs.length ≤ sizeLine ∧ ∀ p, H1 p = none → Q (.ref p) (upd H1 p (.lst xs))) : tLst tl σ H Q := h
/-- a written list or tuple is short -/
theorem g_short {xs : List V} {P : Addr → Prop} (hl : decide (xs.length ≤ 1000) = true) (h : ∀ p, H p = none → P p) : xs.length ≤ sizeLine ∧ ∀ p, H p = none → P p := ⟨Nat.le_trans (of_decide_eq_true hl) (by decide), h⟩
theorem g_int1 {n : Int} (h : Q (.int n) H) : (fun xs H Q => (∃ i, xs = [V.int i] ∧ Q (.int i) H) ∨ ∃ k, xs = [V.bl k] ∧ Q (.int (if k then 1 else 0)) H) [V.int n] H Q := .inl ⟨n, rfl, h⟩
end

section
variable {D : Ends} {σ : L2.St} {H : Hp} {Q : VK} {te ta tb : TE} {K : PySem.W.Frag} {v : V}
/-- o.f, o in the slot n -/
theorem g_fld {n : Nat} {a C dx : Addr} {fs : List (Str × V)} {f : Str} (ha : H a = some (.ins C dx fs)) (c : Cls K C) (no : NoAttr K C f) (l : fs.lookup f = some v) (h : Q v H) (e : σ[n]? = some (some (.ref a)) := by rfl) : tFld K (tVar n) f σ H Q :=
  ⟨.ref a, e, a, C, dx, fs, v, rfl, ha, c, no, l, h⟩
end
section
variable {D : Ends} {σ : L2.St} {H : Hp} {Q : VK} {tb : TS} {ta tv te : TE} {tl : TA} {tt : TT} {K : PySem.W.Frag} {g : TG} {wi : TI} {vs : List Nat} {R : It → Hp → Prop} {xs : List V} {a : Addr}
theorem g_sfld {f : Str} (h : tv σ H fun y H1 => ta σ H1 fun x H2 => ∃ a C dx fs, x = .ref a ∧ H2 a = some (.ins C dx fs) ∧ Cls K C ∧ NoAttr K C f ∧ fs.length < 1000 ∧ D.nx σ (upd H2 a (.ins C dx (putF f y fs)))) : sFld K ta tv f D σ H := h
theorem g_dput (h : tv σ H fun v H1 => ta σ H1 fun x H2 => te σ H2 fun y H3 => ∃ a H4, x = .ref a ∧ DPut H3 a y v H4 ∧ D.nx σ H4) : sDPut ta te tv D σ H := h
theorem g_din (h : te σ H fun y H1 => ta σ H1 fun x H2 => ∃ a o, x = .ref a ∧ DGet H2 a y o ∧ Q (.bl o.isSome) H2) : tDIn te ta σ H Q := h
theorem g_dnew (h : ∀ p, H p = none → Q (.ref p) (upd H p (.dK []))) : tDNewK σ H Q := h
theorem g_ienum (h : tl σ H fun vs H1 => ∃ a xs, vs = [.ref a] ∧ SqL K H1 a xs ∧ R (Ite K a) H1) : iEnum K tl σ H R := h
theorem g_irng1 (h : tl σ H fun vs H1 => ∃ j : Int, vs = [.int j] ∧ -(2 ^ 62) ≤ j ∧ j < 2 ^ 62 ∧ R (Itr 0 j.toNat) H1) : iRng1 tl σ H R := h
theorem g_ilist (h : ta σ H fun x H1 => ∃ a, x = .ref a ∧ (∃ xs, SqL K H1 a xs) ∧ R (Itl K a) H1) : iList K ta σ H R := h
theorem g_itup (h : ta σ H fun x H1 => ∃ a, x = .ref a ∧ (∃ xs, SqT K H1 a xs) ∧ R (Itt K a) H1) : iTup K ta σ H R := h
/-- what a for asks behind its head -/
abbrev ForW (g : TG) (tb : TS) (D : Ends) (σ : L2.St) (J : It) (H1 : Hp) : Prop := ∃ W : Nat → Nat → L2.St → Hp → Prop, (∃ m, W 0 m σ H1) ∧ ∀ i m σ H, W i m σ H →
  (J.stop i H ∧ D.nx σ H) ∨ (J.go i H ∧ ∃ N : L2.St → Hp → Prop, (∀ σ' H', N σ' H' → ∃ m', m' < m ∧ W (i + 1) m' σ' H') ∧ ∀ x H', J.yld i H x H' → g x σ H' fun σ2 H2 => tb { D with nx := N, ct := N, bk := D.nx } σ2 H2)
theorem g_for (h : wi σ H fun J H1 => ForW g tb D σ J H1) : tFor wi g tb D σ H := h
/-- what a comprehension asks behind its head -/
abbrev LcW (g : TG) (tt : TT) (te : TE) (vs : List Nat) (σ : L2.St) (Q : VK) (J : It) (H1 : Hp) : Prop := ∀ D, H1 D = none → ∃ W : Nat → Nat → Hp → Prop, (∃ m, W 0 m (upd H1 D (.lst []))) ∧ ∀ i m H, W i m H →
  (J.stop i H ∧ Q (.ref D) H) ∨ (J.go i H ∧ ∃ Nx : Hp → Prop, (∀ H', Nx H' → ∃ m', m' < m ∧ W (i + 1) m' H') ∧ ∀ x H', J.yld i H x H' → g x (wipe σ vs) H' fun σ2 H2 => wipe σ2 vs = wipe σ vs ∧ tt σ2 H2 fun b H3 =>
    if b = true then te σ2 H3 fun y H4 => ∃ acc, H4 D = some (.lst acc) ∧ acc.length < sizeLine ∧ Nx (upd H4 D (.lst (acc ++ [y]))) else Nx H3)
theorem g_lc (h : wi σ H fun J H1 => LcW g tt te vs σ Q J H1) : tLc wi g tt te vs σ H Q := h

/-! loops: Pv by the turn, the slots, the heap -/
/-- for i, x in enumerate(list): slots c and d -/
theorem u_enum {c d n : Nat} (hx : SqL K H a xs) (Pv : Nat → L2.St → Hp → Prop) (h0 : Pv 0 σ H) (hG : ∀ i σ H, i ≤ xs.length → Pv i σ H → SqL K H a xs)
    (hs : ∀ i x σ H H', xs[i]? = some x → Pv i σ H → Ext H H' → tb { D with nx := Pv (i + 1), ct := Pv (i + 1), bk := D.nx } ((σ.set c (some (.int (i : Int)))).set d (some x)) H') (hd : ∀ σ H, Pv xs.length σ H → D.nx σ H) (hn : n = 2 := by rfl) :
    ∃ a' xs', [V.ref a] = [.ref a'] ∧ SqL K H a' xs' ∧ ForW (gTup K n (gCons (gName c) (gCons (gName d) gNil))) tb D σ (Ite K a') H := by
  subst hn
  refine ⟨a, xs, rfl, hx, for_it walk_enum Pv h0 hG (fun i v σ H H' hi p y => ?_) hd⟩
  obtain ⟨T, x, z, rfl, hT, rfl, e1, e2⟩ := y
  cases e1
  exact ⟨T, _, rfl, SqT.of upd_same, rfl, _, _, rfl, _, _, rfl, rfl, hs i z σ H _ e2 p (Ext.new hT)⟩
/-- for i in range(n): slot c -/
theorem u_range {c n : Nat} (hn : n ≤ 2 ^ 61) (Pv : Nat → L2.St → Hp → Prop) (h0 : Pv 0 σ H) (hs : ∀ i σ H, i < n → Pv i σ H → tb { D with nx := Pv (i + 1), ct := Pv (i + 1), bk := D.nx } (σ.set c (some (.int (i : Int)))) H)
    (hd : ∀ σ H, Pv n σ H → D.nx σ H) : -(2 ^ 62) ≤ (n : Int) ∧ (n : Int) < 2 ^ 62 ∧ ForW (gName c) tb D σ (Itr 0 (n : Int).toNat) H := by
  have h62 : ((2 : Int) ^ 62) = 4611686018427387904 := by decide
  have h61 : ((2 : Nat) ^ 61) = 2305843009213693952 := by decide
  refine ⟨by omega, by omega, ?_⟩
  rw [Int.toNat_natCast]
  refine for_it walk_range Pv h0 (fun _ _ _ _ _ => trivial) (fun i v σ H H' hi p y => ?_) hd
  obtain ⟨rfl, rfl⟩ := y
  have e : (0 : Int) + (i : Int) = (i : Int) := Int.zero_add _
  show tb _ (σ.set c (some (.int ((0 : Int) + (i : Int))))) _
  rw [e]
  exact hs i σ _ hi p
/-- for x in list: slot c -/
theorem u_list {c : Nat} (hx : SqL K H a xs) (Pv : Nat → L2.St → Hp → Prop) (h0 : Pv 0 σ H) (hG : ∀ i σ H, i ≤ xs.length → Pv i σ H → SqL K H a xs)
    (hs : ∀ i x σ H, xs[i]? = some x → Pv i σ H → tb { D with nx := Pv (i + 1), ct := Pv (i + 1), bk := D.nx } (σ.set c (some x)) H) (hd : ∀ σ H, Pv xs.length σ H → D.nx σ H) :
    ∃ a', V.ref a = .ref a' ∧ (∃ xs, SqL K H a' xs) ∧ ForW (gName c) tb D σ (Itl K a') H := by
  refine ⟨a, rfl, ⟨xs, hx⟩, for_it walk_list Pv h0 hG (fun i v σ H H' hi p y => ?_) hd⟩
  obtain ⟨rfl, e⟩ := y
  exact hs i v σ _ e p
/-- for x in tuple: slot c -/
theorem u_tuple {c : Nat} (hx : SqT K H a xs) (Pv : Nat → L2.St → Hp → Prop) (h0 : Pv 0 σ H) (hG : ∀ i σ H, i ≤ xs.length → Pv i σ H → SqT K H a xs)
    (hs : ∀ i x σ H, xs[i]? = some x → Pv i σ H → tb { D with nx := Pv (i + 1), ct := Pv (i + 1), bk := D.nx } (σ.set c (some x)) H) (hd : ∀ σ H, Pv xs.length σ H → D.nx σ H) :
    ∃ a', V.ref a = .ref a' ∧ (∃ xs, SqT K H a' xs) ∧ ForW (gName c) tb D σ (Itt K a') H := by
  refine ⟨a, rfl, ⟨xs, hx⟩, for_it walk_tup Pv h0 hG (fun i v σ H H' hi p y => ?_) hd⟩
  obtain ⟨rfl, e⟩ := y
  exact hs i v σ _ e p
/-- [e for i in range(n)]: slot c; Pv of the new list's address -/
theorem u_lcr {c n : Nat} (hn : n ≤ 2 ^ 61) (Pv : Addr → Nat → Hp → Prop) (h0 : ∀ D, H D = none → Pv D 0 (upd H D (.lst [])))
    (hs : ∀ D i H', H D = none → i < n → Pv D i H' → te ((wipe σ vs).set c (some (.int (i : Int)))) H' fun y H4 => ∃ acc, H4 D = some (.lst acc) ∧ acc.length < sizeLine ∧ Pv D (i + 1) (upd H4 D (.lst (acc ++ [y]))))
    (hd : ∀ D H', H D = none → Pv D n H' → Q (.ref D) H') (hw : ∀ x, wipe ((wipe σ vs).set c (some x)) vs = wipe σ vs := by intro x; rfl) :
    -(2 ^ 62) ≤ (n : Int) ∧ (n : Int) < 2 ^ 62 ∧ LcW (gName c) tYes te vs σ Q (Itr 0 (n : Int).toNat) H := by
  have h62 : ((2 : Int) ^ 62) = 4611686018427387904 := by decide
  have h61 : ((2 : Nat) ^ 61) = 2305843009213693952 := by decide
  refine ⟨by omega, by omega, fun D hD => ?_⟩
  rw [Int.toNat_natCast]
  refine lc_it walk_range (Pv D) (h0 D hD) (fun _ _ _ _ => trivial) (fun i v H H' hi p y => ?_) (fun H' p => hd D H' hD p)
  obtain ⟨rfl, rfl⟩ := y
  have e : (0 : Int) + (i : Int) = (i : Int) := Int.zero_add _
  have q := hs D i _ hD hi p
  rw [← e] at q
  refine ⟨hw _, ?_⟩
  refine g_yes ?_
  exact iteT q
/-- [e for x in list]: slot c -/
theorem u_lcl {c : Nat} (hx : SqL K H a xs) (Pv : Addr → Nat → Hp → Prop) (h0 : ∀ D, H D = none → Pv D 0 (upd H D (.lst []))) (hG : ∀ D i H', H D = none → i ≤ xs.length → Pv D i H' → SqL K H' a xs)
    (hs : ∀ D i x H', H D = none → xs[i]? = some x → Pv D i H' → te ((wipe σ vs).set c (some x)) H' fun y H4 => ∃ acc, H4 D = some (.lst acc) ∧ acc.length < sizeLine ∧ Pv D (i + 1) (upd H4 D (.lst (acc ++ [y]))))
    (hd : ∀ D H', H D = none → Pv D xs.length H' → Q (.ref D) H') (hw : ∀ x, wipe ((wipe σ vs).set c (some x)) vs = wipe σ vs := by intro x; rfl) :
    ∃ a', V.ref a = .ref a' ∧ (∃ xs, SqL K H a' xs) ∧ LcW (gName c) tYes te vs σ Q (Itl K a') H := by
  refine ⟨a, rfl, ⟨xs, hx⟩, fun D hD => lc_it walk_list (Pv D) (h0 D hD) (fun i H' hi p => hG D i H' hD hi p) (fun i v H H' hi p y => ?_) (fun H' p => hd D H' hD p)⟩
  obtain ⟨rfl, e⟩ := y
  refine ⟨hw _, ?_⟩
  refine g_yes ?_
  exact iteT (hs D i v _ hD e p)
/-- [e for x in tuple if t]: slot c -/
theorem u_lctIf {c : Nat} (hx : SqT K H a xs) (Pv : Addr → Nat → Hp → Prop) (h0 : ∀ D, H D = none → Pv D 0 (upd H D (.lst []))) (hG : ∀ D i H', H D = none → i ≤ xs.length → Pv D i H' → SqT K H' a xs)
    (hs : ∀ D i x H', H D = none → xs[i]? = some x → Pv D i H' → tt ((wipe σ vs).set c (some x)) H' fun b H3 => if b = true then te ((wipe σ vs).set c (some x)) H3 fun y H4 => ∃ acc, H4 D = some (.lst acc) ∧ acc.length < sizeLine ∧ Pv D (i + 1) (upd H4 D (.lst (acc ++ [y]))) else Pv D (i + 1) H3)
    (hd : ∀ D H', H D = none → Pv D xs.length H' → Q (.ref D) H') (hw : ∀ x, wipe ((wipe σ vs).set c (some x)) vs = wipe σ vs := by intro x; rfl) :
    ∃ a', V.ref a = .ref a' ∧ (∃ xs, SqT K H a' xs) ∧ LcW (gName c) tt te vs σ Q (Itt K a') H := by
  refine ⟨a, rfl, ⟨xs, hx⟩, fun D hD => lc_it walk_tup (Pv D) (h0 D hD) (fun i H' hi p => hG D i H' hD hi p) (fun i v H H' hi p y => ?_) (fun H' p => hd D H' hD p)⟩
  obtain ⟨rfl, e⟩ := y
  exact ⟨hw _, hs D i v _ hD e p⟩
theorem u_lclIf {c : Nat} (hx : SqL K H a xs) (Pv : Addr → Nat → Hp → Prop) (h0 : ∀ D, H D = none → Pv D 0 (upd H D (.lst []))) (hG : ∀ D i H', H D = none → i ≤ xs.length → Pv D i H' → SqL K H' a xs)
    (hs : ∀ D i x H', H D = none → xs[i]? = some x → Pv D i H' → tt ((wipe σ vs).set c (some x)) H' fun b H3 => if b = true then te ((wipe σ vs).set c (some x)) H3 fun y H4 => ∃ acc, H4 D = some (.lst acc) ∧ acc.length < sizeLine ∧ Pv D (i + 1) (upd H4 D (.lst (acc ++ [y]))) else Pv D (i + 1) H3)
    (hd : ∀ D H', H D = none → Pv D xs.length H' → Q (.ref D) H') (hw : ∀ x, wipe ((wipe σ vs).set c (some x)) vs = wipe σ vs := by intro x; rfl) :
    ∃ a', V.ref a = .ref a' ∧ (∃ xs, SqL K H a' xs) ∧ LcW (gName c) tt te vs σ Q (Itl K a') H := by
  refine ⟨a, rfl, ⟨xs, hx⟩, fun D hD => lc_it walk_list (Pv D) (h0 D hD) (fun i H' hi p => hG D i H' hD hi p) (fun i v H H' hi p y => ?_) (fun H' p => hd D H' hD p)⟩
  obtain ⟨rfl, e⟩ := y
  exact ⟨hw _, hs D i v _ hD e p⟩
end
section
variable {H : Hp} {Q : VK} {K : PySem.W.Frag} {v : V} {xs : List V} {p : Addr} {i : Int} {QH : Hp → Prop}
theorem g_ixL (h : SqL K H p xs) (e : atI xs i = some v) (q : Q v H) : rIxL K (.ref p) (.int i) H Q := ⟨p, xs, i, v, rfl, rfl, h, e, q⟩
theorem g_ixT (h : SqT K H p xs) (e : atI xs i = some v) (q : Q v H) : rIxT K (.ref p) (.int i) H Q := ⟨p, xs, i, v, rfl, rfl, h, e, q⟩
theorem g_setL {k : Int} {j : Nat} (h : H p = some (.lst xs)) (e : ixN xs.length k = some j) (q : QH (upd H p (.lst (xs.set j v)))) : rSetL (.ref p) (.int k) v H QH := ⟨p, xs, k, j, rfl, rfl, h, e, q⟩
theorem ixN_nat {n j : Nat} (h : j < n) : ixN n (j : Int) = some j := by
  unfold ixN
  simp [h]
end
section
variable {n m : Int} {b : Bool} {R : Prop}
theorem g_intI {P : Int → Prop} (h : P n) : (∃ i, [V.int n] = [V.int i] ∧ P i) ∨ R := .inl ⟨n, rfl, h⟩
theorem g_intB {P : Bool → Prop} (h : P b) : R ∨ ∃ k, [V.bl b] = [V.bl k] ∧ P k := .inr ⟨b, rfl, h⟩
theorem g_two {P : Int → Int → Prop} (h : P n m) : ∃ i j, [V.int n, V.int m] = [V.int i, V.int j] ∧ P i j := ⟨n, m, rfl, h⟩
theorem g_one {P : Int → Prop} (h : P n) : ∃ i, [V.int n] = [V.int i] ∧ P i := ⟨n, rfl, h⟩
theorem g_len {K : PySem.W.Frag} {H : Hp} {a : Addr} {xs : List V} {P : Nat → Prop} (hx : SqL K H a xs) (h : P xs.length) : ∃ p ys, [V.ref a] = [V.ref p] ∧ (SqL K H p ys ∨ SqT K H p ys) ∧ P ys.length := ⟨a, xs, rfl, .inl hx, h⟩
end
section
variable {H : Hp} {Q : VK} {i j : Int} {f : Int → Int → V}
theorem g_Ip (c : CPowW i j) (h : Q (f i j) H) : rI CPowW f (.int i) (.int j) H Q := ⟨i, j, rfl, rfl, c, h⟩
theorem g_Im (c : 0 < j) (h : Q (f i j) H) : rI (fun _ j => 0 < j) f (.int i) (.int j) H Q := ⟨i, j, rfl, rfl, c, h⟩
theorem g_Id (c : 0 < j ∧ decide (j.natAbs.log2 < 9000) = true) (h : Q (f i j) H) : rI CDivW f (.int i) (.int j) H Q := ⟨i, j, rfl, rfl, ⟨c.1, of_decide_eq_true c.2⟩, h⟩
theorem g_Is {n : Nat} {f : Int → Int → V} (h : Q (f i (n : Int)) H) : rI (fun _ j => 0 ≤ j) f (.int i) (.int (n : Int)) H Q := ⟨i, n, rfl, rfl, Int.natCast_nonneg n, h⟩
end
section
variable {H : Hp} {Q : VK} {σ : L2.St} {ta tb : TE} {K : PySem.W.Frag} {r : V → Option Int → Option Int → Hp → VK → Prop} {te : TE} {tl th : TO}
theorem g_lstRg (h : ta σ H fun x H1 => ∃ n, x = .int n ∧ RgOk 0 n ∧ ∀ q, H1 q = none → Q (.ref q) (upd H1 q (.lst (rgV 0 n)))) : tLstRg (tRg1 ta) σ H Q := h
theorem rg_ok {m : Nat} (hm : m ≤ 16777216) : RgOk 0 (m : Int) := RgOk.of_le (Int.le_refl _) (by omega) (by omega) (by omega)
theorem g_sl (h : te σ H fun x H1 => tl σ H1 fun l H2 => th σ H2 fun u H3 => r x l u H3 Q) : tSl r te tl th σ H Q := h
theorem g_nopart {QO : Option Int → Hp → Prop} (h : QO none H) : tNoPart σ H QO := h
theorem g_part {QO : Option Int → Hp → Prop} (h : ta σ H fun x H1 => ∃ i, x = .int i ∧ QO (some i) H1) : tPart ta σ H QO := h
theorem g_revl (h : ta σ H fun x H1 => ∃ a xs, x = .ref a ∧ SqL K H1 a xs ∧ ∀ p, H1 p = none → Q (.ref p) (upd H1 p (.lst xs.reverse))) : tRevL K ta σ H Q := h
theorem g_exI {n : Int} {P : Int → Prop} (h : P n) : ∃ i, V.int n = .int i ∧ P i := ⟨n, rfl, h⟩
end
theorem iteD {c A B : Prop} [Decidable c] (h : c) (q : A) : if decide c = true then A else B := by
  rw [decide_eq_true h]
  exact iteT q
theorem iteDn {c A B : Prop} [Decidable c] (h : ¬ c) (q : B) : if decide c = true then A else B := by
  rw [decide_eq_false h]
  exact iteF q
theorem iteN {c A B : Prop} [Decidable c] (h : ¬ c) (q : A) : if (!decide c) = true then A else B := by
  rw [decide_eq_false h]
  exact iteT q
theorem iteNn {c A B : Prop} [Decidable c] (h : c) (q : B) : if (!decide c) = true then A else B := by
  rw [decide_eq_true h]
  exact iteF q
theorem vint_ne {a b : Int} (h : ¬ a = b) : ¬ V.int a = V.int b := fun z => h (V.int.inj z)
theorem vint_eq {a b : Int} (h : a = b) : V.int a = V.int b := congrArg V.int h
section
variable {K : PySem.W.Frag} {H : Hp} {Q : VK} {a : Addr} {xs : List V}
theorem g_lenK (hx : SqL K H a xs) (h : Q (.int xs.length) H) : rLenK K [.ref a] H Q := ⟨a, xs, rfl, .inl hx, h⟩
theorem g_lenT (hx : SqT K H a xs) (h : Q (.int xs.length) H) : rLenK K [.ref a] H Q := ⟨a, xs, rfl, .inr hx, h⟩
theorem g_listK (hx : SqL K H a xs) (h : ∀ l, H l = none → Q (.ref l) (upd H l (.lst xs))) : rListK K [.ref a] H Q := ⟨a, xs, rfl, .inl hx, h⟩
end
/-- a statement, then the rest, with a word between them -/
def tCut (t u : TS) : TS := fun D σ H => ∃ Mid : L2.St → Hp → Prop, t { D with nx := Mid } σ H ∧ ∀ σ' H', Mid σ' H' → u D σ' H'
theorem pss_cut {X : Cx} {st : Stmt} {rest : List Stmt} {t u : TS} (h1 : PS X st t) (h2 : PSs X rest u) : PSs X (st :: rest) (tCut t u) :=
  ⟨fun pins s σ H D I h => h.elim fun Mid z => wpAny_execs_cons (thn (h1.run pins s σ H { D with nx := Mid } I z.1) fun f s1 q => match f, q with
    | .next, q => q.elim fun σ' q => q.elim fun H' q => h2.run pins s1 σ' H' D q.1 (z.2 σ' H' q.2)
    | .ret _, q => q
    | .brk, q => q
    | .cont, q => q)⟩
theorem intBits_one : Builtin.Int.intBits 1 = 1 := by decide +kernel
theorem cshl_one {n : Nat} (h : n ≤ 1000) : CShl 1 (n : Int) := ⟨Int.natCast_nonneg n, by rw [intBits_one]; omega⟩
theorem cshl_small {b n : Nat} (hb : b ≤ 1) (h : n ≤ 1000) : CShl (b : Int) (n : Int) := by
  refine ⟨Int.natCast_nonneg n, ?_⟩
  have e : Builtin.Int.intBits (b : Int) ≤ 1 := by
    rcases (by omega : b = 0 ∨ b = 1) with rfl | rfl <;> decide +kernel
  omega
theorem pow_int (n : Nat) : ((2 ^ n : Nat) : Int) = 2 ^ n := by simp
theorem in_places {p n : Nat} (h : p < 2 ^ n) : (!(decide ((0 : Int) ≤ (p : Int)) && decide ((p : Int) ≤ 1 * 2 ^ ((n : Nat) : Int).toNat - 1))) = false := by
  rw [one_shl]
  have h1 : (0 : Int) ≤ (p : Int) := Int.natCast_nonneg p
  have h2 : (p : Int) ≤ ((2 ^ n : Nat) : Int) - 1 := by omega
  rw [decide_eq_true h1, decide_eq_true h2]
  rfl
end G

/-! The class Turn: how one stands in the heap, what its methods promise, the rules for its uses. -/
namespace G
open PySem PySem.Spec PyProof.Rows L2 M

/-! ### kinds of values -/
/-- whether v is an int and no bool -/
def IsI (K : PySem.W.Frag) (H : Hp) (v : V) (b : Bool) : Prop := ∃ t b1 b2, TyX K H v t ∧ PySem.W.kitOne K t (.type "int") = some b1 ∧ PySem.W.kitOne K t (.type "bool") = some b2 ∧ b = (b1 && !b2)
theorem IsI.int {K : PySem.W.Frag} {H : Hp} (i : Int) : IsI K H (.int i) true := ⟨_, true, false, .base (.int i), kit_ty (by decide +kernel), kit_ty (by decide +kernel), rfl⟩
abbrev sp_is_integer (K : PySem.W.Frag) : Sp := sp1 fun v H Q => ∃ b, IsI K H v b ∧ Q (.bl b) H
abbrev sp_is_between (K : PySem.W.Frag) : Sp := sp3 fun v lo hi H Q => ∃ (b : Bool) (i j : Int), lo = .int i ∧ hi = .int j ∧ IsI K H v b ∧ (b = false → Q (.bl false) H) ∧ (b = true → ∃ n, v = .int n ∧ Q (.bl (decide (i ≤ n) && decide (n ≤ j))) H)
abbrev sp_check_place (K : PySem.W.Frag) : Sp := sp2 fun p n H Q => ∃ (p' n' : Nat), p = .int p' ∧ n = .int n' ∧ n' ≤ 1000 ∧ p' < 2 ^ n' ∧ Q .non H
abbrev sp_check_targets (K : PySem.W.Frag) : Sp := sp1 fun a H Q => ∃ (l : Addr) (ts : List Nat), a = .ref l ∧ H l = some (.lst (nv ts)) ∧ Ts ts ∧ ∀ H', Ext H H' → Q .non H'

/-! ### a turn in the heap -/
def flds (l : Addr) (fl : Nat) : List (Str × V) := putF "_flips" (.int (fl : Int)) (putF "_targets" (.ref l) [])
theorem ne_names : ¬ (("_targets" : Str) = "_flips") := by decide +kernel
theorem ne_names' : ¬ (("_flips" : Str) = "_targets") := by decide +kernel
theorem flds_targets (l : Addr) (fl : Nat) : (flds l fl).lookup ("_targets" : Str) = some (.ref l) := by
  unfold flds
  rw [lookup_putF, if_neg ne_names, lookup_putF, if_pos rfl]
theorem flds_flips (l : Addr) (fl : Nat) : (flds l fl).lookup ("_flips" : Str) = some (.int (fl : Int)) := by
  unfold flds
  rw [lookup_putF, if_pos rfl]
theorem flds_no (l : Addr) (fl : Nat) {m : Str} (h1 : ¬ m = "_flips") (h2 : ¬ m = "_targets") : (flds l fl).lookup m = none := by
  unfold flds
  rw [lookup_putF, if_neg h1, lookup_putF, if_neg h2]
  rfl
/-- at a a turn with the targets ts (its own list of them at l) and the flips fl -/
structure TurnAt (C : Addr) (H : Hp) (a l : Addr) (ts : List Nat) (fl : Nat) : Prop where
  ob : ∃ dx, H a = some (.ins C dx (flds l fl))
  ls : H l = some (.lst (nv ts))
  ok : Ts ts
  fl : fl < 2 ^ ts.length
theorem TurnAt.ext {C : Addr} {H H' : Hp} {a l : Addr} {ts : List Nat} {fl : Nat} (t : TurnAt C H a l ts fl) (e : Ext H H') : TurnAt C H' a l ts fl :=
  ⟨t.ob.elim fun dx h => ⟨dx, e _ _ h⟩, e _ _ t.ls, t.ok, t.fl⟩
theorem TurnAt.stp {C : Addr} {H H' : Hp} {a l r : Addr} {ts : List Nat} {fl : Nat} {xs : List V} (t : TurnAt C H a l ts fl) (e : Stp r H H') (hr : H r = some (.lst xs)) (hl : l ≠ r) : TurnAt C H' a l ts fl :=
  ⟨t.ob.elim fun dx h => ⟨dx, e _ _ h (ne_of h hr (by intro z; cases z))⟩, e _ _ t.ls hl, t.ok, t.fl⟩

/-! ### its methods -/
abbrev sp_Turn_init (K : PySem.W.Frag) (C : Addr) : Sp := sp3 fun self a b H Q => ∃ (x dx l : Addr) (ts : List Nat) (fl : Nat), self = .ref x ∧ a = .ref l ∧ b = .int (fl : Int) ∧ H x = some (.ins C dx []) ∧ H l = some (.lst (nv ts)) ∧ Ts ts ∧ fl < 2 ^ ts.length ∧
  ∀ (H' : Hp) (l' : Addr), (∀ b o, b ≠ x → H b = some o → H' b = some o) → H l' = none → TurnAt C H' x l' ts fl → Q .non H'
abbrev sp_Turn_bits (K : PySem.W.Frag) (C : Addr) : Sp := sp1 fun a H Q => ∃ (x l : Addr) (ts : List Nat) (fl : Nat), a = .ref x ∧ TurnAt C H x l ts fl ∧ Q (.int (ts.length : Int)) H
abbrev sp_Turn_targets (K : PySem.W.Frag) (C : Addr) : Sp := sp1 fun a H Q => ∃ (x l : Addr) (ts : List Nat) (fl : Nat), a = .ref x ∧ TurnAt C H x l ts fl ∧ ∀ p, H p = none → Q (.ref p) (upd H p (.lst (nv ts)))
abbrev sp_Turn_flips (K : PySem.W.Frag) (C : Addr) : Sp := sp1 fun a H Q => ∃ (x l : Addr) (ts : List Nat) (fl : Nat), a = .ref x ∧ TurnAt C H x l ts fl ∧ Q (.int (fl : Int)) H
abbrev sp_Turn_goes_to (K : PySem.W.Frag) (C : Addr) : Sp := sp2 fun a p H Q => ∃ (x l : Addr) (ts : List Nat) (fl n : Nat), a = .ref x ∧ p = .int (n : Int) ∧ TurnAt C H x l ts fl ∧ n < 2 ^ ts.length ∧ ∀ H', Ext H H' → Q (.int (go ts fl n : Int)) H'
/-- a value of another kind -/
def Other (K : PySem.W.Frag) (H : Hp) (v : V) : Prop := ∃ T : String, TyX K H v (.type T) ∧ T ∈ ["NoneType", "int", "bool", "str", "list", "tuple", "dict"]
/-- b compared with the turn (ts, fl) -/
def EqTo (K : PySem.W.Frag) (C : Addr) (H : Hp) (b : V) (ts : List Nat) (fl : Nat) (r : Bool) : Prop :=
  (∃ (y l : Addr) (ts' : List Nat) (fl' : Nat), b = .ref y ∧ TurnAt C H y l ts' fl' ∧ r = decide (ts = ts' ∧ fl = fl')) ∨ (Other K H b ∧ r = false)
abbrev sp_Turn_eq (K : PySem.W.Frag) (C : Addr) : Sp := sp2 fun a b H Q => ∃ (x l : Addr) (ts : List Nat) (fl : Nat) (r : Bool), a = .ref x ∧ TurnAt C H x l ts fl ∧ EqTo K C H b ts fl r ∧ Q (.bl r) H

/-- what the written part says of the class -/
structure TurnText (K : PySem.W.Frag) (mg : Str → Option Value) (C : Addr) : Prop where
  cl : Cls K C
  nT : NoAttr K C "_targets"
  nF : NoAttr K C "_flips"
  ca : PySem.W.findIn K (.ref C) "__class__" = some (some (.builtin "object.__class__"))
  cn : PySem.W.specialIn K (.builtin "object.__class__") "__get__" = some (some (.builtin "getset_descriptor.__get__"))
  ct : PySem.W.takesIn K (.builtin "object.__class__") = some true
  cm : PySem.W.mroIn K C (.type "object") = some true
  kc : PySem.W.keepIn K (.ref C) = true
  mT : mg "Turn" = some (.ref C)
  isC : PySem.W.isClsIn K C = true
  sub : ∀ T ∈ ["NoneType", "int", "bool", "str", "list", "tuple", "dict"], PySem.W.subIn K (.type T) (.ref C) = some false
  tyC : PySem.W.typeIn K (.ref C) = some (.type "type")
theorem TurnText.isT {K : PySem.W.Frag} {mg : Str → Option Value} {C : Addr} (T : TurnText K mg C) : PySem.W.kitOne K (.ref C) (.ref C) = some true := by
  unfold PySem.W.kitOne
  rw [if_pos (beq_iff_eq.mpr rfl)]
theorem TurnText.notT {K : PySem.W.Frag} {mg : Str → Option Value} {C : Addr} (T : TurnText K mg C) {t : String} (ht : t ∈ ["NoneType", "int", "bool", "str", "list", "tuple", "dict"]) : PySem.W.kitOne K (.type t) (.ref C) = some false := by
  have h := T.sub t ht
  unfold PySem.W.kitOne
  rw [if_neg (by intro q; cases (beq_iff_eq.mp q))]
  unfold PySem.W.kitCls
  have hc : (PySem.W.clsIn K C).isSome = true := T.isC
  simp only [T.tyC, h, hc]
  rfl
theorem TurnText.first {K : PySem.W.Frag} {mg : Str → Option Value} {C : Addr} (T : TurnText K mg C) {t : String} (ht : t ∈ ["NoneType", "int", "bool", "str", "list", "tuple", "dict"]) : PySem.W.notFirst K C (.type t) = true := by
  unfold PySem.W.notFirst
  rw [T.sub t ht]
  simp
theorem TurnText.firstC {K : PySem.W.Frag} {mg : Str → Option Value} {C : Addr} (T : TurnText K mg C) : PySem.W.notFirst K C (.ref C) = true := by
  unfold PySem.W.notFirst
  rw [beq_iff_eq.mpr rfl]
  rfl
theorem TurnText.ty {K : PySem.W.Frag} {mg : Str → Option Value} {C : Addr} (T : TurnText K mg C) {H : Hp} {a l : Addr} {ts : List Nat} {fl : Nat} (t : TurnAt C H a l ts fl) : TyX K H (.ref a) (.ref C) := by
  obtain ⟨dx, h⟩ := t.ob
  exact .base (.ins h T.cl T.ca T.cn T.ct T.cm)

/-- the class with its methods' promises, all at most at level 6 -/
structure TurnT (P : Program) (w : World) (K : PySem.W.Frag) (mg : Str → Option Value) (base : Heap) (C : Addr) : Prop where
  tx : TurnText K mg C
  init : ∃ (f : Addr) (fd : FuncData) (ps : List Str), Mk K C f ∧ FnOk P w K mg base CX0 6 f fd ps (sp_Turn_init K C) ∧ Binds K fd ps []
  bits : ∃ (p g : Addr) (fd : FuncData) (ps : List Str), PropOf K C "bits" p g ∧ FnOk P w K mg base CX0 6 g fd ps (sp_Turn_bits K C) ∧ Binds K fd ps []
  targets : ∃ (p g : Addr) (fd : FuncData) (ps : List Str), PropOf K C "targets" p g ∧ FnOk P w K mg base CX0 6 g fd ps (sp_Turn_targets K C) ∧ Binds K fd ps []
  flips : ∃ (p g : Addr) (fd : FuncData) (ps : List Str), PropOf K C "flips" p g ∧ FnOk P w K mg base CX0 6 g fd ps (sp_Turn_flips K C) ∧ Binds K fd ps []
  eq : ∃ (g : Addr) (fd : FuncData) (ps : List Str), PySem.W.findIn K (.ref C) "__eq__" = some (some (.ref g)) ∧ PySem.W.isFn K (.ref g) = true ∧ FnOk P w K mg base CX0 6 g fd ps (sp_Turn_eq K C) ∧ Binds K fd ps []
/-- .. and goes_to -/
structure TurnG (P : Program) (w : World) (K : PySem.W.Frag) (mg : Str → Option Value) (base : Heap) (C : Addr) : Prop where
  tx : TurnText K mg C
  goes : ∃ (g : Addr) (fd : FuncData) (ps : List Str), Meth K C "goes_to" g ∧ FnOk P w K mg base CX0 6 g fd ps (sp_Turn_goes_to K C) ∧ Binds K fd ps []

section
variable {X : Cx} {C : Addr} {j : Nat} {p pos apos : Pos} {e o : Expr} {es : List Expr} {t : TA} {ta : TE}
/-- Turn(a, b) -/
def pTurn (C : Addr) : V → V → Hp → VK → Prop := fun a b H Q => ∃ (l : Addr) (ts : List Nat) (fl : Nat), a = .ref l ∧ b = .int (fl : Int) ∧ H l = some (.lst (nv ts)) ∧ Ts ts ∧ fl < 2 ^ ts.length ∧
  ∀ (x l' : Addr) (H' : Hp), Ext H H' → H x = none → H l' = none → TurnAt C H' x l' ts fl → Q (.ref x) H'
def tTurn (C : Addr) (t : TA) : TE := fun σ H Q => t σ H fun vs H1 => sp2 (pTurn C) vs H1 Q E0
theorem pe_Turn (tc : TurnT X.prog X.w X.K X.mg X.base C) (hr : Room j X.A) (hj : 7 ≤ j) (hg : Gl X "Turn") (ha : PA X (e :: es) t)
    (he : starEach (e :: es) X.env = (false, eval e X.env) :: starEach es X.env := by rfl) (hpl : (backTo pos (starEach es X.env)).any (·.1) = false := by rfl) :
    PE X (.Call (.Name "Turn" p) (e :: es) [] pos) (tTurn C t) := by
  obtain ⟨f, fd, ps, Mm, F, B⟩ := tc.init
  refine ⟨fun pins s σ H Q I h => wpAny_Call_Name_kw (ld_glob I hg tc.tx.mT ?_ (by decide))⟩
  refine PySem.W.callWith_K (h₀ := X.base) I.ok.mod.kin Mm.kp (thn (ha.run pos pins s σ H _ I h) fun us s1 hh => ?_) he hpl
  obtain ⟨vs, H1, I1, r, a, b, rfl, l, ts, fl, rfl, rfl, hl, ok, hf, q⟩ := hh
  refine ⟨I1.kIn, run_make (sp := sp_Turn_init X.K C) Mm F (hr.mono hj) B .nil pass0 I1 r fun x dx hx hdx ne => ?_⟩
  have e1 : Ext H1 (upd (upd H1 dx (.own x)) x (.ins C dx [])) := (Ext.new hdx).new' (by rw [upd_ne (Ne.symm ne)]; exact hx)
  refine ⟨_, _, _, rfl, x, dx, l, ts, fl, rfl, rfl, rfl, upd_same, e1 _ _ hl, ok, hf, fun H2 l' st hn at_ => ⟨rfl, ?_⟩⟩
  refine q x l' H2 (fun b o hb => st b o (ne_of_none hb hx) (e1 b o hb)) hx (e1.free hn) at_
/-- o.bits, o.targets, o.flips -/
def tProp1 (P : V → Hp → VK → Prop) (ta : TE) : TE := fun σ H Q => ta σ H fun x H1 => P x H1 Q
def pBits (C : Addr) : V → Hp → VK → Prop := fun a H Q => ∃ (x l : Addr) (ts : List Nat) (fl : Nat), a = .ref x ∧ TurnAt C H x l ts fl ∧ Q (.int (ts.length : Int)) H
def pTargets (C : Addr) : V → Hp → VK → Prop := fun a H Q => ∃ (x l : Addr) (ts : List Nat) (fl : Nat), a = .ref x ∧ TurnAt C H x l ts fl ∧ ∀ p, H p = none → Q (.ref p) (upd H p (.lst (nv ts)))
def pFlips (C : Addr) : V → Hp → VK → Prop := fun a H Q => ∃ (x l : Addr) (ts : List Nat) (fl : Nat), a = .ref x ∧ TurnAt C H x l ts fl ∧ Q (.int (fl : Int)) H
def pGoes (C : Addr) : V → V → Hp → VK → Prop := fun a p H Q => ∃ (x l : Addr) (ts : List Nat) (fl n : Nat), a = .ref x ∧ p = .int (n : Int) ∧ TurnAt C H x l ts fl ∧ n < 2 ^ ts.length ∧ ∀ H', Ext H H' → Q (.int (go ts fl n : Int)) H'
theorem pe_Turn_bits (tc : TurnT X.prog X.w X.K X.mg X.base C) (hr : Room j X.A) (hj : 7 ≤ j) (he : PE X o ta) (hab : attributeBase o "bits" X.env (eval o X.env) = eval o X.env) : PE X (.Attribute o "bits" pos) (tProp1 (pBits C) ta) := by
  obtain ⟨p, g, fd, ps, hp, F, B⟩ := tc.bits
  refine ⟨fun pins s σ H Q I h => attr_of hab (thn (he.run pins s σ H _ I h) fun u s1 hh => ?_)⟩
  obtain ⟨v, H1, I1, rv, x, l, ts, fl, rfl, at_, q⟩ := hh
  cases (show u = Value.ref x from rv)
  obtain ⟨dx, hx⟩ := at_.ob
  exact getprop_ok I1 hx tc.tx.cl hp F (hr.mono hj) B .nil pass0 ⟨_, rfl, x, l, ts, fl, rfl, at_, q⟩
theorem pe_Turn_targets (tc : TurnT X.prog X.w X.K X.mg X.base C) (hr : Room j X.A) (hj : 7 ≤ j) (he : PE X o ta) (hab : attributeBase o "targets" X.env (eval o X.env) = eval o X.env) : PE X (.Attribute o "targets" pos) (tProp1 (pTargets C) ta) := by
  obtain ⟨p, g, fd, ps, hp, F, B⟩ := tc.targets
  refine ⟨fun pins s σ H Q I h => attr_of hab (thn (he.run pins s σ H _ I h) fun u s1 hh => ?_)⟩
  obtain ⟨v, H1, I1, rv, x, l, ts, fl, rfl, at_, q⟩ := hh
  cases (show u = Value.ref x from rv)
  obtain ⟨dx, hx⟩ := at_.ob
  exact getprop_ok I1 hx tc.tx.cl hp F (hr.mono hj) B .nil pass0 ⟨_, rfl, x, l, ts, fl, rfl, at_, q⟩
theorem pe_Turn_flips (tc : TurnT X.prog X.w X.K X.mg X.base C) (hr : Room j X.A) (hj : 7 ≤ j) (he : PE X o ta) (hab : attributeBase o "flips" X.env (eval o X.env) = eval o X.env) : PE X (.Attribute o "flips" pos) (tProp1 (pFlips C) ta) := by
  obtain ⟨p, g, fd, ps, hp, F, B⟩ := tc.flips
  refine ⟨fun pins s σ H Q I h => attr_of hab (thn (he.run pins s σ H _ I h) fun u s1 hh => ?_)⟩
  obtain ⟨v, H1, I1, rv, x, l, ts, fl, rfl, at_, q⟩ := hh
  cases (show u = Value.ref x from rv)
  obtain ⟨dx, hx⟩ := at_.ob
  exact getprop_ok I1 hx tc.tx.cl hp F (hr.mono hj) B .nil pass0 ⟨_, rfl, x, l, ts, fl, rfl, at_, q⟩
/-- o.goes_to(e) -/
def tGoes (C : Addr) (ta : TE) (t : TA) : TE := fun σ H Q => ta σ H fun x H1 => (∃ (a l : Addr) (ts : List Nat) (fl : Nat), x = .ref a ∧ TurnAt C H1 a l ts fl) ∧ t σ H1 fun vs H2 => ∃ v, vs = [v] ∧ pGoes C x v H2 Q
theorem pe_Turn_goes_to {pl : Sem Bool} (tc : TurnG X.prog X.w X.K X.mg X.base C) (hr : Room j X.A) (hj : 6 ≤ j) (ho : PE X o ta) (ha : PA X (e :: es) t)
    (hst : starEach (e :: es) X.env = (false, eval e X.env) :: starEach es X.env := by rfl) (hpl : (backTo pos (starEach es X.env)).any (·.1) = false := by rfl)
    (ht : eval (.Call (.Attribute o "goes_to" apos) (e :: es) [] pos) X.env = (do
      let v ← eval o X.env
      standAt apos.atName
      let (g, first) ← holding [v] (getMethod v "goes_to" pl)
      callWith pos g first (backTo pos (starEach (e :: es) X.env)) (backToKw pos (keywordEach [] X.env))) := by rfl) :
    PE X (.Call (.Attribute o "goes_to" apos) (e :: es) [] pos) (tGoes C ta t) := by
  obtain ⟨g, fd, ps, hm, F, B⟩ := tc.goes
  refine ⟨fun pins s σ H Q I h => PySem.W.methodCall_KW (pl := pl) (thn (ho.run pins s σ H _ I h) fun u s1 hh => ?_) ht⟩
  obtain ⟨x, H1, I1, rx, ⟨a, l, ts, fl, rfl, at_⟩, q⟩ := hh
  cases (show u = Value.ref a from rx)
  obtain ⟨dx, hx⟩ := at_.ob
  refine getmeth_ok I1 hx tc.tx.cl hm (flds_no _ _ (by decide +kernel) (by decide +kernel)) ?_
  refine PySem.W.callWith_K (first := [.ref a]) (h₀ := X.base) I.ok.mod.kin hm.kp (thn (ha.run pos pins s1 σ H1 _ I1 q) fun us s2 hh => ?_) hst hpl
  obtain ⟨vs, H2, I2, r, v, rfl, q2⟩ := hh
  exact ⟨I2.kIn, run_fn (sp := sp_Turn_goes_to X.K C) (us := .ref a :: us) (vs := [.ref a, v]) F (hr.mono hj) B .nil pass0 I2 (.cons rfl r) ⟨_, _, rfl, q2⟩⟩
/-- a == b, a a turn -/
def rTurnEq (K : PySem.W.Frag) (C : Addr) : R2 := fun a b H Q => ∃ (x l : Addr) (ts : List Nat) (fl : Nat) (r : Bool), a = .ref x ∧ TurnAt C H x l ts fl ∧ EqTo K C H b ts fl r ∧ Q (.bl r) H
theorem op_Turn_eq0 (tc : TurnT X.prog X.w X.K X.mg X.base C) (hr : Room j X.A) (hj : 6 ≤ j) : OpR X (compareOp .Eq) (rTurnEq X.K C) := by
  obtain ⟨g, fd, ps, hs, hf, F, B⟩ := tc.eq
  intro pins s σ H x y v u Q I rx ry h
  refine op_eqOwn hs hf F (hr.mono hj) B pass0 pins s σ H x y v u Q I rx ry ?_
  obtain ⟨a, l, ts, fl, r, rfl, at_, eq, q⟩ := h
  obtain ⟨dx, hx⟩ := at_.ob
  rcases eq with ⟨b, l', ts', fl', rfl, bt, er⟩ | ⟨⟨T, ty, mem⟩, er⟩
  · exact ⟨a, dx, _, _, rfl, hx, tc.tx.ty bt, tc.tx.firstC, _, _, rfl, a, l, ts, fl, r, rfl, at_, .inl ⟨b, l', ts', fl', rfl, bt, er⟩, q⟩
  · exact ⟨a, dx, _, _, rfl, hx, ty, tc.tx.first mem, _, _, rfl, a, l, ts, fl, r, rfl, at_, .inr ⟨⟨T, ty, mem⟩, er⟩, q⟩
theorem op_Turn_eq {K0 : PySem.W.Frag} (tc : TurnT X.prog X.w X.K X.mg X.base C) (hr : Room j X.A) (hj : 6 ≤ j) (hK : X.K = K0 := by rfl) : OpR X (compareOp .Eq) (rTurnEq K0 C) := hK ▸ op_Turn_eq0 tc hr hj
end
end G

/-! The draws of the laws: a reel at r (its digits, a number to mix, a counter of at most n). -/
namespace G
open PySem PySem.Spec PyProof.Rows L2 M
def Reel (H : Hp) (r : Addr) (n : Nat) : Prop := ∃ x y z : Nat, H r = some (.lst [.int (x : Int), .int (y : Int), .int (z : Int)]) ∧ y < 2 ^ 150 ∧ z ≤ n
theorem Reel.mono {H : Hp} {r : Addr} {n m : Nat} (h : Reel H r n) (hm : n ≤ m) : Reel H r m := by
  obtain ⟨x, y, z, a, b, c⟩ := h
  exact ⟨x, y, z, a, b, Nat.le_trans c hm⟩
theorem Reel.ext {H H' : Hp} {r : Addr} {n : Nat} (h : Reel H r n) (e : Ext H H') : Reel H' r n := by
  obtain ⟨x, y, z, a, b⟩ := h
  exact ⟨x, y, z, e _ _ a, b⟩
theorem Reel.at {H : Hp} {r : Addr} {n : Nat} (h : Reel H r n) : ∃ xs, H r = some (.lst xs) := by
  obtain ⟨x, y, z, a, _⟩ := h
  exact ⟨_, a⟩
theorem Reel.ne {H : Hp} {r p : Addr} {n : Nat} (h : Reel H r n) (hp : H p = none) : p ≠ r := fun e => by
  obtain ⟨xs, a⟩ := h.at
  rw [e, a] at hp
  cases hp
/-- a draw from 0 to many - 1 -/
abbrev sp_law_spin (K : PySem.W.Frag) : Sp := sp2 fun a b H Q => ∃ (r : Addr) (many n : Nat), a = .ref r ∧ b = .int (many : Int) ∧ Reel H r n ∧ n < 2 ^ 40 ∧ 0 < many ∧ many < 2 ^ 1000 ∧ ∀ (d : Nat) (H' : Hp), d < many → Stp r H H' → Reel H' r (n + 1) → Q (.int (d : Int)) H'
abbrev sp_law_wound (K : PySem.W.Frag) : Sp := sp2 fun a b H Q => ∃ (l : Addr) (ns : List Int) (k : Nat), a = .ref l ∧ b = .int (k : Int) ∧ SqL K H l (ns.map V.int) ∧ k < 64 ∧
  ∀ (r : Addr) (H' : Hp), Ext H H' → H r = none → Reel H' r 0 → Q (.ref r) H'
theorem div_ok {n : Nat} (h0 : 0 < n) (h : n < 2 ^ 1000) : CDivW (0 : Int) (n : Int) := wide_div (by omega) (by rw [Int.natAbs_natCast]; exact h) (by decide) (by decide : 1000 ≤ 9000)
theorem bits_lt {i : Int} {a : Nat} (h0 : 0 ≤ i) (h : i < 2 ^ a) : i.natAbs < 2 ^ a := by
  have e : ((2 ^ a : Nat) : Int) = 2 ^ a := by simp
  omega
theorem cpow3 {i : Int} (h0 : 0 ≤ i) (h : i < 2 ^ 200) : CPowW i 3 := by
  have b := PyProof.Rows.intBits_le (bits_lt h0 h)
  refine ⟨by decide, ?_⟩
  have e : ((2 : Int) ^ 27) = 134217728 := by decide
  omega
theorem cmulx {i j : Int} {a b : Nat} (h0 : 0 ≤ i) (h : i < 2 ^ a) (k0 : 0 ≤ j) (k : j < 2 ^ b) (hab : a + b ≤ 134217728) : CMulX i j := mulx_ok (bits_lt h0 h) (bits_lt k0 k) hab
theorem Stp.new {r p : Addr} {H H1 : Hp} {o : HO} (e : Stp r H H1) (h : H1 p = none) : Stp r H (upd H1 p o) := e.trans (Ext.new h).stp
theorem Stp.mut {r p : Addr} {H H1 : Hp} {o : HO} (e : Stp r H H1) (h : H p = none) : Stp r H (upd H1 p o) := fun b u hb hr => by
  rw [upd_ne (ne_of_none hb h)]
  exact e b u hb hr
theorem Reel.new {r p : Addr} {H : Hp} {o : HO} {n : Nat} (e : Reel H r n) (h : H p = none) : Reel (upd H p o) r n := e.ext (Ext.new h)
theorem Reel.mut {r p : Addr} {H : Hp} {o : HO} {n : Nat} (e : Reel H r n) (h : p ≠ r) : Reel (upd H p o) r n := by
  obtain ⟨x, y, z, a, b⟩ := e
  exact ⟨x, y, z, by rw [upd_ne (Ne.symm h)]; exact a, b⟩
abbrev sp_law_drawn_targets (K : PySem.W.Frag) : Sp := sp2 fun a b H Q => ∃ (r : Addr) (bits n : Nat), a = .ref r ∧ b = .int (bits : Int) ∧ Reel H r n ∧ n < 2 ^ 39 ∧ 1 ≤ bits ∧ bits ≤ 100 ∧
  ∀ (l : Addr) (ts : List Nat) (H' : Hp), Stp r H H' → Reel H' r (n + 300) → H l = none → H' l = some (.lst (nv ts)) → ts.Perm (List.range bits) → Q (.ref l) H'
abbrev sp_law_drawn_flips (K : PySem.W.Frag) : Sp := sp2 fun a b H Q => ∃ (r : Addr) (bits n : Nat), a = .ref r ∧ b = .int (bits : Int) ∧ Reel H r n ∧ n < 2 ^ 39 ∧ 1 ≤ bits ∧ bits ≤ 100 ∧
  ∀ (fl : Nat) (H' : Hp), Stp r H H' → Reel H' r (n + 300) → fl < 2 ^ bits → Q (.int (fl : Int)) H'
abbrev sp_law_goes (K : PySem.W.Frag) : Sp := sp3 fun a b c H Q => ∃ (l : Addr) (ts : List Nat) (fl p : Nat), a = .ref l ∧ b = .int (fl : Int) ∧ c = .int (p : Int) ∧ H l = some (.lst (nv ts)) ∧ Ts ts ∧ ∀ H', Ext H H' → Q (.int (go ts fl p : Int)) H'
abbrev sp_law_great (K : PySem.W.Frag) : Sp := sp1 fun a H Q => ∃ (r : Addr) (n : Nat), a = .ref r ∧ Reel H r n ∧ n < 2 ^ 38 ∧
  ∀ (p l : Addr) (ts : List Nat) (fl : Nat) (H' : Hp), Stp r H H' → Reel H' r (n + 1000) → H l = none → H' l = some (.lst (nv ts)) → H p = none → H' p = some (.tup [.ref l, .int (fl : Int)]) → Ts ts → fl < 2 ^ ts.length → Q (.ref p) H'
theorem swap_perm {ts : List Nat} {i j a b : Nat} (hi : ts[i]? = some a) (hj : ts[j]? = some b) : ((ts.set i b).set j a).Perm ts := by
  obtain ⟨h1, rfl⟩ := List.getElem?_eq_some_iff.mp hi
  obtain ⟨h2, rfl⟩ := List.getElem?_eq_some_iff.mp hj
  exact List.set_set_perm h1 h2
set_option exponentiation.threshold 2000 in
theorem many_lt : 1000 < 2 ^ 1000 := Nat.lt_two_pow_self
set_option exponentiation.threshold 2000 in
theorem places_lt {bits : Nat} (h : bits ≤ 100) : 2 ^ bits < 2 ^ 1000 := Nat.pow_lt_pow_right (by decide) (by omega)
end G

/-! Steps of the laws: turns made and asked, texts of lists, lists by comprehension. -/
namespace G
open PySem PySem.Spec PyProof.Rows L2 M
section
variable {D : Ends} {σ : L2.St} {H : Hp} {Q : VK} {K : PySem.W.Frag} {C x l a : Addr} {ts : List Nat} {fl n : Nat} {tl : TA} {xs : List V} {v : V} {te ta : TE}
theorem g_mkT (h : tl σ H fun vs H1 => sp2 (pTurn C) vs H1 Q E0) : tTurn C tl σ H Q := h
theorem g_bits (t : TurnAt C H x l ts fl) (q : Q (.int (ts.length : Int)) H) (e : σ[n]? = some (some (.ref x)) := by rfl) : tProp1 (pBits C) (tVar n) σ H Q := ⟨_, e, x, l, ts, fl, rfl, t, q⟩
theorem g_flips (t : TurnAt C H x l ts fl) (q : Q (.int (fl : Int)) H) (e : σ[n]? = some (some (.ref x)) := by rfl) : tProp1 (pFlips C) (tVar n) σ H Q := ⟨_, e, x, l, ts, fl, rfl, t, q⟩
theorem g_targets (t : TurnAt C H x l ts fl) (q : ∀ p, H p = none → Q (.ref p) (upd H p (.lst (nv ts)))) (e : σ[n]? = some (some (.ref x)) := by rfl) : tProp1 (pTargets C) (tVar n) σ H Q := ⟨_, e, x, l, ts, fl, rfl, t, q⟩
/-- x.append(c) -/
theorem g_appC (hl : H a = some (.lst xs)) (hs : xs.length < sizeLine) (q : Q .non (upd H a (.lst (xs ++ [v])))) (e : σ[n]? = some (some (.ref a)) := by rfl) : tBM K "list" rAppend (tVar n) (tCons (tC v) tNil) σ H Q :=
  ⟨_, e, .inl ⟨rfl, _, SqL.of hl⟩, a, xs, v, rfl, rfl, hl, hs, q⟩
end
theorem g_goes {C : Addr} {ta : TE} {t : TA} {σ : L2.St} {H : Hp} {Q : VK} (h : ta σ H fun x H1 => (∃ (a l : Addr) (ts : List Nat) (fl : Nat), x = .ref a ∧ TurnAt C H1 a l ts fl) ∧ t σ H1 fun vs H2 => ∃ v, vs = [v] ∧ pGoes C x v H2 Q) : tGoes C ta t σ H Q := h
theorem g_nn {P : Prop} (h : P) : V.non = V.non ∧ P := ⟨rfl, h⟩
theorem g_un2 {P : V → V → Hp → VK → Prop} {x y : V} {H : Hp} {Q : VK} (h : P x y H Q) : (fun a b H Q => P a b H Q) x y H Q := h
theorem TurnAt.put {C : Addr} {H : Hp} {x l p : Addr} {ts : List Nat} {fl : Nat} {o : HO} (t : TurnAt C H x l ts fl) (h1 : x ≠ p) (h2 : l ≠ p) : TurnAt C (upd H p o) x l ts fl :=
  ⟨t.ob.elim fun dx h => ⟨dx, by rw [upd_ne h1]; exact h⟩, by rw [upd_ne h2]; exact t.ls, t.ok, t.fl⟩
theorem TurnAt.new {C : Addr} {H : Hp} {x l p : Addr} {ts : List Nat} {fl : Nat} {o : HO} (t : TurnAt C H x l ts fl) (h : H p = none) : TurnAt C (upd H p o) x l ts fl := t.ext (Ext.new h)

theorem TurnAt.nx {C : Addr} {H : Hp} {x l p : Addr} {ts : List Nat} {fl : Nat} (t : TurnAt C H x l ts fl) (h : H p = none) : x ≠ p := t.ob.elim fun _ z => ne_of_none z h
theorem TurnAt.nl {C : Addr} {H : Hp} {x l p : Addr} {ts : List Nat} {fl : Nat} (t : TurnAt C H x l ts fl) (h : H p = none) : l ≠ p := ne_of_none t.ls h
/-- a list made and changed thereafter -/
theorem TurnAt.put2 {C : Addr} {H : Hp} {x l p : Addr} {ts : List Nat} {fl : Nat} {o o' : HO} (t : TurnAt C H x l ts fl) (h : H p = none) : TurnAt C (upd (upd H p o) p o') x l ts fl := (t.new h).put (t.nx h) (t.nl h)
theorem Ext.put2 {H H1 : Hp} {p : Addr} {o o' : HO} (e : Ext H H1) (h : H1 p = none) : Ext H (upd (upd H1 p o) p o') := (e.new' h).mut (e.free h)
theorem Ext.keep {H H1 : Hp} {a : Addr} {o : HO} (e : Ext H H1) (h : H a = some o) : H1 a = some o := e a o h

/-- what was made and changed after H -/
theorem Stp.out {r : Addr} {H H1 H2 : Hp} (e : Ext H H1) (s : Stp r H1 H2) (hr : H r = none) : Ext H H2 := fun b o h => s b o (e b o h) (ne_of_none h hr)

/-! ### texts -/
theorem _root_.M.Ts.small {ts : List Nat} (h : Ts ts) : ∀ n ∈ ts, n < 2 ^ 1900 := fun n hn => by
  have h1 := h.lt n hn
  have h2 := h.most
  refine Nat.lt_trans (Nat.lt_of_lt_of_le h1 h2) ?_
  exact Nat.lt_of_lt_of_le (by decide : 100 < 2 ^ 7) (Nat.pow_le_pow_right (by decide) (by decide))
theorem _root_.M.Ts.fl_small {ts : List Nat} {fl : Nat} (h : Ts ts) (hf : fl < 2 ^ ts.length) : fl < 2 ^ 1900 := Nat.lt_of_lt_of_le hf (Nat.pow_le_pow_right (by decide) (Nat.le_trans h.most (by decide)))
theorem log_small {n : Nat} (h : n < 2 ^ 1900) : ((n : Int)).natAbs.log2 < 1920 := by
  rw [Int.natAbs_natCast]
  by_cases h0 : n = 0
  · subst h0
    decide
  · rw [Nat.log2_lt h0]
    exact Nat.lt_trans h (Nat.pow_lt_pow_right (by decide) (by decide))
/-- [a, ts, b] -/
def d3 (a : Nat) (ts : List Nat) (b : Nat) : PyData := .list [.int (a : Int), .list (nd ts), .int (b : Int)]
open PyData in
theorem nd_text {l : List Nat} (h : ∀ n ∈ l, n < 2 ^ 1900) : (listText (shownAll (nd l))).length ≤ 1923 * l.length + 2 := by
  have := (nd_show l h).2.2
  have := listText_le (shownAll (nd l))
  omega
open PyData in
theorem repr_nd {K : PySem.W.Frag} {H : Hp} {a : Addr} {l : List Nat} {Q : VK} (hl : H a = some (.lst (nv l))) (h : ∀ n ∈ l, n < 2 ^ 1900) (hn : l.length ≤ 8000) (q : Q (.str (PyData.list (nd l)).shown) H) : rReprD K [.ref a] H Q := by
  obtain ⟨h1, h2, h3⟩ := nd_show l h
  have h4 := nd_text h
  refine ⟨_, .list (nd l), rfl, dp_nv hl, ?_, ?_, ?_, ?_, ⟨a, rfl⟩, q⟩
  · unfold showable
    exact h1
  · unfold hasDict
    exact h2
  · unfold depth
    rw [nd_depth]
    decide
  · have e : sizeLine = 16777216 := by decide
    unfold PyData.shown
    omega
open PyData in
theorem repr_d3 {K : PySem.W.Frag} {H : Hp} {p a : Addr} {n m : Nat} {ts : List Nat} {Q : VK} (hp : H p = some (.lst [.int (n : Int), .ref a, .int (m : Int)])) (hl : H a = some (.lst (nv ts))) (h : ∀ n ∈ ts, n < 2 ^ 1900) (ht : ts.length ≤ 1000)
    (hn : n < 2 ^ 1900) (hm : m < 2 ^ 1900) (q : Q (.str (d3 n ts m).shown) H) : rReprD K [.ref p] H Q := by
  obtain ⟨h1, h2, h3⟩ := nd_show ts h
  have h4 := nd_text h
  have hn' := log_small hn
  have hm' := log_small hm
  have s1 := int_show_le hn'
  have s2 := int_show_le hm'
  refine ⟨_, d3 n ts m, rfl, .lst (SqL.of hp) (.cons (.int _) (.cons (dp_nv hl) (.cons (.int _) .nil))), ?_, ?_, ?_, ?_, ⟨p, rfl⟩, q⟩
  · unfold d3
    simp only [showable, showableAll, decide_eq_true hn', decide_eq_true hm', h1, Bool.and_true]
  · unfold d3
    simp only [hasDict, hasDictAll, h2, Bool.or_false]
  · unfold d3
    simp only [depth, depthAll, nd_depth]
    decide
  · have e : sizeLine = 16777216 := by decide
    have e2 := listText_le [PyData.shown (.int (n : Int)), listText (shownAll (nd ts)), PyData.shown (.int (m : Int))]
    have e3 : (d3 n ts m).shown = listText [PyData.shown (.int (n : Int)), listText (shownAll (nd ts)), PyData.shown (.int (m : Int))] := by
      unfold d3
      simp only [PyData.shown, shownAll]
    rw [e3]
    simp only [piled_cons, piled_nil] at e2
    omega
theorem nv_succ (f : Nat → Nat) (i : Nat) : nv ((List.range i).map f) ++ [.int (f i : Int)] = nv ((List.range (i + 1)).map f) := by
  rw [List.range_succ, List.map_append, nv_append]
  rfl
/-- a list that grows by one -/
theorem grown {H H' H2 : Hp} {p : Addr} {f : Nat → Nat} {i : Nat} (e : Ext H H') (e2 : Ext H' H2) (hp : H p = none) (h : H' p = some (.lst (nv ((List.range i).map f)))) (hi : i < 16000000) :
    ∃ acc, H2 p = some (.lst acc) ∧ acc.length < sizeLine ∧ (Ext H (upd H2 p (.lst (acc ++ [.int (f i : Int)]))) ∧ upd H2 p (.lst (acc ++ [.int (f i : Int)])) p = some (.lst (nv ((List.range (i + 1)).map f)))) := by
  have hs : sizeLine = 16777216 := by decide
  refine ⟨_, e2 _ _ h, ?_, (e.trans e2).mut hp, ?_⟩
  · rw [nv_len, List.length_map, List.length_range]
    omega
  · rw [upd_same, nv_succ]
theorem xor_one_ne (a : Nat) : ¬ a = a ^^^ 1 := fun h => by
  have h1 : (a ^^^ 1) % 2 = 1 ↔ ¬(a % 2 = 1 ↔ 1 % 2 = 1) := Nat.xor_mod_two_eq_one
  rw [← h] at h1
  omega
theorem xor_one_lt {a n : Nat} (h : a < 2 ^ n) (hn : 1 ≤ n) : a ^^^ 1 < 2 ^ n := Nat.xor_lt_two_pow h (Nat.one_lt_two_pow (by omega))
theorem xor_one (a : Nat) : Builtin.bitXor (a : Int) 1 = ((a ^^^ 1 : Nat) : Int) := bitXor_nat a 1
/-- one more that stays -/
theorem _root_.M.Ts.snoc {ts : List Nat} (h : Ts ts) (hl : ts.length < 100) : Ts (ts ++ [ts.length]) := by
  refine (Ts.of_perm (n := ts.length + 1) ?_ (by omega) (by omega)).1
  rw [List.range_succ]
  exact h.perm.append_right _
theorem Other.non {K : PySem.W.Frag} {H : Hp} : Other K H .non := ⟨"NoneType", .base .non, by decide⟩
theorem Other.int {K : PySem.W.Frag} {H : Hp} {i : Int} : Other K H (.int i) := ⟨"int", .base (.int i), by decide⟩
theorem Other.str {K : PySem.W.Frag} {H : Hp} {x : Str} : Other K H (.str x) := ⟨"str", .base (.str x), by decide⟩
theorem Other.lst {K : PySem.W.Frag} {H : Hp} {a : Addr} {xs : List V} (h : H a = some (.lst xs)) : Other K H (.ref a) := ⟨"list", .base (.lst h), by decide⟩
theorem Other.tup {K : PySem.W.Frag} {H : Hp} {a : Addr} {xs : List V} (h : H a = some (.tup xs)) : Other K H (.ref a) := ⟨"tuple", .base (.tup h), by decide⟩
theorem EqTo.other {K : PySem.W.Frag} {C : Addr} {H : Hp} {b : V} {ts : List Nat} {fl : Nat} (h : Other K H b) : EqTo K C H b ts fl false := .inr ⟨h, rfl⟩
theorem EqTo.turn {K : PySem.W.Frag} {C : Addr} {H : Hp} {y l : Addr} {ts ts' : List Nat} {fl fl' : Nat} (h : TurnAt C H y l ts' fl') : EqTo K C H (.ref y) ts fl (decide (ts = ts' ∧ fl = fl')) := .inl ⟨y, l, ts', fl', rfl, h, rfl⟩
theorem dp_nilL {K : PySem.W.Frag} {H : Hp} {a : Addr} (h : H a = some (.lst [])) : Dp K H (.ref a) (.list []) := .lst (SqL.of h) .nil
theorem len5 {P : V → Prop} {a b c d e : V} (ha : P a) (hb : P b) (hc : P c) (hd : P d) (he : P e) {i : Nat} {x : V} (h : [a, b, c, d, e][i]? = some x) : P x := by
  match i, h with
  | 0, h => cases h; exact ha
  | 1, h => cases h; exact hb
  | 2, h => cases h; exact hc
  | 3, h => cases h; exact hd
  | 4, h => cases h; exact he
  | _ + 5, h => cases h
open PyData in
theorem pair_eq (l m : List Nat) (a b : Nat) : eqv (.tuple [.list (nd l), .int (a : Int)]) (.tuple [.list (nd m), .int (b : Int)]) = decide (l = m ∧ a = b) := by
  have e : eqv (.tuple [.list (nd l), .int (a : Int)]) (.tuple [.list (nd m), .int (b : Int)]) = (eqv (.list (nd l)) (.list (nd m)) && (eqv (.int (a : Int)) (.int (b : Int)) && true)) := by
    simp only [eqv, eqvAll]
  rw [e, nd_eq]
  have e2 : eqv (.int (a : Int)) (.int (b : Int)) = decide (a = b) := by
    unfold eqv
    by_cases h : a = b
    · subst h
      simp
    · have h' : ¬ ((a : Int) = (b : Int)) := by omega
      simp [h, h']
  rw [e2]
  by_cases h : l = m <;> by_cases g : a = b <;> simp [h, g]
open PyData in
theorem pair_shaped (l : List Nat) (a : Nat) : SeqAt.shaped (.tuple [.list (nd l), .int (a : Int)]) = true := by
  unfold SeqAt.shaped
  simp only [canLay0, canLayAll0, depth, depthAll, nd_canLay, nd_depth]
  rfl
theorem dp_pair {K : PySem.W.Frag} {H : Hp} {p l : Addr} {ts : List Nat} {a : Nat} (hp : H p = some (.tup [.ref l, .int (a : Int)])) (hl : H l = some (.lst (nv ts))) : Dp K H (.ref p) (.tuple [.list (nd ts), .int (a : Int)]) :=
  .tup (SqT.of hp) (.cons (dp_nv hl) (.cons (.int _) .nil))
/-- sorted numbers that are 0 .. n - 1 in some order -/
theorem sorted_range {ns : List Int} {l : List Nat} {n : Nat} (hp : ns.Perm (l.map fun (n : Nat) => (n : Int))) (hs : ns.Pairwise (· ≤ ·)) (hl : l.Perm (List.range n)) : ns.map V.int = nv (List.range n) := by
  have h1 : ns.Perm ((List.range n).map fun (n : Nat) => (n : Int)) := hp.trans (hl.map _)
  have h2 : ((List.range n).map fun (n : Nat) => (n : Int)).Pairwise (· ≤ ·) := by
    rw [List.pairwise_map]
    exact List.Pairwise.imp (fun {a b} (h : a < b) => by omega) List.pairwise_lt_range
  have e := List.Perm.eq_of_pairwise (le := (· ≤ ·)) (fun a b _ _ h1 h2 => Int.le_antisymm h1 h2) hs h2 h1
  rw [e, nv_ints]
/-- max(1, min(6, n)) -/
theorem few_ex (n k : Nat) (hk : 1 ≤ k) : ∃ m : Nat, m ≤ k ∧ (if (if (n : Int) < (k : Int) then (n : Int) else (k : Int)) > 1 then (if (n : Int) < (k : Int) then (n : Int) else (k : Int)) else 1) = (m : Int) := by
  by_cases h : (n : Int) < (k : Int)
  · by_cases g : (n : Int) > 1
    · exact ⟨n, by omega, by rw [if_pos h, if_pos g]⟩
    · exact ⟨1, by omega, by rw [if_pos h, if_neg g]; rfl⟩
  · by_cases g : (k : Int) > 1
    · exact ⟨k, by omega, by rw [if_neg h, if_pos g]⟩
    · exact ⟨1, by omega, by rw [if_neg h, if_neg g]; rfl⟩
end G

/-! The functions on turns that rest on then and power: their promises. -/
namespace M
/-- the turn us, gl behind ts, fl -/
def cT (ts us : List Nat) : List Nat := ts.map fun t => us.getD t 0
theorem cT_len (ts us : List Nat) : (cT ts us).length = ts.length := List.length_map _
theorem cT_get {ts us : List Nat} {e t : Nat} (h : ts[e]? = some t) : (cT ts us)[e]? = some (us.getD t 0) := by
  unfold cT
  rw [List.getElem?_map, h]
  rfl
theorem cT_ok {ts us : List Nat} (h : Ts ts) (g : Ts us) (e : ts.length = us.length) : Ts (cT ts us) := by
  refine ⟨by rw [cT_len]; exact h.one, by rw [cT_len]; exact h.most, fun t ht => ?_, ?_⟩
  · rw [cT_len]
    obtain ⟨b, hb, rfl⟩ := List.mem_map.mp ht
    rw [e]
    exact g.getD_lt (by rw [← e]; exact h.lt b hb)
  · refine nodup_map_on h.nd fun a ha b hb q => ?_
    have ha' := h.lt a ha
    have hb' := h.lt b hb
    rw [e] at ha' hb'
    have i1 := g.idx_get (g.getD ha')
    have i2 := g.idx_get (g.getD hb')
    rw [← i1, ← i2, q]
theorem go_cT {ts us : List Nat} {fl gl : Nat} (h : Ts ts) (g : Ts us) (e : ts.length = us.length) {p : Nat} : go (cT ts us) (go us gl fl) p = go us gl (go ts fl p) := by
  have l1 := go_lt (cT ts us) (go us gl fl) p
  rw [cT_len, e] at l1
  refine bits_ext l1 (go_lt _ _ _) fun t ht => ?_
  have hi := g.get_idx ht
  have il := g.idx_lt ht
  rw [← e] at il
  have hi2 := h.get_idx il
  have a := cT_get (us := us) hi2
  have eg : us.getD (us.idxOf t) 0 = t := by
    rw [List.getD_eq_getElem?_getD, hi]
    rfl
  rw [eg] at a
  rw [go_bit (cT_ok h g e) _ _ a, go_bit g gl fl hi, go_bit g gl _ hi, go_bit h fl p hi2]
  cases p.testBit _ <;> cases fl.testBit _ <;> cases gl.testBit _ <;> rfl
theorem ts_range {n : Nat} (h1 : 1 ≤ n) (h2 : n ≤ 100) : Ts (List.range n) := (Ts.of_perm (List.Perm.refl _) h1 h2).1
theorem go_range {n p : Nat} (h1 : 1 ≤ n) (h2 : n ≤ 100) (hp : p < 2 ^ n) : go (List.range n) 0 p = p := by
  have l := go_lt (List.range n) 0 p
  rw [List.length_range] at l
  refine bits_ext l hp fun t ht => ?_
  have hg : (List.range n)[t]? = some t := by rw [List.getElem?_range ht]
  rw [go_bit (ts_range h1 h2) _ _ hg, Nat.zero_testBit, Bool.xor_false]
/-- a turn is told by where it brings the places -/
theorem faithful {ts us : List Nat} {fl gl : Nat} (h : Ts ts) (g : Ts us) (e : ts.length = us.length) (hf : fl < 2 ^ ts.length) (hg : gl < 2 ^ us.length) (q : ∀ p, p < 2 ^ ts.length → go ts fl p = go us gl p) : ts = us ∧ fl = gl := by
  have zero : ∀ {ts : List Nat} {fl : Nat}, Ts ts → fl < 2 ^ ts.length → go ts fl 0 = fl := fun {ts fl} h hf => by
    refine bits_ext (go_lt _ _ _) hf fun t ht => ?_
    rw [go_bit h _ _ (h.get_idx ht), Nat.zero_testBit, Bool.false_xor]
  have ef : fl = gl := by
    rw [← zero h hf, ← zero g hg]
    exact q 0 (Nat.two_pow_pos _)
  subst ef
  refine ⟨List.ext_getElem? fun b => ?_, rfl⟩
  by_cases hb : b < ts.length
  · have hp : 2 ^ b < 2 ^ ts.length := Nat.pow_lt_pow_right (by decide) hb
    have w := q _ hp
    have gb : b < us.length := by omega
    have a1 := h.getD hb
    have a2 := g.getD gb
    have b1 := go_bit h fl (2 ^ b) a1
    have hl := h.getD_lt hb
    rw [e] at hl
    have hi := g.get_idx hl
    have b2 := go_bit g fl (2 ^ b) hi
    rw [w, b2] at b1
    have t1 : (2 ^ b).testBit b = true := Nat.testBit_two_pow_self
    rw [t1] at b1
    have t2 : (2 ^ b).testBit (us.idxOf (ts.getD b 0)) = true := by
      cases z : (2 ^ b).testBit (us.idxOf (ts.getD b 0)) with
      | true => rfl
      | false =>
        rw [z] at b1
        cases y : fl.testBit (ts.getD b 0) <;> rw [y] at b1 <;> cases b1
    have t3 : b = us.idxOf (ts.getD b 0) := by
      rw [Nat.testBit_two_pow] at t2
      simpa using t2
    rw [← t3] at hi
    rw [a1, hi]
  · rw [List.getElem?_eq_none (by omega), List.getElem?_eq_none (by omega)]
/-! ### a line of places, stepped -/
def inv (ln : List Nat) : List Nat := (List.range ln.length).map fun t => ln.idxOf t
def sel (ln : List Nat) (n : Int) : List Nat := if 0 < n then ln else inv ln
def stp (ln : List Nat) (n : Int) : List Nat := (List.range ln.length).map (it (fun i => (sel ln n).getD i 0) n.natAbs)
theorem inv_len (ln : List Nat) : (inv ln).length = ln.length := by
  unfold inv
  rw [List.length_map, List.length_range]
theorem sel_len (ln : List Nat) (n : Int) : (sel ln n).length = ln.length := by
  unfold sel
  split
  · rfl
  · exact inv_len ln
section
variable {ln : List Nat}
theorem line_lt (h : ln.Perm (List.range ln.length)) {x : Nat} (hx : x ∈ ln) : x < ln.length := List.mem_range.mp (h.mem_iff.mp hx)
theorem line_mem (h : ln.Perm (List.range ln.length)) {x : Nat} (hx : x < ln.length) : x ∈ ln := h.mem_iff.mpr (List.mem_range.mpr hx)
theorem sel_lt (h : ln.Perm (List.range ln.length)) (n : Int) {x : Nat} (hx : x ∈ sel ln n) : x < ln.length := by
  unfold sel at hx
  split at hx
  · exact line_lt h hx
  · obtain ⟨t, ht, rfl⟩ := List.mem_map.mp hx
    exact List.idxOf_lt_length_of_mem (line_mem h (List.mem_range.mp ht))
theorem getD_at {l : List Nat} {i : Nat} (h : i < l.length) : l[i]? = some (l.getD i 0) := by
  rw [List.getD_eq_getElem?_getD, List.getElem?_eq_getElem h]
  rfl
theorem sel_it_lt (h : ln.Perm (List.range ln.length)) (n : Int) : ∀ (k : Nat) {i : Nat}, i < ln.length → it (fun i => (sel ln n).getD i 0) k i < ln.length
  | 0, _, hi => hi
  | k + 1, i, hi => by
    have l := sel_it_lt h n k hi
    refine sel_lt h n (List.mem_of_getElem? (getD_at (l := sel ln n) ?_))
    rw [sel_len]
    exact l
theorem inv_done (h : ln.Perm (List.range ln.length)) {b : List Nat} (hl : b.length = ln.length) (hb : ∀ i t : Nat, ln[i]? = some t → b[t]? = some i) : b = inv ln := by
  have nd : ln.Nodup := h.nodup_iff.mpr List.nodup_range
  refine List.ext_getElem? fun t => ?_
  by_cases ht : t < ln.length
  · have hm := line_mem h ht
    have hi := List.idxOf_lt_length_of_mem hm
    have e : ln[ln.idxOf t]? = some t := by
      rw [List.getElem?_eq_getElem hi]
      exact congrArg some (List.getElem_idxOf hi)
    rw [hb _ _ e]
    unfold inv
    rw [List.getElem?_map, List.getElem?_range ht]
    rfl
  · rw [List.getElem?_eq_none (by omega), List.getElem?_eq_none (by rw [inv_len]; omega)]
end
/-- the places of a turn as a line -/
def plc (ts : List Nat) (fl : Nat) : List Nat := (List.range (2 ^ ts.length)).map (go ts fl)
section
variable {ts : List Nat} {fl : Nat}
theorem plc_len (ts : List Nat) (fl : Nat) : (plc ts fl).length = 2 ^ ts.length := by
  unfold plc
  rw [List.length_map, List.length_range]
theorem plc_at {p : Nat} (hp : p < 2 ^ ts.length) : (plc ts fl)[p]? = some (go ts fl p) := by
  unfold plc
  rw [List.getElem?_map, List.getElem?_range hp]
  rfl
theorem plc_getD {p : Nat} (hp : p < 2 ^ ts.length) : (plc ts fl).getD p 0 = go ts fl p := by
  rw [List.getD_eq_getElem?_getD, plc_at hp]
  rfl
theorem plc_perm (ok : Ts ts) : (plc ts fl).Perm (List.range (plc ts fl).length) := by
  rw [plc_len]
  exact go_all ok fl
theorem inv_plc (ok : Ts ts) {p : Nat} (hp : p < 2 ^ ts.length) : (inv (plc ts fl)).getD (go ts fl p) 0 = p := by
  have l := go_lt ts fl p
  have nd : (plc ts fl).Nodup := (plc_perm ok).nodup_iff.mpr List.nodup_range
  unfold inv
  rw [List.getD_eq_getElem?_getD, List.getElem?_map, plc_len, List.getElem?_range l]
  show (plc ts fl).idxOf (go ts fl p) = p
  have hi : p < (plc ts fl).length := by
    rw [plc_len]
    exact hp
  have e : (plc ts fl)[p] = go ts fl p := Option.some.inj ((List.getElem?_eq_getElem hi).symm.trans (plc_at hp))
  rw [← e]
  exact nd.idxOf_getElem p hi
/-- a power's places are the line, stepped -/
theorem plc_power (ok : Ts ts) (n : Int) : plc (pT ts fl n) (pF ts fl n) = stp (plc ts fl) n := by
  unfold stp
  rw [plc_len]
  conv => lhs; unfold plc
  rw [pT_len]
  refine List.map_congr_left fun p hp => ?_
  have hp := List.mem_range.mp hp
  unfold sel
  by_cases h : 0 < n
  · rw [if_pos h]
    have e := go_pT_nonneg (fl := fl) ok n.toNat hp
    rw [Int.toNat_of_nonneg (by omega)] at e
    rw [e, show n.natAbs = n.toNat by omega]
    generalize n.toNat = k
    induction k with
    | zero => rfl
    | succ k ih =>
      show go ts fl (it (go ts fl) k p) = (plc ts fl).getD (it _ k p) 0
      rw [← ih, plc_getD (it_go_lt k hp)]
  · rw [if_neg h]
    have e := go_pT_neg (fl := fl) ok n.natAbs hp
    rw [show -((n.natAbs : Nat) : Int) = n by omega] at e
    have l := go_lt (pT ts fl n) (pF ts fl n) p
    rw [pT_len] at l
    generalize go (pT ts fl n) (pF ts fl n) p = q at e l
    subst e
    generalize n.natAbs = k
    have back : ∀ (k : Nat) (q : Nat), q < 2 ^ ts.length → q = it (fun i => (inv (plc ts fl)).getD i 0) k (it (go ts fl) k q) := fun k => by
      induction k with
      | zero => exact fun q _ => rfl
      | succ k ih =>
        intro q hq
        rw [it_succ]
        show q = it _ k ((inv (plc ts fl)).getD (go ts fl (it (go ts fl) k q)) 0)
        rw [inv_plc ok (it_go_lt k hq)]
        exact ih q hq
    exact back k q l
theorem plc_inj {us : List Nat} {gl : Nat} (ok : Ts ts) (g : Ts us) (e : ts.length = us.length) (hf : fl < 2 ^ ts.length) (hg : gl < 2 ^ us.length) : decide (ts = us ∧ fl = gl) = decide (plc ts fl = plc us gl) := by
  by_cases h : plc ts fl = plc us gl
  · have q := faithful ok g e hf hg fun p hp => by
      have a := plc_at (fl := fl) hp
      rw [h, plc_at (by rw [← e]; exact hp)] at a
      exact (Option.some.inj a).symm
    rw [decide_eq_true h, decide_eq_true q]
  · rw [decide_eq_false h, decide_eq_false]
    rintro ⟨rfl, rfl⟩
    exact h rfl
end
theorem plc_then {ts us : List Nat} {fl gl : Nat} (ok : Ts ts) (g : Ts us) (e : ts.length = us.length) : plc (cT ts us) (go us gl fl) = (plc ts fl).map fun p => (plc us gl).getD p 0 := by
  unfold plc
  rw [cT_len, List.map_map]
  refine List.map_congr_left fun p hp => ?_
  show _ = (plc us gl).getD (go ts fl p) 0
  rw [go_cT ok g e, plc_getD (by rw [← e]; exact go_lt _ _ _)]
theorem plc_range {n : Nat} (h1 : 1 ≤ n) (h2 : n ≤ 100) : plc (List.range n) 0 = List.range (2 ^ n) := by
  unfold plc
  rw [List.length_range]
  refine Eq.trans (List.map_congr_left fun p hp => go_range h1 h2 (List.mem_range.mp hp)) (List.map_id' _)
theorem there_back {ts : List Nat} {fl : Nat} (ok : Ts ts) (hf : fl < 2 ^ ts.length) : cT ts (pT ts fl (-1)) = List.range ts.length ∧ go (pT ts fl (-1)) (pF ts fl (-1)) fl = 0 := by
  have g := pT_ok (fl := fl) ok (-1)
  have e : ts.length = (pT ts fl (-1)).length := (pT_len _).symm
  have l0 := go_lt (pT ts fl (-1)) (pF ts fl (-1)) fl
  refine faithful (cT_ok ok g e) (ts_range ok.one ok.most) (by rw [cT_len, List.length_range]) (by rw [cT_len, e]; exact l0) (by rw [List.length_range]; exact Nat.two_pow_pos _) fun p hp => ?_
  rw [cT_len] at hp
  rw [go_cT ok g e, go_range ok.one ok.most hp]
  have q := go_pT_neg (fl := fl) ok 1 (go_lt ts fl p)
  have l1 := go_lt (pT ts fl (-1)) (pF ts fl (-1)) (go ts fl p)
  rw [← e] at l1
  exact go_inj ok l1 hp q
/-! ### turns told by their ways of bits -/
section
variable {ts us : List Nat} {fl gl : Nat} {x : Nat × Bool}
theorem getD_of {l : List Nat} {i t : Nat} (h : l[i]? = some t) : l.getD i 0 = t := by
  rw [List.getD_eq_getElem?_getD, h]
  rfl
theorem T_ext (ok : Ts ts) (g : Ts us) (e : ts.length = us.length) (hf : fl < 2 ^ ts.length) (hg : gl < 2 ^ us.length) (h : ∀ b, b < ts.length → fw ts fl (b, false) = fw us gl (b, false)) : ts = us ∧ fl = gl := by
  have a : ts = us := List.ext_getElem? fun b => by
    by_cases hb : b < ts.length
    · rw [ok.getD hb, g.getD (by omega)]
      exact congrArg (fun z => some z.1) (h b hb)
    · rw [List.getElem?_eq_none (by omega), List.getElem?_eq_none (by omega)]
  subst a
  refine ⟨rfl, bits_ext hf hg fun t ht => ?_⟩
  have q := congrArg Prod.snd (h _ (ok.idx_lt ht))
  unfold fw at q
  simp only [Bool.false_xor, getD_of (ok.get_idx ht)] at q
  exact q
theorem fw_pT (ok : Ts ts) (n : Int) (hx : x.1 < ts.length) : fw (pT ts fl n) (pF ts fl n) x = pw ts fl n x := by
  obtain ⟨e, v⟩ := x
  have f := pw_flip (ts := ts) (fl := fl) n e false v
  rw [Bool.false_xor] at f
  rw [f]
  unfold fw
  simp only [getD_of (pT_get (fl := fl) n hx), pF_bit ok n hx]
  rw [Bool.xor_comm]
theorem fw_cT (ok : Ts ts) (g : Ts us) (e : ts.length = us.length) (hx : x.1 < ts.length) : fw (cT ts us) (go us gl fl) x = fw us gl (fw ts fl x) := by
  have h1 := ok.getD hx
  have hl := ok.getD_lt hx
  rw [e] at hl
  have h2 := g.getD hl
  unfold fw
  simp only [getD_of (cT_get (us := us) h1), go_bit g gl fl h2, Bool.xor_assoc]
theorem fw_range {n : Nat} (hx : x.1 < n) : fw (List.range n) 0 x = x := by
  unfold fw
  rw [getD_of (List.getElem?_range hx), Nat.zero_testBit, Bool.xor_false]
theorem pw_one (ok : Ts ts) (hx : x.1 < ts.length) : pw ts fl 1 x = fw ts fl x := pw_succ ok 0 hx
theorem pw_back (ok : Ts ts) (hx : x.1 < ts.length) : pw ts fl (-1) x = bw ts fl x := pw_pred ok 0 hx
theorem fw_back (ok : Ts ts) (hx : x.1 < ts.length) : fw ts fl (pw ts fl (-1) x) = x := by
  rw [← pw_succ ok (-1) hx]
  rfl
theorem bw_pT (ok : Ts ts) (n : Int) (hx : x.1 < ts.length) : bw (pT ts fl n) (pF ts fl n) x = pw ts fl (-n) x := by
  have hy := pw_lt (fl := fl) ok (-n) hx
  have q := fw_pT (fl := fl) ok n hy
  rw [← pw_add ok _ _ hx, Int.add_right_neg, pw_zero] at q
  have b := bw_fw (fl := pF ts fl n) (pT_ok (fl := fl) ok n) (x := pw ts fl (-n) x) (by rw [pT_len]; exact hy)
  rw [q] at b
  exact b
theorem pw_pT (ok : Ts ts) (n m : Int) (hx : x.1 < ts.length) : pw (pT ts fl n) (pF ts fl n) m x = pw ts fl (n * m) x := by
  have okp := pT_ok (fl := fl) ok n
  have hx' : x.1 < (pT ts fl n).length := by rw [pT_len]; exact hx
  refine int_ind (P := fun m => pw (pT ts fl n) (pF ts fl n) m x = pw ts fl (n * m) x) ?_ ?_ ?_ m
  · rw [Int.mul_zero]
    rfl
  · intro m ih
    rw [pw_succ okp m hx', ih, fw_pT ok n (pw_lt ok _ hx), ← pw_add ok _ _ hx, Int.mul_add, Int.mul_one, Int.add_comm]
  · intro m ih
    rw [pw_pred okp m hx', ih, bw_pT ok n (pw_lt ok _ hx), ← pw_add ok _ _ hx, Int.mul_sub, Int.mul_one]
    congr 1
    omega
theorem cF_lt (e : ts.length = us.length) : go us gl fl < 2 ^ (cT ts us).length := by
  rw [cT_len, e]
  exact go_lt _ _ _
theorem pF_lt' (n : Int) : pF ts fl n < 2 ^ (pT ts fl n).length := by
  rw [pT_len]
  exact pF_lt n
/-- the numbers of two powers add up -/
theorem power_add (ok : Ts ts) (n m : Int) : cT (pT ts fl n) (pT ts fl m) = pT ts fl (n + m) ∧ go (pT ts fl m) (pF ts fl m) (pF ts fl n) = pF ts fl (n + m) := by
  have e : (pT ts fl n).length = (pT ts fl m).length := by rw [pT_len, pT_len]
  refine T_ext (cT_ok (pT_ok ok n) (pT_ok ok m) e) (pT_ok ok _) (by rw [cT_len, pT_len, pT_len]) (cF_lt e) (pF_lt' _) fun b hb => ?_
  rw [cT_len, pT_len] at hb
  rw [fw_cT (pT_ok ok n) (pT_ok ok m) e (by rw [pT_len]; exact hb), fw_pT ok n hb, fw_pT ok m (pw_lt ok n hb), fw_pT ok _ hb, ← pw_add ok _ _ hb, Int.add_comm]
/-- and multiply -/
theorem power_mul (ok : Ts ts) (n m : Int) : pT (pT ts fl n) (pF ts fl n) m = pT ts fl (n * m) ∧ pF (pT ts fl n) (pF ts fl n) m = pF ts fl (n * m) := by
  refine T_ext (pT_ok (pT_ok ok n) m) (pT_ok ok _) (by rw [pT_len, pT_len, pT_len]) (pF_lt' _) (pF_lt' _) fun b hb => ?_
  rw [pT_len, pT_len] at hb
  rw [fw_pT (pT_ok ok n) m (by rw [pT_len]; exact hb), pw_pT ok n m hb, fw_pT ok _ hb]
theorem power_zero (ok : Ts ts) : pT ts fl 0 = List.range ts.length ∧ pF ts fl 0 = 0 := by
  refine T_ext (pT_ok ok 0) (ts_range ok.one ok.most) (by rw [pT_len, List.length_range]) (pF_lt' _) (Nat.two_pow_pos _) fun b hb => ?_
  rw [pT_len] at hb
  rw [fw_pT ok 0 hb, pw_zero, fw_range hb]
theorem power_one (ok : Ts ts) (hf : fl < 2 ^ ts.length) : pT ts fl 1 = ts ∧ pF ts fl 1 = fl := by
  refine T_ext (pT_ok ok 1) ok (pT_len _) (pF_lt' _) hf fun b hb => ?_
  rw [pT_len] at hb
  rw [fw_pT ok 1 hb, pw_one ok hb]
theorem back_back (ok : Ts ts) (hf : fl < 2 ^ ts.length) : pT (pT ts fl (-1)) (pF ts fl (-1)) (-1) = ts ∧ pF (pT ts fl (-1)) (pF ts fl (-1)) (-1) = fl := by
  have a := power_mul (fl := fl) ok (-1) (-1)
  have b := power_one ok hf
  rw [show (-1 : Int) * -1 = 1 from rfl] at a
  exact ⟨a.1.trans b.1, a.2.trans b.2⟩
theorem then_id (ok : Ts ts) (hf : fl < 2 ^ ts.length) : cT ts (List.range ts.length) = ts ∧ go (List.range ts.length) 0 fl = fl := by
  have e : ts.length = (List.range ts.length).length := List.length_range.symm
  have g := ts_range ok.one ok.most
  refine T_ext (cT_ok ok g e) ok (cT_len _ _) (cF_lt e) hf fun b hb => ?_
  rw [cT_len] at hb
  rw [fw_cT ok g e hb, fw_range (fw_lt ok hb)]
theorem then_assoc {vs : List Nat} {hl : Nat} (ok : Ts ts) (g : Ts us) (k : Ts vs) (e : ts.length = us.length) (e2 : us.length = vs.length) :
    cT (cT ts us) vs = cT ts (cT us vs) ∧ go vs hl (go us gl fl) = go (cT us vs) (go vs hl gl) fl := by
  have h1 := cT_ok ok g e
  have h2 := cT_ok g k e2
  have l1 : (cT ts us).length = vs.length := by rw [cT_len, e, e2]
  have l2 : ts.length = (cT us vs).length := by rw [cT_len, e]
  refine T_ext (cT_ok h1 k l1) (cT_ok ok h2 l2) (by rw [cT_len, cT_len, cT_len]) (cF_lt l1) (cF_lt l2) fun b hb => ?_
  rw [cT_len, cT_len] at hb
  have hb1 := fw_lt (fl := fl) ok (x := (b, false)) hb
  rw [fw_cT h1 k l1 (by rw [cT_len]; exact hb), fw_cT ok g e hb, fw_cT ok h2 l2 hb, fw_cT g k e2 (by rw [← e]; exact hb1)]
theorem back_then (ok : Ts ts) (g : Ts us) (e : ts.length = us.length) :
    pT (cT ts us) (go us gl fl) (-1) = cT (pT us gl (-1)) (pT ts fl (-1)) ∧ pF (cT ts us) (go us gl fl) (-1) = go (pT ts fl (-1)) (pF ts fl (-1)) (pF us gl (-1)) := by
  have h1 := cT_ok ok g e
  have l2 : (pT us gl (-1)).length = (pT ts fl (-1)).length := by rw [pT_len, pT_len, e]
  refine T_ext (pT_ok h1 _) (cT_ok (pT_ok g _) (pT_ok ok _) l2) (by rw [pT_len, cT_len, cT_len, pT_len, e]) (pF_lt' _) (cF_lt l2) fun b hb => ?_
  rw [pT_len, cT_len] at hb
  have hb' : b < us.length := by omega
  have hy := pw_lt (fl := gl) g (-1) (x := (b, false)) hb'
  rw [← e] at hy
  rw [fw_pT h1 _ (by rw [cT_len]; exact hb), fw_cT (pT_ok g _) (pT_ok ok _) l2 (by rw [pT_len]; exact hb'), fw_pT g _ hb', fw_pT ok _ hy, pw_back h1 (by rw [cT_len]; exact hb)]
  have hz := pw_lt (fl := fl) ok (-1) hy
  have q := fw_cT (fl := fl) (gl := gl) ok g e hz
  rw [fw_back ok hy, fw_back g hb'] at q
  have r := bw_fw (fl := go us gl fl) h1 (x := pw ts fl (-1) (pw us gl (-1) (b, false))) (by rw [cT_len]; exact hz)
  rw [q] at r
  exact r
end
/-! ### along a cycle, by its length -/
section
variable {ts : List Nat} {fl : Nat}
def nxt (ts : List Nat) (e : Nat) : Nat := ts.getD e 0
theorem it_fst : ∀ (n : Nat) (x : Nat × Bool), (it (fw ts fl) n x).1 = it (nxt ts) n x.1
  | 0, _ => rfl
  | n + 1, x => by
    show ts.getD (it (fw ts fl) n x).1 0 = nxt ts (it (nxt ts) n x.1)
    rw [it_fst n x]
    rfl
theorem nxt_lt (ok : Ts ts) : ∀ (n : Nat) {e : Nat}, e < ts.length → it (nxt ts) n e < ts.length
  | 0, _, he => he
  | n + 1, _, he => ok.getD_lt (nxt_lt ok n he)
theorem nxt_inj (ok : Ts ts) {a b : Nat} (ha : a < ts.length) (hb : b < ts.length) (h : nxt ts a = nxt ts b) : a = b := by
  have h1 := ok.getD ha
  have h2 := ok.getD hb
  unfold nxt at h
  rw [h] at h1
  exact ok.inj h1 h2
theorem per_of (ok : Ts ts) : ∀ (i d : Nat) {e : Nat}, e < ts.length → it (nxt ts) (i + d) e = it (nxt ts) i e → it (nxt ts) d e = e
  | 0, d, e, _, h => by
    rw [Nat.zero_add] at h
    exact h
  | i + 1, d, e, he, h => by
    rw [Nat.add_right_comm] at h
    exact per_of ok i d he (nxt_inj ok (nxt_lt ok _ he) (nxt_lt ok _ he) h)
theorem per_ex (ok : Ts ts) {e : Nat} (he : e < ts.length) : ∃ m, 1 ≤ m ∧ m ≤ ts.length ∧ it (nxt ts) m e = e := by
  refine Classical.byContradiction fun no => ?_
  have nd : ((List.range (ts.length + 1)).map fun i => it (nxt ts) i e).Nodup := by
    refine nodup_map_on List.nodup_range fun i hi j hj h => ?_
    have hi := List.mem_range.mp hi
    have hj := List.mem_range.mp hj
    rcases Nat.lt_trichotomy i j with q | q | q
    · refine (no ⟨j - i, by omega, by omega, per_of ok i (j - i) he ?_⟩).elim
      rw [show i + (j - i) = j by omega]
      exact h.symm
    · exact q
    · refine (no ⟨i - j, by omega, by omega, per_of ok j (i - j) he ?_⟩).elim
      rw [show j + (i - j) = i by omega]
      exact h
  have := nodup_lt_length (n := ts.length) nd fun x hx => by
    obtain ⟨i, _, rfl⟩ := List.mem_map.mp hx
    exact nxt_lt ok i he
  rw [List.length_map, List.length_range] at this
  omega
theorem round_two (ok : Ts ts) {m e : Nat} (h : it (nxt ts) m e = e) (v : Bool) : it (fw ts fl) (2 * m) (e, v) = (e, v) := by
  obtain ⟨b, hb⟩ : ∃ b, ∀ v, it (fw ts fl) m (e, v) = (e, v ^^ b) := by
    refine ⟨(it (fw ts fl) m (e, false)).2, fun v => ?_⟩
    have f := it_flip (fw ts fl) (fun e v b => by
      show (_, _) = (_, _)
      rw [show ((e, v ^^ b) : Nat × Bool).2 = (v ^^ b) from rfl, xor_swap]
      rfl) m e false v
    rw [Bool.false_xor] at f
    rw [f, it_fst, h, Bool.xor_comm]
  rw [Nat.two_mul, it_add, hb, hb, Bool.xor_assoc, Bool.xor_self, Bool.xor_false]
theorem pw_nat (n : Nat) (x : Nat × Bool) : pw ts fl (n : Int) x = it (fw ts fl) n x := by
  unfold pw
  rw [if_pos (Int.natCast_nonneg n), Int.toNat_natCast]
theorem pw_mod (ok : Ts ts) {m e : Nat} (he : e < ts.length) (hm : 1 ≤ m) (h : it (nxt ts) m e = e) (n : Int) (v : Bool) : pw ts fl n (e, v) = it (fw ts fl) (n % ((2 * m : Nat) : Int)).toNat (e, v) := by
  have per : ∀ k : Int, pw ts fl (((2 * m : Nat) : Int) * k) (e, v) = (e, v) := fun k => by
    have one : pw ts fl ((2 * m : Nat) : Int) (e, v) = (e, v) := by
      rw [pw_nat, round_two ok h]
    refine int_ind (P := fun k => pw ts fl (((2 * m : Nat) : Int) * k) (e, v) = (e, v)) ?_ ?_ ?_ k
    · rw [Int.mul_zero]
      rfl
    · intro k ih
      rw [Int.mul_add, Int.mul_one, pw_add ok _ _ he, one, ih]
    · intro k ih
      have q := pw_add (fl := fl) ok (((2 * m : Nat) : Int)) (((2 * m : Nat) : Int) * (k - 1)) (x := (e, v)) he
      rw [show ((2 * m : Nat) : Int) * (k - 1) + ((2 * m : Nat) : Int) = ((2 * m : Nat) : Int) * k by rw [Int.mul_sub, Int.mul_one]; omega, ih, one] at q
      exact q.symm
  have nn : 0 ≤ n % ((2 * m : Nat) : Int) := Int.emod_nonneg _ (by omega)
  have e1 : n = n % ((2 * m : Nat) : Int) + ((2 * m : Nat) : Int) * (n / ((2 * m : Nat) : Int)) := (Int.emod_add_mul_ediv _ _).symm
  conv => lhs; rw [e1]
  rw [pw_add ok _ _ he, per, ← pw_nat, Int.toNat_of_nonneg nn]
/-- by the bits of the place, one by one -/
theorem go_by (ok : Ts ts) (n : Int) {p m : Nat} (hm : ∀ j, m.testBit j = byFirst (pT ts fl n) (fun e _ => (pw ts fl n (e, p.testBit e)).2) ts.length j) : m = go (pT ts fl n) (pF ts fl n) p := by
  have okp := pT_ok (fl := fl) ok n
  refine Nat.eq_of_testBit_eq fun j => ?_
  have hl : (pT ts fl n).length = ts.length := pT_len n
  rw [hm j]
  have ba := byFirst_all okp (fun e _ => (pw ts fl n (e, p.testBit e)).2) j
  rw [hl] at ba
  rw [ba]
  by_cases hj : j < ts.length
  · have hi := okp.idx_lt (j := j) (by rw [hl]; exact hj)
    have hg := okp.get_idx (j := j) (by rw [hl]; exact hj)
    rw [hl] at hi
    have q := go_p (fl := fl) ok n p hi
    rw [pT_get n hi] at hg
    have f := pw_flip (ts := ts) (fl := fl) n ((pT ts fl n).idxOf j) false (p.testBit ((pT ts fl n).idxOf j))
    rw [Bool.false_xor] at f
    have e1 : (pw ts fl n ((pT ts fl n).idxOf j, p.testBit ((pT ts fl n).idxOf j))).1 = j := by
      rw [f]
      exact Option.some.inj hg
    rw [e1] at q
    rw [q, decide_eq_true hj]
    rfl
  · have l := go_lt (pT ts fl n) (pF ts fl n) p
    rw [hl] at l
    rw [decide_eq_false hj, Nat.testBit_lt_two_pow (Nat.lt_of_lt_of_le l (Nat.pow_le_pow_right (by decide) (by omega)))]
    rfl
end
theorem map_getD (l : List Nat) : (List.range l.length).map (fun b => l.getD b 0) = l := by
  refine List.ext_getElem? fun i => ?_
  by_cases h : i < l.length
  · rw [List.getElem?_map, List.getElem?_range h, getD_at h]
    rfl
  · rw [List.getElem?_eq_none (by simp; omega), List.getElem?_eq_none (by omega)]
/-- the item ahead, the last one ahead of the first -/
def ahd (n i : Nat) : Nat := if i = 0 then n - 1 else i - 1
theorem ahd_lt {n i : Nat} (h : i < n) : ahd n i < n := by
  unfold ahd
  split <;> omega
theorem turned (l : List Nat) : ((List.range l.length).map fun i => l.getD (ahd l.length i) 0).Perm l := by
  cases hl : l.length with
  | zero =>
    have : l = [] := List.length_eq_zero_iff.mp hl
    subst this
    exact .refl _
  | succ m =>
    have e : ((List.range (m + 1)).map fun i => l.getD (ahd (m + 1) i) 0) = l.drop m ++ l.take m := by
      refine List.ext_getElem? fun i => ?_
      by_cases h : i < m + 1
      · rw [List.getElem?_map, List.getElem?_range h]
        cases i with
        | zero =>
          rw [List.getElem?_append_left (by rw [List.length_drop]; omega), List.getElem?_drop, Nat.add_zero]
          exact (getD_at (l := l) (i := m) (by omega)).symm
        | succ i =>
          rw [List.getElem?_append_right (by rw [List.length_drop]; omega), List.length_drop, List.getElem?_take, if_pos (by omega), hl, show i + 1 - (m + 1 - m) = i by omega]
          exact (getD_at (l := l) (i := i) (by omega)).symm
      · rw [List.getElem?_eq_none (by simp; omega), List.getElem?_eq_none (by simp; omega)]
    rw [e]
    exact List.perm_append_comm.trans (by rw [List.take_append_drop])
/-- one more ring -/
theorem ring_more {fd fe dn sm : List Nat} (nd : (dn ++ sm).Nodup) (hd : (dn.map fun b => fd.getD b 0).Perm dn) (h1 : ∀ b, b ∉ sm → fe[b]? = fd[b]?) (h2 : ∀ i b : Nat, sm[i]? = some b → fe[b]? = some (sm.getD (ahd sm.length i) 0)) :
    ((dn ++ sm).map fun b => fe.getD b 0).Perm (dn ++ sm) := by
  rw [List.map_append]
  refine List.Perm.append ?_ ?_
  · have e : (dn.map fun b => fe.getD b 0) = dn.map fun b => fd.getD b 0 := List.map_congr_left fun b hb => by
      have nb : b ∉ sm := fun z => (List.nodup_append.mp nd).2.2 b hb b z rfl
      rw [List.getD_eq_getElem?_getD, List.getD_eq_getElem?_getD, h1 b nb]
    rw [e]
    exact hd
  · have e : (sm.map fun b => fe.getD b 0) = (List.range sm.length).map fun i => sm.getD (ahd sm.length i) 0 := by
      refine List.ext_getElem? fun i => ?_
      by_cases h : i < sm.length
      · rw [List.getElem?_map, List.getElem?_map, List.getElem?_range h, getD_at h]
        exact congrArg some (getD_of (h2 i _ (getD_at h)))
      · rw [List.getElem?_eq_none (by simp; omega), List.getElem?_eq_none (by simp; omega)]
    rw [e]
    exact turned sm
theorem erase_perm : ∀ (l : List Nat) (k x : Nat), l[k]? = some x → (x :: l.eraseIdx k).Perm l
  | [], k, x, h => by cases h
  | a :: l, 0, x, h => by
    cases h
    exact .refl _
  | a :: l, k + 1, x, h => (List.Perm.swap a x (l.eraseIdx k)).trans ((M.erase_perm l k x h).cons a)
end M
namespace G
open PySem PySem.Spec PyProof.Rows L2 M
abbrev sp_check_bits (K : PySem.W.Frag) : Sp := sp1 fun b H Q => ∃ n : Nat, b = .int (n : Int) ∧ 1 ≤ n ∧ n ≤ 100 ∧ Q .non H
abbrev sp_check_number (K : PySem.W.Frag) : Sp := sp1 fun b H Q => ∃ n : Int, b = .int n ∧ Q .non H
/-- a turn at a value -/
def IsT (C : Addr) (H : Hp) (v : V) (ts : List Nat) (fl : Nat) : Prop := ∃ x l : Addr, v = .ref x ∧ TurnAt C H x l ts fl
theorem IsT.ext {C : Addr} {H H' : Hp} {v : V} {ts : List Nat} {fl : Nat} (h : IsT C H v ts fl) (e : Ext H H') : IsT C H' v ts fl := by
  obtain ⟨x, l, rfl, t⟩ := h
  exact ⟨x, l, rfl, t.ext e⟩
/-- a new turn -/
def NewT (C : Addr) (H : Hp) (Q : VK) (ts : List Nat) (fl : Nat) : Prop := ∀ (x l : Addr) (H' : Hp), Ext H H' → H x = none → H l = none → TurnAt C H' x l ts fl → Q (.ref x) H'
abbrev sp_check_turn (K : PySem.W.Frag) (C : Addr) : Sp := sp1 fun a H Q => ∃ ts fl, IsT C H a ts fl ∧ Q .non H
abbrev sp_check_alike (K : PySem.W.Frag) (C : Addr) : Sp := sp2 fun a b H Q => ∃ ts fl us gl, IsT C H a ts fl ∧ IsT C H b us gl ∧ ts.length = us.length ∧ Q .non H
abbrev sp_identity (K : PySem.W.Frag) (C : Addr) : Sp := sp1 fun b H Q => ∃ n : Nat, b = .int (n : Int) ∧ 1 ≤ n ∧ n ≤ 100 ∧ NewT C H Q (List.range n) 0
abbrev sp_then (K : PySem.W.Frag) (C : Addr) : Sp := sp2 fun a b H Q => ∃ ts fl us gl, IsT C H a ts fl ∧ IsT C H b us gl ∧ ts.length = us.length ∧ NewT C H Q (cT ts us) (go us gl fl)
abbrev sp_power (K : PySem.W.Frag) (C : Addr) : Sp := sp2 fun a b H Q => ∃ ts fl n, IsT C H a ts fl ∧ b = .int n ∧ NewT C H Q (pT ts fl n) (pF ts fl n)
abbrev sp_inverse (K : PySem.W.Frag) (C : Addr) : Sp := sp1 fun a H Q => ∃ ts fl, IsT C H a ts fl ∧ NewT C H Q (pT ts fl (-1)) (pF ts fl (-1))
/-- a list at p of new objects, each as obj says -/
def Refs {α : Type} (B : Hp) (obj : α → HO) (H : Hp) (p : Addr) (ws : List α) : Prop := ∃ as : List Addr, H p = some (.lst (as.map V.ref)) ∧ as.length = ws.length ∧ ∀ (i : Nat) (x : α), ws[i]? = some x → ∃ a : Addr, as[i]? = some a ∧ a ≠ p ∧ H a = some (obj x) ∧ B a = none
section
variable {α : Type} {B : Hp} {obj : α → HO} {H H' : Hp} {p : Addr} {ws : List α}
theorem Refs.nil (h : H p = some (.lst [])) : Refs B obj H p [] := ⟨[], h, rfl, fun i x e => by cases e⟩
theorem Refs.ext (r : Refs B obj H p ws) (e : Ext H H') : Refs B obj H' p ws := by
  obtain ⟨as, h, l, g⟩ := r
  refine ⟨as, e _ _ h, l, fun i x q => ?_⟩
  obtain ⟨a, h1, h2, h3, h4⟩ := g i x q
  exact ⟨a, h1, h2, e _ _ h3, h4⟩
theorem Refs.len (r : Refs B obj H p ws) : ∃ xs, H p = some (.lst xs) ∧ xs.length = ws.length := by
  obtain ⟨as, h, l, g⟩ := r
  exact ⟨_, h, by rw [List.length_map, l]⟩
theorem Refs.at {i : Nat} {x : α} (r : Refs B obj H p ws) (e : ws[i]? = some x) : ∃ xs a, H p = some (.lst xs) ∧ xs.length = ws.length ∧ xs[i]? = some (.ref a) ∧ H a = some (obj x) ∧ B a = none := by
  obtain ⟨as, h, l, g⟩ := r
  obtain ⟨a, h1, h2, h3, h4⟩ := g i x e
  exact ⟨_, a, h, by rw [List.length_map, l], by rw [List.getElem?_map, h1]; rfl, h3, h4⟩
/-- one more -/
theorem Refs.push {a : Addr} {x : α} {xs : List V} (r : Refs B obj H p ws) (hp : H p = some (.lst xs)) (ha : a ≠ p) (hx : H a = some (obj x)) (hB : B a = none) : Refs B obj (upd H p (.lst (xs ++ [.ref a]))) p (ws ++ [x]) := by
  obtain ⟨as, h, l, g⟩ := r
  rw [h] at hp
  cases hp
  refine ⟨as ++ [a], by rw [upd_same, List.map_append]; rfl, by rw [List.length_append, List.length_append, l]; rfl, fun i y q => ?_⟩
  by_cases hi : i < ws.length
  · rw [List.getElem?_append_left hi] at q
    obtain ⟨b, h1, h2, h3, h4⟩ := g i y q
    exact ⟨b, by rw [List.getElem?_append_left (by omega)]; exact h1, h2, by rw [upd_ne h2]; exact h3, h4⟩
  · rw [List.getElem?_append_right (by omega)] at q
    have e0 : i - ws.length = 0 := by
      have := (List.getElem?_eq_some_iff.mp q).1
      simp at this
      omega
    rw [e0] at q
    cases q
    exact ⟨a, by rw [List.getElem?_append_right (by omega), l, e0]; rfl, ha, by rw [upd_ne ha]; exact hx, hB⟩
end
theorem nv_take {ts : List Nat} {i t : Nat} (f : Nat → Nat) (h : ts[i]? = some t) : nv ((ts.take i).map f) ++ [.int (f t : Int)] = nv ((ts.take (i + 1)).map f) := by
  rw [List.take_succ, h, List.map_append, nv_append]
  rfl
/-- a list that grows by one, along another -/
theorem grownT {H H' H2 : Hp} {p : Addr} {ts : List Nat} {f : Nat → Nat} {i t : Nat} (ht : ts[i]? = some t) (e : Ext H H') (e2 : Ext H' H2) (hp : H p = none) (h : H' p = some (.lst (nv ((ts.take i).map f)))) (hi : i < 16000000) :
    ∃ acc, H2 p = some (.lst acc) ∧ acc.length < sizeLine ∧ (Ext H (upd H2 p (.lst (acc ++ [.int (f t : Int)]))) ∧ upd H2 p (.lst (acc ++ [.int (f t : Int)])) p = some (.lst (nv ((ts.take (i + 1)).map f)))) := by
  have hs : sizeLine = 16777216 := by decide
  refine ⟨_, e2 _ _ h, ?_, (e.trans e2).mut hp, ?_⟩
  · rw [nv_len, List.length_map, List.length_take]
    omega
  · rw [upd_same, nv_take f ht]
theorem isi_turn {K : PySem.W.Frag} {mg : Str → Option Value} {C : Addr} {H : Hp} {Q : VK} {x l : Addr} {ts : List Nat} {fl : Nat} (T : TurnText K mg C) (t : TurnAt C H x l ts fl) (q : Q (.bl true) H) : rIsi K [.ref x, .ref C] H Q := ⟨_, .ref C, .ref C, .ref C, true, rfl, .own C, T.ty t, T.isT, q⟩
theorem vis_take {fl : Nat} {c : List Nat} {i b : Nat} {v : Bool} (h : c[i]? = some b) : vis fl (c.take (i + 1)) v = vis fl (c.take i) v ++ [(b, xs fl (c.take i) v ^^ fl.testBit b)] := by
  rw [List.take_succ, h, vis_append]
  rfl
theorem xs_take {fl : Nat} {c : List Nat} {i b : Nat} {v : Bool} (h : c[i]? = some b) : xs fl (c.take (i + 1)) v = (xs fl (c.take i) v ^^ fl.testBit b) := by
  rw [List.take_succ, h, xs_append]
  rfl
theorem xor_bits (a b : Bool) : Builtin.bitXor ((a.toNat : Nat) : Int) ((b.toNat : Nat) : Int) = (((a ^^ b).toNat : Nat) : Int) := by
  rw [bitXor_nat]
  cases a <;> cases b <;> rfl
theorem g_prop {P : V → Hp → VK → Prop} {ta : TE} {σ : L2.St} {H : Hp} {Q : VK} (h : ta σ H fun x H1 => P x H1 Q) : tProp1 P ta σ H Q := h
/-- bools as values -/
def bv (l : List Bool) : List V := l.map V.bl
theorem bv_len (l : List Bool) : (bv l).length = l.length := List.length_map _
theorem bv_rep (n : Nat) (b : Bool) : (List.replicate n [V.bl b]).flatten = bv (List.replicate n b) := by
  induction n with
  | zero => rfl
  | succ n ih =>
    rw [List.replicate_succ, List.flatten_cons, ih]
    rfl
theorem bv_at {l : List Bool} {i : Nat} {b : Bool} (h : l[i]? = some b) : atI (bv l) (i : Int) = some (.bl b) := by
  refine atI_nat ?_
  unfold bv
  rw [List.getElem?_map, h]
  rfl
theorem bv_set (l : List Bool) (i : Nat) (b : Bool) : (bv l).set i (.bl b) = bv (l.set i b) := by
  unfold bv
  rw [List.map_set]
theorem nv_rep (n k : Nat) : (List.replicate n [V.int (k : Int)]).flatten = nv (List.replicate n k) := by
  induction n with
  | zero => rfl
  | succ n ih =>
    rw [List.replicate_succ, List.flatten_cons, ih]
    rfl
theorem g_while {D : Ends} {σ : L2.St} {H : Hp} {c : TT} {tb : TS} (W : Nat → L2.St → Hp → Prop) (m : Nat) (h0 : W m σ H)
    (h : ∀ m σ H, W m σ H → c σ H fun b H1 => if b = true then ∃ N : L2.St → Hp → Prop, (∀ σ' H', N σ' H' → ∃ m', m' < m ∧ W m' σ' H') ∧ tb { D with nx := N, ct := N, bk := D.nx } σ H1 else D.nx σ H1) : tWhile c tb D σ H := ⟨W, ⟨m, h0⟩, h⟩
theorem g_truL {K : PySem.W.Frag} {σ : L2.St} {H : Hp} {n : Nat} {a : Addr} {xs : List V} {Q : Bool → Hp → Prop} (hx : SqL K H a xs) (q : Q (!xs.isEmpty) H) (e : σ[n]? = some (some (.ref a)) := by rfl) : (fun σ H Q => (tVar n) σ H fun x H' => ∃ k, TruV K x H' k ∧ Q k H') σ H Q := ⟨_, e, _, .inl ⟨xs, hx, rfl⟩, q⟩
def oC (c : List Nat) : HO := .lst (nv c)
def oV (x : Nat × Bool) : HO := .tup [.int (x.1 : Int), .int ((x.2.toNat : Nat) : Int)]
theorem oC_ne {c : List Nat} {vs : List Bool} (h : 1 ≤ c.length) : ¬ oC c = .lst (bv vs) := by
  cases c with
  | nil => simp at h
  | cons a c =>
    intro z
    have z' : nv (a :: c) = bv vs := HO.lst.inj z
    cases vs with
    | nil => cases z'
    | cons b vs => cases z'
theorem Refs.stp {α : Type} {B : Hp} {obj : α → HO} {H H' : Hp} {p r : Addr} {ws : List α} {o : HO} (h : Refs B obj H p ws) (e : Stp r H H') (hp : p ≠ r) (hr : H r = some o) (hw : ∀ x ∈ ws, ¬ obj x = o) : Refs B obj H' p ws := by
  obtain ⟨as, h, l, g⟩ := h
  refine ⟨as, e _ _ h hp, l, fun i x q => ?_⟩
  obtain ⟨a, h1, h2, h3, h4⟩ := g i x q
  refine ⟨a, h1, h2, e _ _ h3 fun z => ?_, h4⟩
  rw [z, hr] at h3
  exact hw x (List.mem_of_getElem? q) (Option.some.inj h3).symm
/-- what stood ahead of all of them changes -/
theorem Refs.stpB {α : Type} {B : Hp} {obj : α → HO} {H H' : Hp} {p r : Addr} {ws : List α} {o : HO} (h : Refs B obj H p ws) (e : Stp r H H') (hp : p ≠ r) (hr : B r = some o) : Refs B obj H' p ws := by
  obtain ⟨as, h, l, g⟩ := h
  refine ⟨as, e _ _ h hp, l, fun i x q => ?_⟩
  obtain ⟨a, h1, h2, h3, h4⟩ := g i x q
  refine ⟨a, h1, h2, e _ _ h3 fun z => ?_, h4⟩
  rw [z, hr] at h4
  cases h4
abbrev sp_split_into_cycles (K : PySem.W.Frag) : Sp := sp1 fun a H Q => ∃ l ts, a = .ref l ∧ H l = some (.lst (nv ts)) ∧ Ts ts ∧ ∀ p cs H', Ext H H' → H p = none → Refs H oC H' p cs → (∀ c ∈ cs, Cyc ts c ∧ c.length ≤ ts.length) → (∀ e, e < ts.length → ∃ c ∈ cs, e ∈ c) → cs.length ≤ ts.length → cs.flatten.Perm (List.range ts.length) → Q (.ref p) H'
abbrev sp_visits_of_two_rounds (K : PySem.W.Frag) : Sp := sp2 fun a b H Q => ∃ l c fl, a = .ref l ∧ b = .int ((fl : Nat) : Int) ∧ H l = some (.lst (nv c)) ∧ c.length ≤ 1000 ∧ ∀ p H', Ext H H' → H p = none → Refs H oV H' p (vis fl (c ++ c) false) → Q (.ref p) H'
abbrev sp_law_places (K : PySem.W.Frag) (C : Addr) : Sp := sp1 fun a H Q => ∃ ts fl, IsT C H a ts fl ∧ ts.length ≤ 16 ∧ ∀ p H', Ext H H' → H p = none → H' p = some (.lst (nv (plc ts fl))) → Q (.ref p) H'
abbrev sp_law_stepped (K : PySem.W.Frag) : Sp := sp2 fun a b H Q => ∃ (l : Addr) (ln : List Nat) (n : Int), a = .ref l ∧ b = .int n ∧ H l = some (.lst (nv ln)) ∧ ln.Perm (List.range ln.length) ∧ ln.length ≤ 65536 ∧ n.natAbs ≤ 65536 ∧
  ∀ p H', Ext H H' → H p = none → H' p = some (.lst (nv (stp ln n))) → Q (.ref p) H'
open PyData in
/-- [targets, flips, targets, flips] -/
def d4 (l : List Nat) (a : Nat) (m : List Nat) (b : Nat) : PyData := .list [.list (nd l), .int (a : Int), .list (nd m), .int (b : Int)]
open PyData in
theorem eqv_int (a : Int) : eqv (.int a) (.int a) = true := by
  unfold eqv
  simp
open PyData in
theorem d4_eq (l : List Nat) (a : Nat) (m : List Nat) (b : Nat) : eqv (d4 l a m b) (d4 l a m b) = true := by
  have e : eqv (d4 l a m b) (d4 l a m b) = (eqv (.list (nd l)) (.list (nd l)) && (eqv (.int (a : Int)) (.int (a : Int)) && (eqv (.list (nd m)) (.list (nd m)) && (eqv (.int (b : Int)) (.int (b : Int)) && true)))) := by
    unfold d4
    simp only [eqv, eqvAll]
  rw [e, nd_eq, nd_eq, eqv_int, eqv_int]
  simp
open PyData in
theorem d4_shaped (l : List Nat) (a : Nat) (m : List Nat) (b : Nat) : SeqAt.shaped (d4 l a m b) = true := by
  unfold SeqAt.shaped d4
  simp only [canLay0, canLayAll0, depth, depthAll, nd_canLay, nd_depth]
  rfl
theorem dp_d4 {K : PySem.W.Frag} {H : Hp} {p l m : Addr} {ts us : List Nat} {a b : Nat} (hp : H p = some (.lst [.ref l, .int (a : Int), .ref m, .int (b : Int)])) (hl : H l = some (.lst (nv ts))) (hm : H m = some (.lst (nv us))) : Dp K H (.ref p) (d4 ts a us b) :=
  .lst (SqL.of hp) (.cons (dp_nv hl) (.cons (.int _) (.cons (dp_nv hm) (.cons (.int _) .nil))))
abbrev sp_law_far (K : PySem.W.Frag) : Sp := sp4 fun a b c d H Q => ∃ (l : Addr) (ts : List Nat) (fl p : Nat) (n : Int), a = .ref l ∧ b = .int (fl : Int) ∧ c = .int (p : Int) ∧ d = .int n ∧ H l = some (.lst (nv ts)) ∧ Ts ts ∧ fl < 2 ^ ts.length ∧ ∀ H', Ext H H' → Q (.int (go (pT ts fl n) (pF ts fl n) p : Int)) H'
abbrev sp_law_ringed (K : PySem.W.Frag) : Sp := sp2 fun a b H Q => ∃ (r : Addr) (bits n : Nat), a = .ref r ∧ b = .int (bits : Int) ∧ Reel H r n ∧ n < 2 ^ 39 ∧ 1 ≤ bits ∧ bits ≤ 100 ∧
  ∀ (l : Addr) (ts : List Nat) (H' : Hp), Stp r H H' → Reel H' r (n + 300) → H l = none → H' l = some (.lst (nv ts)) → ts.Perm (List.range bits) → Q (.ref l) H'
abbrev sp_law_number (K : PySem.W.Frag) : Sp := sp1 fun a H Q => ∃ (r : Addr) (n : Nat), a = .ref r ∧ Reel H r n ∧ n < 2 ^ 39 ∧ ∀ (i : Int) (H' : Hp), Stp r H H' → Reel H' r (n + 10) → Q (.int i) H'
theorem g_unl {K : PySem.W.Frag} {a : Addr} {n : Nat} {xs : List V} {gs : TGs} {σ : L2.St} {H : Hp} {QS : L2.St → Hp → Prop} (hs : SqL K H a xs) (hl : xs.length = n) (h : gs xs σ H QS) : gUnl K n gs (.ref a) σ H QS := ⟨a, xs, rfl, hs, hl, h⟩
set_option exponentiation.threshold 2000 in
theorem n49_lt : 10 ^ 49 < 2 ^ 1000 := by decide +kernel
set_option exponentiation.threshold 2000 in
theorem n94_lt : 10 ^ 94 < 2 ^ 1000 := by decide +kernel
set_option exponentiation.threshold 2000 in
theorem n40_lt : 10 ^ 40 < 2 ^ 1000 := by decide +kernel
theorem n49_eq : (10 : Int) ^ (49 : Int).toNat = ((10 ^ 49 : Nat) : Int) := by decide +kernel
theorem n94_eq : (10 : Int) ^ (30 : Int).toNat * (10 : Int) ^ (64 : Int).toNat = ((10 ^ 94 : Nat) : Int) := by decide +kernel
theorem n40_eq : (10 : Int) ^ (40 : Int).toNat = ((10 ^ 40 : Nat) : Int) := by decide +kernel
theorem n3064 : CMulX ((10 : Int) ^ (30 : Int).toNat) ((10 : Int) ^ (64 : Int).toNat) := mulx_ok (a := 200) (b := 250) (by decide +kernel) (by decide +kernel) (by decide)
theorem len4 {P : V → Prop} {a b c d : V} (ha : P a) (hb : P b) (hc : P c) (hd : P d) {i : Nat} (h : i < 4) : ∃ x, [a, b, c, d][i]? = some x ∧ P x := by
  match i, h with
  | 0, _ => exact ⟨a, rfl, ha⟩
  | 1, _ => exact ⟨b, rfl, hb⟩
  | 2, _ => exact ⟨c, rfl, hc⟩
  | 3, _ => exact ⟨d, rfl, hd⟩
theorem nv_erase : ∀ (l : List Nat) (k : Nat), (nv l).eraseIdx k = nv (l.eraseIdx k)
  | [], k => rfl
  | a :: l, 0 => rfl
  | a :: l, k + 1 => congrArg (List.cons (V.int (a : Int))) (nv_erase l k)
theorem atI_ahd {l : List Nat} {i : Nat} (h : i < l.length) : atI (nv l) ((i : Int) - 1) = some (.int ((l.getD (ahd l.length i) 0 : Nat) : Int)) := by
  have e := nv_at (M.getD_at (ahd_lt h))
  unfold atI ixN
  rw [nv_len]
  unfold ahd at e ⊢
  by_cases h0 : i = 0
  · subst h0
    rw [if_pos rfl] at e
    rw [if_neg (by omega), if_pos (by omega)]
    rw [show (((0 : Nat) : Int) - 1 + (l.length : Int)).toNat = l.length - 1 by omega]
    exact e
  · rw [if_neg h0] at e
    rw [if_pos (by omega), if_pos (by omega)]
    rw [show ((i : Int) - 1).toNat = i - 1 by omega]
    rw [if_neg h0]
    exact e
theorem seq_nat {k n : Nat} (h : k < n) : seqIndex? (k : Int) n = some k := by
  have h0 : ¬ ((k : Int) < 0) := by omega
  simp only [seqIndex?, if_neg h0]
  rw [if_pos (by simp; omega), Int.toNat_natCast]
theorem g_par3 {D : Ends} {σ : L2.St} {H : Hp} {a b c : Nat} {tl : TA} (h : tl σ H fun vs H1 => ∃ u v w, vs = [u, v, w] ∧ D.nx (((σ.set a (some u)).set b (some v)).set c (some w)) H1) : tPar3 a b c tl D σ H := h
theorem len3 {P : V → Prop} {a b c : V} (ha : P a) (hb : P b) (hc : P c) {i : Nat} {x : V} (h : [a, b, c][i]? = some x) : P x := by
  match i, h with
  | 0, h => cases h; exact ha
  | 1, h => cases h; exact hb
  | 2, h => cases h; exact hc
  | _ + 3, h => cases h
end G

/-! Made turns: their promises. -/
namespace M
def rv (n : Nat) : List Nat := (List.range n).map fun b => n - 1 - b
def tr (n k : Nat) : List Nat := (List.range n).map fun b => (b + k) % n
def bs (ts us : List Nat) : List Nat := ts ++ us.map fun t => ts.length + t
theorem rv_len (n : Nat) : (rv n).length = n := by
  unfold rv
  rw [List.length_map, List.length_range]
theorem tr_len (n k : Nat) : (tr n k).length = n := by
  unfold tr
  rw [List.length_map, List.length_range]
theorem bs_len (ts us : List Nat) : (bs ts us).length = ts.length + us.length := by
  unfold bs
  rw [List.length_append, List.length_map]
theorem rv_ok {n : Nat} (h1 : 1 ≤ n) (h2 : n ≤ 100) : Ts (rv n) := by
  refine ⟨by rw [rv_len]; exact h1, by rw [rv_len]; exact h2, fun t ht => ?_, ?_⟩
  · obtain ⟨b, hb, rfl⟩ := List.mem_map.mp ht
    rw [rv_len]
    have := List.mem_range.mp hb
    omega
  · refine nodup_map_on List.nodup_range fun a ha b hb e => ?_
    have := List.mem_range.mp ha
    have := List.mem_range.mp hb
    omega
theorem mod_inj {n k a b : Nat} (ha : a < n) (hb : b < n) (e : (a + k) % n = (b + k) % n) : a = b := by
  have h1 := Nat.mod_add_div (a + k) n
  have h2 := Nat.mod_add_div (b + k) n
  rw [e] at h1
  rcases Nat.lt_trichotomy ((a + k) / n) ((b + k) / n) with h | h | h
  · have : n * ((a + k) / n + 1) ≤ n * ((b + k) / n) := Nat.mul_le_mul_left n h
    rw [Nat.mul_add, Nat.mul_one] at this
    omega
  · rw [h] at h1
    omega
  · have : n * ((b + k) / n + 1) ≤ n * ((a + k) / n) := Nat.mul_le_mul_left n h
    rw [Nat.mul_add, Nat.mul_one] at this
    omega
theorem tr_ok {n : Nat} (k : Nat) (h1 : 1 ≤ n) (h2 : n ≤ 100) : Ts (tr n k) := by
  refine ⟨by rw [tr_len]; exact h1, by rw [tr_len]; exact h2, fun t ht => ?_, ?_⟩
  · obtain ⟨b, hb, rfl⟩ := List.mem_map.mp ht
    rw [tr_len]
    exact Nat.mod_lt _ h1
  · exact nodup_map_on List.nodup_range fun a ha b hb e => mod_inj (List.mem_range.mp ha) (List.mem_range.mp hb) e
theorem bs_ok {ts us : List Nat} (ok : Ts ts) (g : Ts us) (h : ts.length + us.length ≤ 100) : Ts (bs ts us) := by
  have h1 := ok.one
  refine ⟨by rw [bs_len]; omega, by rw [bs_len]; exact h, fun t ht => ?_, ?_⟩
  · rw [bs_len]
    rcases List.mem_append.mp ht with q | q
    · have := ok.lt t q
      omega
    · obtain ⟨b, hb, rfl⟩ := List.mem_map.mp q
      have := g.lt b hb
      omega
  · refine List.nodup_append.mpr ⟨ok.nd, nodup_map_on g.nd fun a _ b _ e => (by omega), ?_⟩
    rintro a ha b hb rfl
    obtain ⟨c, hc, e⟩ := List.mem_map.mp hb
    have := ok.lt a ha
    omega
theorem bs_fl {fl gl n m : Nat} (hf : fl < 2 ^ n) (hg : gl < 2 ^ m) : fl ||| gl * 2 ^ n < 2 ^ (n + m) := by
  refine Nat.or_lt_two_pow (Nat.lt_of_lt_of_le hf (Nat.pow_le_pow_right (by decide) (by omega))) ?_
  rw [Nat.pow_add, Nat.mul_comm]
  exact Nat.mul_lt_mul_of_pos_left hg (Nat.two_pow_pos n)
/-! ### their ways of bits -/
section
variable {n k b : Nat} {v : Bool}
theorem rv_get (h : b < n) : (rv n)[b]? = some (n - 1 - b) := by
  unfold rv
  rw [List.getElem?_map, List.getElem?_range h]
  rfl
theorem tr_get (h : b < n) : (tr n k)[b]? = some ((b + k) % n) := by
  unfold tr
  rw [List.getElem?_map, List.getElem?_range h]
  rfl
theorem rv_rev (n : Nat) : rv n = (List.range n).reverse := by
  refine List.ext_getElem? fun b => ?_
  by_cases h : b < n
  · rw [rv_get h, List.getElem?_reverse (by rw [List.length_range]; exact h), List.length_range, List.getElem?_range (by omega)]
  · rw [List.getElem?_eq_none (by rw [rv_len]; omega), List.getElem?_eq_none (by simp; omega)]
theorem fw_rv (h : b < n) : fw (rv n) 0 (b, v) = (n - 1 - b, v) := by
  unfold fw
  simp only [getD_of (rv_get h), Nat.zero_testBit, Bool.xor_false]
theorem fw_tr (h : b < n) : fw (tr n k) 0 (b, v) = ((b + k) % n, v) := by
  unfold fw
  simp only [getD_of (tr_get (k := k) h), Nat.zero_testBit, Bool.xor_false]
theorem full_bit (h : b < n) : (2 ^ n - 1).testBit b = true := by
  rw [Nat.testBit_two_pow_sub_one]
  exact decide_eq_true h
theorem fw_bk (h : b < n) : fw (List.range n) (2 ^ n - 1) (b, v) = (b, !v) := by
  unfold fw
  simp only [getD_of (List.getElem?_range h), full_bit h, Bool.xor_true]
theorem full_lt (n : Nat) : 2 ^ n - 1 < 2 ^ n := by
  have := Nat.two_pow_pos n
  omega
theorem rv_rv (h1 : 1 ≤ n) (h2 : n ≤ 100) : cT (rv n) (rv n) = List.range n ∧ go (rv n) 0 0 = 0 := by
  have ok := rv_ok h1 h2
  refine T_ext (cT_ok ok ok rfl) (ts_range h1 h2) (by rw [cT_len, rv_len, List.length_range]) (cF_lt rfl) (Nat.two_pow_pos _) fun b hb => ?_
  rw [cT_len, rv_len] at hb
  rw [fw_cT ok ok rfl (by rw [rv_len]; exact hb), fw_rv hb, fw_rv (by omega), fw_range hb, show n - 1 - (n - 1 - b) = b by omega]
theorem bk_bk (h1 : 1 ≤ n) (h2 : n ≤ 100) : cT (List.range n) (List.range n) = List.range n ∧ go (List.range n) (2 ^ n - 1) (2 ^ n - 1) = 0 := by
  have ok := ts_range h1 h2
  refine T_ext (cT_ok ok ok rfl) ok (by rw [cT_len]) (cF_lt rfl) (Nat.two_pow_pos _) fun b hb => ?_
  rw [cT_len, List.length_range] at hb
  rw [fw_cT ok ok rfl (by rw [List.length_range]; exact hb), fw_bk hb, fw_bk hb, fw_range hb]
  rfl
theorem go_bk (h1 : 1 ≤ n) (h2 : n ≤ 100) {p : Nat} (hp : p < 2 ^ n) : go (List.range n) (2 ^ n - 1) p = 2 ^ n - 1 - p := by
  have l := go_lt (List.range n) (2 ^ n - 1) p
  rw [List.length_range] at l
  refine bits_ext l (by omega) fun t ht => ?_
  rw [go_bit (ts_range h1 h2) _ _ (List.getElem?_range ht), full_bit ht, show 2 ^ n - 1 - p = 2 ^ n - (p + 1) by omega, Nat.testBit_two_pow_sub_succ hp, decide_eq_true ht]
  cases p.testBit t <;> rfl
theorem pw_tr (h1 : 1 ≤ n) (h2 : n ≤ 100) (k : Nat) (h : b < n) : ∀ j : Nat, pw (tr n k) 0 (j : Int) (b, v) = ((b + k * j) % n, v)
  | 0 => by
    show (b, v) = _
    rw [Nat.mul_zero, Nat.add_zero, Nat.mod_eq_of_lt h]
  | j + 1 => by
    have ok := tr_ok k h1 h2
    have e : ((j + 1 : Nat) : Int) = (j : Int) + 1 := by omega
    have hj : (b + k * j) % n < n := Nat.mod_lt _ h1
    rw [e, pw_succ ok _ (by rw [tr_len]; exact h), pw_tr h1 h2 k h j, fw_tr hj, Nat.mod_add_mod, Nat.mul_succ, Nat.add_assoc]
theorem tr_pow (h1 : 1 ≤ n) (h2 : n ≤ 100) (k j : Nat) : pT (tr n k) 0 (j : Int) = tr n (k * j) ∧ pF (tr n k) 0 (j : Int) = 0 := by
  have ok := tr_ok k h1 h2
  refine T_ext (pT_ok ok _) (tr_ok _ h1 h2) (by rw [pT_len, tr_len, tr_len]) (pF_lt' _) (Nat.two_pow_pos _) fun b hb => ?_
  rw [pT_len, tr_len] at hb
  rw [fw_pT ok _ (by rw [tr_len]; exact hb), pw_tr h1 h2 k hb j, fw_tr hb]
theorem tr_full (h1 : 1 ≤ n) (h2 : n ≤ 100) (j : Nat) : tr n (n * j) = List.range n := by
  unfold tr
  refine Eq.trans (List.map_congr_left fun b hb => ?_) (List.map_id' _)
  rw [Nat.add_mul_mod_self_left]
  exact Nat.mod_eq_of_lt (List.mem_range.mp hb)
/-- an item of the lower half goes to twice its place -/
theorem go_shuffled (h1 : 1 ≤ n) (h2 : n ≤ 100) {p : Nat} (hp : p < 2 ^ n) : go (tr n 1) 0 p = if p < 2 ^ (n - 1) then 2 * p else 2 * (p - 2 ^ (n - 1)) + 1 := by
  have l := go_lt (tr n 1) 0 p
  rw [tr_len] at l
  have e2 : 2 ^ n = 2 * 2 ^ (n - 1) := by
    rw [← Nat.pow_succ']
    congr 1
    omega
  have ok := tr_ok 1 h1 h2
  refine bits_ext l (by split <;> omega) fun t ht => ?_
  cases t with
  | zero =>
    have g := tr_get (n := n) (k := 1) (b := n - 1) (by omega)
    rw [show (n - 1 + 1) % n = 0 by rw [show n - 1 + 1 = n by omega]; exact Nat.mod_self n] at g
    rw [go_bit ok 0 p g, Nat.zero_testBit, Bool.xor_false]
    have tb : p.testBit (n - 1) = decide (2 ^ (n - 1) ≤ p) := by
      rw [Nat.testBit_eq_decide_div_mod_eq]
      by_cases h : p < 2 ^ (n - 1)
      · rw [Nat.div_eq_of_lt h]
        simp
        omega
      · have : p / 2 ^ (n - 1) = 1 := by
          have a := Nat.div_lt_of_lt_mul (show p < 2 ^ (n - 1) * 2 by omega)
          have c := (Nat.le_div_iff_mul_le (Nat.two_pow_pos (n - 1)) (x := 1) (y := p)).mpr (by omega)
          omega
        rw [this]
        simp
        omega
    rw [tb]
    split
    · rename_i h
      rw [decide_eq_false (by omega), Nat.testBit_zero]
      simp
    · rename_i h
      rw [decide_eq_true (by omega), Nat.testBit_zero]
      simp
  | succ t =>
    have g := tr_get (n := n) (k := 1) (b := t) (by omega)
    rw [Nat.mod_eq_of_lt ht] at g
    rw [go_bit ok 0 p g, Nat.zero_testBit, Bool.xor_false]
    split
    · rw [Nat.testBit_succ]
      congr 1
      omega
    · rename_i h
      rw [Nat.testBit_succ, show (2 * (p - 2 ^ (n - 1)) + 1) / 2 = p - 2 ^ (n - 1) by omega]
      have q : p = 2 ^ (n - 1) + (p - 2 ^ (n - 1)) := by omega
      conv => lhs; rw [q]
      rw [Nat.testBit_two_pow_add_gt (by omega)]
end
/-! ### two turns beside one another -/
section
variable {ts us : List Nat} {fl gl b : Nat} {v : Bool}
def bf (ts : List Nat) (fl gl : Nat) : Nat := fl ||| gl * 2 ^ ts.length
theorem bs_lo (h : b < ts.length) : (bs ts us)[b]? = ts[b]? := by
  unfold bs
  rw [List.getElem?_append_left h]
theorem bs_hi (c : Nat) : (bs ts us)[ts.length + c]? = us[c]?.map fun t => ts.length + t := by
  unfold bs
  rw [List.getElem?_append_right (by omega), Nat.add_sub_cancel_left, List.getElem?_map]
theorem bf_lo {t : Nat} (h : t < ts.length) : (bf ts fl gl).testBit t = fl.testBit t := by
  unfold bf
  rw [Nat.testBit_or, Nat.mul_comm, Nat.testBit_two_pow_mul]
  have : ¬ t ≥ ts.length := by omega
  simp [this]
theorem bf_hi {t : Nat} (hf : fl < 2 ^ ts.length) : (bf ts fl gl).testBit (ts.length + t) = gl.testBit t := by
  unfold bf
  rw [Nat.testBit_or, Nat.mul_comm, Nat.testBit_two_pow_mul, Nat.testBit_lt_two_pow (Nat.lt_of_lt_of_le hf (Nat.pow_le_pow_right (by decide) (by omega)))]
  simp
theorem fw_lo (ok : Ts ts) (h : b < ts.length) : fw (bs ts us) (bf ts fl gl) (b, v) = fw ts fl (b, v) := by
  have g := ok.getD h
  have e : (bs ts us).getD b 0 = ts.getD b 0 := by
    rw [getD_of (l := bs ts us) (t := ts.getD b 0) (by rw [bs_lo h]; exact g)]
  unfold fw
  simp only [e, bf_lo (ok.getD_lt h)]
theorem fw_hi (g : Ts us) (hf : fl < 2 ^ ts.length) {c : Nat} (h : c < us.length) : fw (bs ts us) (bf ts fl gl) (ts.length + c, v) = (ts.length + (fw us gl (c, v)).1, (fw us gl (c, v)).2) := by
  have e : (bs ts us).getD (ts.length + c) 0 = ts.length + us.getD c 0 := getD_of (by rw [bs_hi, g.getD h]; rfl)
  unfold fw
  simp only [e, bf_hi hf]
theorem bf_lt (hf : fl < 2 ^ ts.length) (hg : gl < 2 ^ us.length) : bf ts fl gl < 2 ^ (bs ts us).length := by
  rw [bs_len]
  exact bs_fl hf hg
theorem bs_id {n m : Nat} (h1 : 1 ≤ n) (h2 : 1 ≤ m) (h : n + m ≤ 100) : bs (List.range n) (List.range m) = List.range (n + m) ∧ bf (List.range n) 0 0 = 0 := by
  have o1 := ts_range h1 (show n ≤ 100 by omega)
  have o2 := ts_range h2 (show m ≤ 100 by omega)
  refine T_ext (bs_ok o1 o2 (by rw [List.length_range, List.length_range]; exact h)) (ts_range (by omega) h) (by rw [bs_len, List.length_range, List.length_range, List.length_range]) (bf_lt (Nat.two_pow_pos _) (Nat.two_pow_pos _)) (Nat.two_pow_pos _) fun b hb => ?_
  rw [bs_len, List.length_range, List.length_range] at hb
  rw [fw_range hb]
  by_cases q : b < n
  · rw [fw_lo o1 (by rw [List.length_range]; exact q), fw_range q]
  · have e : b = (List.range n).length + (b - n) := by rw [List.length_range]; omega
    conv => lhs; rw [e]
    rw [fw_hi o2 (Nat.two_pow_pos _) (by rw [List.length_range]; omega), fw_range (by show b - n < m; omega)]
    rw [List.length_range, show n + (b - n) = b by omega]
theorem bs_assoc {vs : List Nat} {hl : Nat} (ok : Ts ts) (g : Ts us) (k : Ts vs) (hf : fl < 2 ^ ts.length) (hg : gl < 2 ^ us.length) (hh : hl < 2 ^ vs.length) (h : ts.length + us.length + vs.length ≤ 100) :
    bs (bs ts us) vs = bs ts (bs us vs) ∧ bf (bs ts us) (bf ts fl gl) hl = bf ts fl (bf us gl hl) := by
  have o1 := bs_ok ok g (by omega)
  have o2 := bs_ok g k (by omega)
  refine T_ext (bs_ok o1 k (by rw [bs_len]; exact h)) (bs_ok ok o2 (by rw [bs_len]; omega)) (by rw [bs_len, bs_len, bs_len, bs_len]; omega) (bf_lt (bf_lt hf hg) hh) (bf_lt hf (bf_lt hg hh)) fun b hb => ?_
  rw [bs_len, bs_len] at hb
  by_cases q : b < ts.length
  · rw [fw_lo o1 (by rw [bs_len]; omega), fw_lo ok q, fw_lo ok q]
  · by_cases r : b < ts.length + us.length
    · have e : b = ts.length + (b - ts.length) := by omega
      rw [fw_lo o1 (by rw [bs_len]; exact r)]
      rw [e, fw_hi g hf (by omega), fw_hi o2 hf (by rw [bs_len]; omega), fw_lo g (by omega)]
    · have e1 : b = (bs ts us).length + (b - ts.length - us.length) := by rw [bs_len]; omega
      have e2 : b = ts.length + (us.length + (b - ts.length - us.length)) := by omega
      conv => lhs; rw [e1]
      conv => rhs; rw [e2]
      rw [fw_hi k (bf_lt hf hg) (by omega), fw_hi o2 hf (by rw [bs_len]; omega), fw_hi k hg (by omega), bs_len]
      simp only [Nat.add_assoc]
/-- both parts of a place -/
theorem go_bs (ok : Ts ts) (g : Ts us) (hf : fl < 2 ^ ts.length) (h : ts.length + us.length ≤ 100) (p : Nat) : go (bs ts us) (bf ts fl gl) p = go us gl (p / 2 ^ ts.length) * 2 ^ ts.length + go ts fl (p % 2 ^ ts.length) := by
  have l := go_lt (bs ts us) (bf ts fl gl) p
  rw [bs_len] at l
  have l1 := go_lt ts fl (p % 2 ^ ts.length)
  have l2 := go_lt us gl (p / 2 ^ ts.length)
  have ob := bs_ok ok g h
  have e : go us gl (p / 2 ^ ts.length) * 2 ^ ts.length + go ts fl (p % 2 ^ ts.length) = 2 ^ ts.length * go us gl (p / 2 ^ ts.length) + go ts fl (p % 2 ^ ts.length) := by rw [Nat.mul_comm]
  have lr : 2 ^ ts.length * go us gl (p / 2 ^ ts.length) + go ts fl (p % 2 ^ ts.length) < 2 ^ (ts.length + us.length) := by
    rw [Nat.pow_add]
    have := Nat.mul_le_mul_left (2 ^ ts.length) (show go us gl (p / 2 ^ ts.length) + 1 ≤ 2 ^ us.length from l2)
    rw [Nat.mul_add, Nat.mul_one] at this
    omega
  rw [e]
  refine bits_ext l lr fun t ht => ?_
  rw [Nat.testBit_two_pow_mul_add _ l1]
  by_cases q : t < ts.length
  · rw [if_pos q]
    have hi := ok.get_idx q
    have il := ok.idx_lt q
    rw [go_bit ob _ p (e := ts.idxOf t) (by rw [bs_lo il]; exact hi), bf_lo q, go_bit ok fl _ hi, Nat.testBit_mod_two_pow]
    simp [il]
  · rw [if_neg q]
    have hi := g.get_idx (show t - ts.length < us.length by omega)
    have et : t = ts.length + (t - ts.length) := by omega
    have hb : (bs ts us)[ts.length + us.idxOf (t - ts.length)]? = some t := by
      rw [bs_hi, hi]
      show some (ts.length + (t - ts.length)) = some t
      rw [← et]
    rw [go_bit ob _ p hb, go_bit g gl _ hi, Nat.testBit_div_two_pow]
    have eb : (bf ts fl gl).testBit t = gl.testBit (t - ts.length) := by
      conv => lhs; rw [et]
      exact bf_hi hf
    rw [eb, Nat.add_comm]
end
/-! ### rows and columns -/
section
variable {r c : Nat}
theorem add_mod_back {b n r c : Nat} (h : b < n) (e : r + c = n) : ((b + c) % n + r) % n = b := by
  rw [Nat.mod_add_mod, show b + c + r = b + n by omega, Nat.add_mod_right, Nat.mod_eq_of_lt h]
theorem bw_tr {b n : Nat} {v : Bool} (h1 : 1 ≤ n) (h2 : n ≤ 100) (e : r + c = n) (h : b < n) : bw (tr n r) 0 (b, v) = ((b + c) % n, v) := by
  have ok := tr_ok r h1 h2
  have hy : (b + c) % n < n := Nat.mod_lt _ h1
  have q := bw_fw (fl := 0) ok (x := ((b + c) % n, v)) (by rw [tr_len]; exact hy)
  rw [fw_tr hy, add_mod_back h e] at q
  exact q
theorem tr_inv (h1 : 1 ≤ r + c) (h2 : r + c ≤ 100) : pT (tr (r + c) r) 0 (-1) = tr (c + r) c ∧ pF (tr (r + c) r) 0 (-1) = 0 := by
  have ok := tr_ok r h1 h2
  rw [Nat.add_comm c r]
  refine T_ext (pT_ok ok _) (tr_ok _ h1 h2) (by rw [pT_len, tr_len, tr_len]) (pF_lt' _) (Nat.two_pow_pos _) fun b hb => ?_
  rw [pT_len, tr_len] at hb
  rw [fw_pT ok _ (by rw [tr_len]; exact hb), pw_back ok (by rw [tr_len]; exact hb), bw_tr h1 h2 rfl hb, fw_tr hb]
theorem tr_then (h1 : 1 ≤ r + c) (h2 : r + c ≤ 100) : cT (tr (r + c) r) (tr (c + r) c) = List.range (r + c) ∧ go (tr (c + r) c) 0 0 = 0 := by
  have a := there_back (fl := 0) (tr_ok r h1 h2) (Nat.two_pow_pos _)
  obtain ⟨e1, e2⟩ := tr_inv h1 h2
  rw [e1, e2, tr_len] at a
  exact a
/-- the item of row R and column C -/
theorem go_rc (h1 : 1 ≤ r + c) (h2 : r + c ≤ 100) {R C : Nat} (hR : R < 2 ^ r) (hC : C < 2 ^ c) : go (tr (r + c) r) 0 (R * 2 ^ c + C) = C * 2 ^ r + R := by
  have ok := tr_ok r h1 h2
  have l := go_lt (tr (r + c) r) 0 (R * 2 ^ c + C)
  rw [tr_len] at l
  have l2 : C * 2 ^ r + R < 2 ^ (r + c) := by
    rw [Nat.pow_add]
    have := Nat.mul_le_mul_right (2 ^ r) (show C + 1 ≤ 2 ^ c from hC)
    rw [Nat.add_mul, Nat.one_mul, Nat.mul_comm (2 ^ c)] at this
    omega
  refine bits_ext l l2 fun t ht => ?_
  rw [Nat.mul_comm C, Nat.mul_comm R, Nat.testBit_two_pow_mul_add _ hR]
  by_cases q : t < r
  · rw [if_pos q]
    have g := tr_get (n := r + c) (k := r) (b := c + t) (by omega)
    rw [show (c + t + r) % (r + c) = t by rw [show c + t + r = t + (r + c) by omega, Nat.add_mod_right, Nat.mod_eq_of_lt ht]] at g
    rw [go_bit ok 0 _ g, Nat.zero_testBit, Bool.xor_false, Nat.testBit_two_pow_mul_add _ hC, if_neg (by omega), Nat.add_sub_cancel_left]
  · rw [if_neg q]
    have g := tr_get (n := r + c) (k := r) (b := t - r) (by omega)
    rw [show (t - r + r) % (r + c) = t by rw [show t - r + r = t by omega, Nat.mod_eq_of_lt ht]] at g
    rw [go_bit ok 0 _ g, Nat.zero_testBit, Bool.xor_false, Nat.testBit_two_pow_mul_add _ hC, if_pos (by omega)]
end
end M
namespace G
open PySem PySem.Spec PyProof.Rows L2 M
theorem cshl_big {b a n : Nat} (hb : b < 2 ^ a) (ha : a ≤ 1000) (h : n ≤ 1000) : CShl (b : Int) (n : Int) := by
  have e : Builtin.Int.intBits (b : Int) ≤ a := PyProof.Rows.intBits_le (by rw [Int.natAbs_natCast]; exact hb)
  refine ⟨Int.natCast_nonneg n, ?_⟩
  omega
abbrev sp_reversal (K : PySem.W.Frag) (C : Addr) : Sp := sp1 fun b H Q => ∃ n : Nat, b = .int (n : Int) ∧ 1 ≤ n ∧ n ≤ 100 ∧ NewT C H Q (rv n) 0
abbrev sp_turned_round (K : PySem.W.Frag) (C : Addr) : Sp := sp2 fun a b H Q => ∃ n k : Nat, a = .int (n : Int) ∧ b = .int (k : Int) ∧ 1 ≤ n ∧ n ≤ 100 ∧ NewT C H Q (tr n k) 0
abbrev sp_shuffled (K : PySem.W.Frag) (C : Addr) : Sp := sp1 fun b H Q => ∃ n : Nat, b = .int (n : Int) ∧ 1 ≤ n ∧ n ≤ 100 ∧ NewT C H Q (tr n 1) 0
abbrev sp_backwards (K : PySem.W.Frag) (C : Addr) : Sp := sp1 fun b H Q => ∃ n : Nat, b = .int (n : Int) ∧ 1 ≤ n ∧ n ≤ 100 ∧ NewT C H Q (List.range n) (2 ^ n - 1)
abbrev sp_transposed (K : PySem.W.Frag) (C : Addr) : Sp := sp2 fun a b H Q => ∃ r c : Nat, a = .int (r : Int) ∧ b = .int (c : Int) ∧ 1 ≤ r + c ∧ r + c ≤ 100 ∧ NewT C H Q (tr (r + c) r) 0
abbrev sp_beside (K : PySem.W.Frag) (C : Addr) : Sp := sp2 fun a b H Q => ∃ ts fl us gl, IsT C H a ts fl ∧ IsT C H b us gl ∧ ts.length + us.length ≤ 100 ∧ NewT C H Q (bs ts us) (fl ||| gl * 2 ^ ts.length)
end G

/-! sorted of pairs (letter, int), any number of them. -/
namespace SrtO
open PySem PyProof.Rows Srt
section
variable {prog : Program} {w : World} {A : Around} {E : Value → Shared → Prop} {s : Shared}
/-- v is a pair of the letter of code x and the int y -/
def LP (h : Heap) (v : Value) (x y : Int) : Prop := ∃ (a : Addr) (o : Obj) (c : Nat) (t u : Tok) (n : Nat), v = .ref a ∧ x = (c : Int) ∧ h.get? a = some o ∧ o.cls = .type "tuple" ∧ o.data = .seq #[.str ⟨#[c]⟩ t, .int y u] n
theorem LP.keeps {h h' : Heap} {v : Value} {x y : Int} (p : LP h v x y) (k : ∀ b o, h.get? b = some o → o.cls = .type "tuple" → h'.get? b = some o) : LP h' v x y := by
  obtain ⟨a, o, c, t, u, n, e, ec, ho, hc, hd⟩ := p
  exact ⟨a, o, c, t, u, n, e, ec, k _ _ ho hc, hc, hd⟩
theorem letters_eq (c d : Nat) : ((⟨#[c]⟩ : PySem.Str) == ⟨#[d]⟩) = decide (c = d) := by
  by_cases h : c = d
  · subst h
    simp
  · have : ¬ ((⟨#[c]⟩ : PySem.Str) = ⟨#[d]⟩) := fun z => by
      injection z with z
      simp at z
      exact h z
    simp [h, this]
theorem letters_lt (c d : Nat) : decide ((⟨#[c]⟩ : PySem.Str).cps.toList < (⟨#[d]⟩ : PySem.Str).cps.toList) = decide ((c : Int) < (d : Int)) := by
  show decide ([c] < [d]) = decide ((c : Int) < (d : Int))
  by_cases h : c < d
  · have : (c : Int) < (d : Int) := by omega
    simp [h, this, List.cons_lt_cons_iff]
  · have : ¬ (c : Int) < (d : Int) := by omega
    simp [h, this, List.cons_lt_cons_iff]
theorem lp_cmp {vs : List Value} {k : Value → Int × Int} (hp : ∀ v ∈ vs, LP s.heap v (k v).1 (k v).2) : Cmp prog w A s (tuples' true) (fun p => p.1 ∈ vs) (lt2 fun v u => lexB (k v) (k u)) := by
  intro p q hm hm'
  obtain ⟨a, o, c, t, u, n, e, ec, ho, hc, hd⟩ := hp _ hm
  obtain ⟨a', o', c', t', u', n', e', ec', ho', hc', hd'⟩ := hp _ hm'
  show wpAny (model prog w) A (keyLt' (tuples' true) p.1 q.1) (fun r s' => s' = s ∧ r = lexB (k p.1) (k q.1)) (fun _ _ => False) s
  have el : lexB (k p.1) (k q.1) = if c = c' then decide ((k p.1).2 < (k q.1).2) else decide ((c : Int) < (c' : Int)) := by
    unfold lexB
    rw [ec, ec']
    by_cases h : c = c'
    · rw [if_pos (by omega), if_pos h]
    · rw [if_neg (by omega), if_neg h]
  rw [el]
  generalize (k p.1).2 = y at hd ⊢
  generalize (k q.1).2 = y' at hd' ⊢
  rw [e, e']
  refine PySem.W.kat_lt ho hd ho' hd' ?_
  show PySem.W.KatLex prog w A true (decide (2 < 2)) _ [(.str ⟨#[c]⟩ t, .str ⟨#[c']⟩ t'), (.int y u, .int y' u')] 0 s
  refine PySem.W.kat_cons (SeqAt.EqAt.str_str ⟨#[c]⟩ t ⟨#[c']⟩ t' prog w _ _ ?_)
  rw [letters_eq]
  by_cases h : c = c'
  · rw [decide_eq_true h, if_pos h]
    refine PySem.W.kat_yes (PySem.W.kat_cons (SeqAt.EqAt.int_int y u y' u' prog w _ _ ?_))
    by_cases h2 : y = y'
    · have eb : (y == y') = true := beq_iff_eq.mpr h2
      rw [eb]
      refine PySem.W.kat_yes (PySem.W.kat_nil ⟨rfl, ?_⟩)
      rw [h2, decide_eq_false (Int.lt_irrefl _)]
      rfl
    · have eb : (y == y') = false := beq_eq_false_iff_ne.mpr h2
      rw [eb]
      exact PySem.W.kat_no (PySem.W.kat_one _ _ (PyProof.Rows.lt_int ⟨rfl, rfl⟩))
  · rw [decide_eq_false h, if_neg h]
    refine PySem.W.kat_no (PyProof.Rows.oneLt_str ?_)
    exact ⟨rfl, letters_lt c c'⟩
theorem lp_first {h : Heap} : ∀ {vs : List Value}, (∀ v ∈ vs, ∃ x y, LP h v x y) → ∃ fs : List Value, PySem.W.KatTups h vs fs ∧ fs.length = vs.length ∧ ∀ f ∈ fs, ∃ x t, f = Value.str x t
  | [], _ => ⟨[], .nil, rfl, fun f hm => (by cases hm)⟩
  | v :: vs, hp => by
    obtain ⟨fs, q1, q2, q3⟩ := lp_first (vs := vs) fun z hz => hp z (List.mem_cons_of_mem _ hz)
    obtain ⟨x, y, a, o, c, t, u, n, rfl, ec, ho, hc, hd⟩ := hp v List.mem_cons_self
    refine ⟨.str ⟨#[c]⟩ t :: fs, .cons ho hc hd rfl q1, congrArg (· + 1) q2, fun f hm => ?_⟩
    rcases List.mem_cons.mp hm with z | hm
    · exact ⟨_, t, z⟩
    · exact q3 f hm
theorem lp_sortable {a : Addr} {vs : List Value} {k : Value → Int × Int} (h0 : 0 < vs.length) (hp : ∀ v ∈ vs, LP s.heap v (k v).1 (k v).2) (ha : ∀ o, s.heap.get? a = some o → o.cls ≠ .type "tuple") : SortableO prog w A s a vs fun v u => lexB (k v) (k u) := by
  intro h' keep
  have hp' : ∀ v ∈ vs, LP h' v (k v).1 (k v).2 := fun v hm => (hp v hm).keeps fun b o e c => keep b o (fun z => ha o (z ▸ e) c) e
  obtain ⟨fs, q1, q2, q3⟩ := lp_first fun v hm => ⟨_, _, hp' v hm⟩
  refine ⟨tuples' true, fun Q E hq => ?_, lp_cmp hp'⟩
  refine PySem.W.kat_kind (T := .type "str") q1 (by omega) (fun f hm => ?_) (by rfl) ?_
  · obtain ⟨x, t, rfl⟩ := q3 f hm
    exact PySem.W.Looks.now
  · rw [show (Value.type "str" != Value.type "tuple") = true by decide +kernel]
    exact hq
theorem sorted_lp {l : Addr} {vs : List Value} {k : Value → Int × Int} {Q : Value → Shared → Prop} (hl : s.heap.IsList l vs.toArray) (hz : vs.length ≤ sizeLine) (hp : ∀ v ∈ vs, LP s.heap v (k v).1 (k v).2)
    (h : ∀ (h' : Heap) (d : Addr) (out : List Value), Srtd (fun v u => lexB (k v) (k u)) out → Stb (fun v u => lexB (k v) (k u)) out vs → (∀ b o, s.heap.get? b = some o → h'.get? b = some o) → s.heap.objs.size ≤ d → (∃ n, h'.get? d = some (seqObj "list" out.toArray n)) → Q (.ref d) { s with heap := h' }) :
    wpAny (model prog w) A (call (.builtin "sorted") [.ref l]) Q E s := by
  refine sorted_ord (swo_lex k) hl hz (fun h2 h1 a ha kk => ?_) fun out a1 a2 => h _ _ out a1 a2 (fun b o e => sortedAll_old e) (Nat.le_succ _) (sortedAll_at s.heap vs out.toArray)
  refine lp_sortable (s := { s with heap := h1 }) (by omega) (fun v hm => (hp v hm).keeps fun b o e _ => (kk b o e).2) fun o e c => ?_
  cases e.symm.trans ha
  exact absurd (Value.type.inj c) (by decide)
/-- the code of a letter -/
def cv : Value → Nat
  | .str x _ => x.cps.toList.headD 0
  | _ => 0
def ltC (v u : Value) : Bool := decide ((cv v : Int) < (cv u : Int))
theorem swo_ltC : Swo ltC := by
  refine ⟨fun x y h => ?_, fun x y z h1 h2 => ?_⟩
  · have a : (cv x : Int) < (cv y : Int) := of_decide_eq_true h
    exact decide_eq_false (by omega)
  · have a : ¬ (cv y : Int) < (cv x : Int) := of_decide_eq_false h1
    have b : ¬ (cv z : Int) < (cv y : Int) := of_decide_eq_false h2
    exact decide_eq_false (by omega)
theorem let_cmp {vs : List Value} (hv : ∀ v ∈ vs, ∃ c t, v = Value.str ⟨#[c]⟩ t) : Cmp prog w A s oneType' (fun p => p.1 ∈ vs) (lt2 ltC) := by
  intro p q hm hm'
  obtain ⟨c, t, e⟩ := hv _ hm
  obtain ⟨d, u, e'⟩ := hv _ hm'
  show wpAny (model prog w) A (keyLt' oneType' p.1 q.1) (fun r s' => s' = s ∧ r = ltC p.1 q.1) (fun _ _ => False) s
  rw [e, e', keyLt'_oneType]
  exact oneLt_str ⟨rfl, letters_lt c d⟩
theorem strs_of : ∀ {vs : List Value}, (∀ v ∈ vs, ∃ c t, v = Value.str ⟨#[c]⟩ t) → ∃ ys, StrsAre vs ys
  | [], _ => ⟨[], .nil⟩
  | v :: vs, h => by
    obtain ⟨c, t, rfl⟩ := h v List.mem_cons_self
    obtain ⟨ys, q⟩ := strs_of (vs := vs) fun z hz => h z (List.mem_cons_of_mem _ hz)
    exact ⟨_ :: ys, .cons _ t q⟩
theorem let_sortable {a : Addr} {vs : List Value} (hv : ∀ v ∈ vs, ∃ c t, v = Value.str ⟨#[c]⟩ t) (h2 : 2 ≤ vs.length) : SortableO prog w A s a vs ltC := by
  intro h' _
  refine ⟨oneType', fun Q E hq => ?_, let_cmp hv⟩
  obtain ⟨ys, hS⟩ := strs_of hv
  match vs, hS, h2 with
  | v1 :: v2 :: rest, hS, _ =>
    match ys, hS with
    | y1 :: ys, hS =>
      rw [keyKind_strs hS]
      exact wpAny_pure hq
  | [], _, h => exact absurd h (by decide)
  | [v], _, h => exact absurd h (by simp)
/-- sorted of a text: a new list of its letters -/
theorem sorted_txt {x : PySem.Str} {t : Tok} {Q : Value → Shared → Prop} (hh : A.in1.handled = none) (hn : x.cps.size ≤ sizeLine)
    (h : ∀ (h' : Heap) (tk : Nat) (d : Addr) (out vs : List Value), vs.length = x.cps.size → (∀ (j : Nat) (v : Value), vs[j]? = some v → ∃ c u, x.cps[j]? = some c ∧ v = Value.str ⟨#[c]⟩ u) → Srtd ltC out → Stb ltC out vs → (∀ b o, s.heap.get? b = some o → h'.get? b = some o) → s.heap.get? d = none →
      (∃ n, h'.get? d = some (seqObj "list" out.toArray n)) → Q (.ref d) { s with heap := h', toks := tk }) :
    wpAny (model prog w) A (call (.builtin "sorted") [.str x t]) Q E s := by
  refine Calls.call_function_entry kind_sorted plain_sorted entry_sorted (args_sorted1 _) ?_
  unfold Builtin.«sorted»
  refine wpAny_bind (m := checkCount "sorted" 1 1 _) (wpAny_pure ?_)
  refine wpAny_bind (wpAny_collect_str hh x t (fun s' acc kp g1 g2 g3 hit => ?_) hn)
  obtain ⟨hsz, hit⟩ := hit
  have hlen : acc.toList.length = x.cps.size := by rw [Array.length_toList, hsz]
  refine wpAny_bind (wpAny_newList ?_ (by rw [hlen]; exact hn))
  have hit' : ∀ (j : Nat) (v : Value), acc.toList[j]? = some v → ∃ c u, x.cps[j]? = some c ∧ v = Value.str ⟨#[c]⟩ u := fun j v q => hit j v (by rw [← Array.getElem?_toList]; exact q)
  have hv : ∀ v ∈ acc.toList, ∃ c t, v = Value.str ⟨#[c]⟩ t := fun v hv => by
    obtain ⟨j, hj⟩ := List.mem_iff_getElem?.mp hv
    obtain ⟨c, u, _, e⟩ := hit' j v hj
    exact ⟨c, u, e⟩
  have hoL : (s'.heap.push (seqObj "list" acc.toList.toArray 0)).get? s'.heap.objs.size = some (seqObj "list" acc.toList.toArray 0) := Heap.get?_push_size _ rfl
  have grow : s.heap.get? s'.heap.objs.size = none := by
    cases q : s.heap.get? s'.heap.objs.size with
    | none => rfl
    | some o => exact absurd (Heap.lt_size (kp _ _ q)) (Nat.lt_irrefl _)
  refine wpAny_bind (wpAny_holding (wpAny_call_entry slot_list_sort ⟨_, hoL, rfl⟩ entry_list_sort (list_sort_ord swo_ltC hoL (by rw [hlen]; exact hn) (fun h2 => let_sortable hv h2) fun out hs hb => ⟨_, rfl, ?_⟩) (args_list_sort _)))
  refine wpAny_pure ⟨_, rfl, ?_⟩
  have es : ({ s' with heap := sortedHeap (s'.heap.push (seqObj "list" acc.toList.toArray 0)) s'.heap.objs.size acc.toList out.toArray } : Shared) = { s with heap := sortedHeap (s'.heap.push (seqObj "list" acc.toList.toArray 0)) s'.heap.objs.size acc.toList out.toArray, toks := s'.toks } := by
    cases s'
    cases s
    simp only at g1 g2 g3
    subst g1 g2 g3
    rfl
  show Q _ { s' with heap := sortedHeap (s'.heap.push (seqObj "list" acc.toList.toArray 0)) s'.heap.objs.size acc.toList out.toArray }
  rw [es]
  refine h _ _ _ out acc.toList hlen hit' hs hb (fun b o e => ?_) grow (sortedHeap_at hoL)
  have e2 := kp b o e
  rw [sortedHeap_old (Nat.ne_of_lt (Heap.lt_size e2)) (by rw [size_push']; exact Nat.lt_succ_of_lt (Heap.lt_size e2))]
  exact Heap.get?_push_of_some _ e2
end
end SrtO
namespace G
open PySem PySem.Spec PyProof.Rows L2 M
/-- sorted(xs), xs a list of pairs (letter, int): by the letters, then by the ints -/
def rSortedLP (K : PySem.W.Frag) : List V → Hp → VK → Prop := fun vs H Q => ∃ (a : Addr) (xs : List V) (k : V → Nat × Int), vs = [V.ref a] ∧ SqL K H a xs ∧ (∀ x ∈ xs, ∃ t, x = V.ref t ∧ H t = some (.tup [.str ⟨#[(k x).1]⟩, .int (k x).2])) ∧
  ∀ ys p, SrtO.Srtd (ltP fun x => (((k x).1 : Int), (k x).2)) ys → SrtO.Stb (ltP fun x => (((k x).1 : Int), (k x).2)) ys xs → H p = none → Q (.ref p) (upd H p (.lst ys))
theorem cr_sortedLP {X : Cx} : CallR X (.builtin "sorted") (rSortedLP X.K) := by
  intro pins s σ H vs us Q I r h
  obtain ⟨a, xs, k, rfl, hs, hx, q⟩ := h
  obtain ⟨its, rv, hl, hz⟩ := I.list hs
  obtain ⟨u, rfl, ru⟩ := vals1 r
  obtain rfl : u = Value.ref a := ru
  obtain ⟨e1, e2⟩ := refs_back rv fun x m => (hx x m).elim fun t z => ⟨t, z.1⟩
  refine SrtO.sorted_lp (k := fun u => (((k (backV u)).1 : Int), (k (backV u)).2)) hl.isList (by rw [← rv.length]; exact hz) (fun v hv => ?_) fun h' d out h1 h2 kp hd hn => ?_
  · obtain ⟨t, rfl⟩ := e2 v hv
    have hm : V.ref t ∈ xs := by
      rw [e1]
      exact List.mem_map.mpr ⟨_, hv, rfl⟩
    obtain ⟨t', e, ht⟩ := hx _ hm
    cases e
    obtain ⟨_, its2, r2, o, ho, hc, n, hd⟩ := I.hok _ _ ht
    obtain ⟨u1, u2, rfl, ri, rj⟩ := vals2 r2
    obtain ⟨t1, rfl⟩ := ri
    obtain ⟨t2, rfl⟩ := rj
    exact ⟨t, o, _, t1, t2, n, rfl, rfl, ho, hc, hd⟩
  · have h3 : ∀ u ∈ out, ∃ a, u = Value.ref a := fun u hu => e2 u (h2.perm.mem_iff.mp hu)
    obtain ⟨n, hn⟩ := hn
    have hb : SrtO.Stb (ltP fun x => (((k x).1 : Int), (k x).2)) (out.map backV) xs := by
      rw [e1]
      exact SrtO.Stb.map (ltP_swo fun x => (((k x).1 : Int), (k x).2)) backV h2
    have lb : (out.map backV).length ≤ sizeLine := by
      rw [hb.len]
      exact hz
    exact ⟨.ref d, upd H d (.lst (out.map backV)), I.laid (t' := s.toks) kp hd ⟨lb, out, n, vals_back h3, hn⟩, rfl, q _ d (SrtO.srtd_map h1) hb (I.hok.fresh hd)⟩
theorem cr_sortedLPK {X : Cx} {K0 : PySem.W.Frag} (hK : X.K = K0 := by rfl) : CallR X (.builtin "sorted") (rSortedLP K0) := hK ▸ cr_sortedLP
theorem letters_back {vs : List Value} {cs : List Nat} (h : ∀ (j : Nat) (v : Value), vs[j]? = some v → ∃ c u, cs[j]? = some c ∧ v = Value.str ⟨#[c]⟩ u) (hl : vs.length = cs.length) : vs.map SrtO.cv = cs := by
  refine List.ext_getElem? fun j => ?_
  by_cases hj : j < vs.length
  · rw [List.getElem?_map, List.getElem?_eq_getElem hj]
    obtain ⟨c, u, h1, h2⟩ := h j _ (List.getElem?_eq_getElem hj)
    rw [h1, h2]
    rfl
  · rw [List.getElem?_eq_none (by simp; omega), List.getElem?_eq_none (by omega)]
theorem letters_vals : ∀ {vs : List Value}, (∀ v ∈ vs, ∃ c t, v = Value.str ⟨#[c]⟩ t) → Vals ((vs.map SrtO.cv).map fun c => V.str ⟨#[c]⟩) vs
  | [], _ => .nil
  | v :: vs, h => by
    obtain ⟨c, t, rfl⟩ := h v List.mem_cons_self
    exact .cons ⟨t, rfl⟩ (letters_vals (vs := vs) fun z hz => h z (List.mem_cons_of_mem _ hz))
/-- sorted(text): a new list of its letters, by their codes -/
def rSortedTx : List V → Hp → VK → Prop := fun vs H Q => ∃ z : Str, vs = [V.str z] ∧ z.cps.size ≤ sizeLine ∧
  ∀ (cs : List Nat) (p : Addr), cs.Perm z.cps.toList → cs.Pairwise (· ≤ ·) → H p = none → Q (.ref p) (upd H p (.lst (cs.map fun c => V.str ⟨#[c]⟩)))
theorem cr_sortedTx {X : Cx} (hc : X.calm = true) : CallR X (.builtin "sorted") rSortedTx := by
  intro pins s σ H vs us Q I r h
  obtain ⟨z, rfl, hn, q⟩ := h
  obtain ⟨u, rfl, ru⟩ := vals1 r
  obtain ⟨t, rfl⟩ := ru
  refine SrtO.sorted_txt (I.ok.hd hc) hn fun h' tk d out vs hl hit a1 a2 kp hd ho => ?_
  have hv : ∀ v ∈ vs, ∃ c t, v = Value.str ⟨#[c]⟩ t := fun v hv => by
    obtain ⟨j, hj⟩ := List.mem_iff_getElem?.mp hv
    obtain ⟨c, u, _, e⟩ := hit j v hj
    exact ⟨c, u, e⟩
  have ho' : ∀ v ∈ out, ∃ c t, v = Value.str ⟨#[c]⟩ t := fun v hm => hv v (a2.perm.mem_iff.mp hm)
  have back := letters_back (cs := z.cps.toList) (fun j v hj => by
    obtain ⟨c, u, h1, h2⟩ := hit j v hj
    exact ⟨c, u, by rw [Array.getElem?_toList]; exact h1, h2⟩) (by rw [hl, Array.length_toList])
  have pm : (out.map SrtO.cv).Perm z.cps.toList := by
    rw [← back]
    exact a2.perm.map _
  have so : (out.map SrtO.cv).Pairwise (· ≤ ·) := List.pairwise_map.mpr (a1.imp fun {x y} h => by
    have b : ¬ (SrtO.cv y : Int) < (SrtO.cv x : Int) := of_decide_eq_false h
    omega)
  obtain ⟨n, hn'⟩ := ho
  have lb : ((out.map SrtO.cv).map fun c => V.str ⟨#[c]⟩).length ≤ sizeLine := by
    rw [List.length_map, pm.length_eq, Array.length_toList]
    exact hn
  exact ⟨.ref d, upd H d (.lst ((out.map SrtO.cv).map fun c => V.str ⟨#[c]⟩)), I.laidN (t' := tk) kp hd (I.hok.gone hd) ⟨lb, out, n, letters_vals ho', hn'⟩, rfl, q _ d pm so (I.hok.gone hd)⟩
end G

/-! Words of letters. -/
namespace G
open PySem PySem.Spec PyProof.Rows L2 M
/-- a word: one to a hundred letters from a to z -/
structure Wd (z : Str) : Prop where
  one : 1 ≤ z.cps.size
  most : z.cps.size ≤ 100
  let_ : ∀ c ∈ z.cps.toList, 97 ≤ c ∧ c ≤ 122
abbrev sp_check_word (K : PySem.W.Frag) : Sp := sp1 fun a H Q => ∃ z : Str, a = .str z ∧ Wd z ∧ ∀ H', Ext H H' → Q .non H'
section
variable {K : PySem.W.Frag} {H : Hp} {σ : L2.St} {vs : List Nat} {Q : VK} {te ta : TE} {z : Str} {R : It → Hp → Prop}
theorem g_istr (h : ta σ H fun v H1 => ∃ x, v = .str x ∧ R (Its x) H1) : iStr ta σ H R := h
/-- [e for x in text]: slot c -/
theorem u_lcs {c : Nat} (Pv : Addr → Nat → Hp → Prop) (h0 : ∀ D, H D = none → Pv D 0 (upd H D (.lst [])))
    (hs : ∀ D i x H', H D = none → z.cps[i]? = some x → Pv D i H' → te ((wipe σ vs).set c (some (.str ⟨#[x]⟩))) H' fun y H4 => ∃ acc, H4 D = some (.lst acc) ∧ acc.length < sizeLine ∧ Pv D (i + 1) (upd H4 D (.lst (acc ++ [y]))))
    (hd : ∀ D H', H D = none → Pv D z.cps.size H' → Q (.ref D) H') (hw : ∀ x, wipe ((wipe σ vs).set c (some x)) vs = wipe σ vs := by intro x; rfl) :
    ∃ x, V.str z = .str x ∧ LcW (gName c) tYes te vs σ Q (Its x) H := by
  refine ⟨z, rfl, fun D hD => lc_it walk_str (Pv D) (h0 D hD) (fun i H' hi p => trivial) (fun i v H H' hi p y => ?_) (fun H' p => hd D H' hD p)⟩
  obtain ⟨rfl, x, e, rfl⟩ := y
  refine ⟨hw _, ?_⟩
  refine g_yes ?_
  exact iteT (hs D i x _ hD e p)
end
/-! ### text[::-1] -/
def revS (z : Str) : Str := ⟨z.cps.reverse⟩
def tRevS (te : TE) : TE := fun σ H Q => te σ H fun x H1 => ∃ z, x = .str z ∧ z.cps.size ≤ sizeLine ∧ Q (.str (revS z)) H1
theorem pick_rev (z : Str) : (Builtin.Str.strSliceIndices none none (-1) z.length).filterMap (z.cps[·]?) = z.cps.toList.reverse := by
  rw [PyProof.Rows.picked_rev]
  have e : z.length = z.cps.toList.length := by rw [Array.length_toList]; rfl
  rw [e]
  have f : (fun x : Nat => z.cps[x]?) = fun x => z.cps.toList[x]? := funext fun x => Array.getElem?_toList.symm
  rw [f]
  generalize z.cps.toList = l
  have g : ∀ k, k ≤ l.length → ((List.range k).map fun j => l.length - 1 - j).filterMap (fun x => l[x]?) = l.reverse.take k := fun k => by
    induction k with
    | zero => exact fun _ => rfl
    | succ k ih =>
      intro hk
      rw [List.range_succ, List.map_append, List.filterMap_append, ih (by omega), List.take_succ, List.getElem?_reverse (by omega)]
      congr 1
  rw [g _ (Nat.le_refl _), List.take_of_length_le (by rw [List.length_reverse]; exact Nat.le_refl _)]
theorem pe_revS {X : Cx} {e : Expr} {te : TE} {k : Nat} {p1 p2 p3 pos : Pos} (he : PE X e te) : PE X (.Subscript e (.Slice none none (some (.UnaryOp .USub (.Constant (.int 1) k p1) p2)) p3) pos) (tRevS te) := by
  refine ⟨fun pins s σ H Q I h => ?_⟩
  refine Subscript_ (thn (he.run pins s σ H _ I h) fun v s1 hh => ?_)
  obtain ⟨x, H1, I1, r1, z, rfl, hz, q⟩ := hh
  obtain ⟨t, rfl⟩ := r1
  have hst : PO X (some (.UnaryOp .USub (.Constant (.int 1) k p1) p2)) (tPart (tUn (rU fun i => .int (-i)) (tC (.int 1)))) := po_some (pe_un un_neg pe_int)
  refine wpAny_Slice (thn (po_none.run pins s1 σ H1 (fun o H2 => o = none ∧ H2 = H1) I1 ⟨rfl, rfl⟩) fun vl s2 h2 => ?_)
  obtain ⟨l, H2, I2, pl, rfl, rfl⟩ := h2
  refine thn (po_none.run pins s2 σ H2 (fun o H3 => o = none ∧ H3 = H2) I2 ⟨rfl, rfl⟩) fun vu s3 h3 => ?_
  obtain ⟨u, H3, I3, pu, rfl, rfl⟩ := h3
  refine thn (hst.run pins s3 σ H3 (fun o H4 => o = some (-1) ∧ H4 = H3) I3 ⟨1, rfl, -1, rfl, rfl, rfl⟩) fun vs s4 h4 => ?_
  obtain ⟨o, H4, I4, ps, rfl, rfl⟩ := h4
  have I5 : Inv X pins σ H4 { s4 with heap := s4.heap.push { cls := .type "slice", data := .fields #[vl, vu, vs] } } := I4.kept (t' := s4.toks) fun b ob w => Heap.get?_push_of_some _ w
  obtain ⟨l', rl, el⟩ := IsPart.raw pl
  obtain ⟨u', ru, eu⟩ := IsPart.raw pu
  obtain ⟨st', rs, es⟩ := IsPart.raw ps
  subst rl ru rs
  refine tail_any (ops := [.str z t, .ref s4.heap.objs.size]) (typeIs_str _ z t) F.slot_str_getitem.lookup ?_ (by with_unfolding_all rfl)
  have h0 : ((st'.map (·.1)).getD 1 == 0) = false := by
    rw [es]
    rfl
  refine wpAny_getItem_str_slice (l := l') (u := u') (st := st') ⟨_, Heap.get?_push_size _ rfl, rfl, rfl⟩ h0 ?_
  have em : sliceMade z t l' u' st' = Made.str (revS z) := by
    unfold sliceMade slicePicked
    rw [el, eu, es]
    show (if ((-1 : Int) == 1 && _) = true then _ else _) = _
    rw [if_neg (by simp)]
    show Made.str ⟨((Builtin.Str.strSliceIndices none none (-1) z.length).filterMap (z.cps[·]?)).toArray⟩ = _
    rw [pick_rev]
    unfold revS
    refine congrArg Made.str (congrArg Str.mk (Array.toList_inj.mp ?_))
    rw [Array.toList_reverse]
  rw [em]
  exact ⟨by show z.cps.reverse.size ≤ sizeLine; rw [Array.size_reverse]; exact hz, .str _, H4, I5.tok _, ⟨_, rfl⟩, q⟩
/-! ### enumerate(text) -/
/-- its letters, each in a new pair with its place -/
def Ites (z : Str) : It :=
  ⟨fun i _ => i < z.cps.size, fun i H v H' => ∃ T c, v = .ref T ∧ H T = none ∧ H' = upd H T (.tup [.int (i : Nat), .str ⟨#[c]⟩]) ∧ z.cps[i]? = some c, fun i _ => i = z.cps.size⟩
theorem drawsS {P : Program} {w : World} {A : Around} (hh : A.handled = none) (it : Addr) (z : Str) (t : Tok) : Draws P w A it [it] z.cps.size (fun i v => ∃ c u, z.cps[i]? = some c ∧ v = .str ⟨#[c]⟩ u) (fun i h => h.IsStrIter it (strIterType z) z t i) := by
  unfold strIterType
  split
  · exact Draws.strAscii hh it z t
  · exact Draws.strWide hh it z t
theorem turn_enumS {P : Program} {w : World} {K : PySem.W.Frag} {els : List Expr} {ck : Nat} {tp : Pos} (e it : Addr) (z : Str) (t : Tok) :
    Turn P w K (.Tuple els ck tp) (Ites z) [e, it] e (fun i h => (∃ old, IsEnum h e it ((i : Nat) : Int) old) ∧ h.IsStrIter it (strIterType z) z t i ∧ e ≠ it) where
  mem := List.mem_cons_self
  obj := fun i h st b hb => by
    obtain ⟨⟨old, he⟩, ⟨o, ho, hc, hd⟩, _⟩ := st
    rcases List.mem_cons.mp hb with q | q
    · subst q
      exact ⟨_, he, fun v q => nomatch q⟩
    · rw [List.mem_singleton.mp q]
      exact ⟨o, ho, fun v q => by rw [hd] at q; cases q⟩
  keep := fun i h h' st k => by
    obtain ⟨⟨old, he⟩, ⟨o, ho, r⟩, ne⟩ := st
    exact ⟨⟨old, k e List.mem_cons_self _ he⟩, ⟨o, k it (List.mem_cons_of_mem _ List.mem_cons_self) _ ho, r⟩, ne⟩
  item := by
    intro X hP hw hK hc i pins s σ H E I hf st hg
    subst hP hw hK
    obtain ⟨⟨old, he⟩, hit, hne⟩ := st
    have hel : e < s.heap.objs.size := Heap.lt_size he
    have hil : it < s.heap.objs.size := by
      obtain ⟨o, q, _⟩ := hit
      exact Heap.lt_size q
    have hh : X.A.in1.handled = none := I.ok.hd hc
    refine wpAny_pyNext_enum_itemD (drawsS hh it z t) he hit hg hne (fun q => hne (List.mem_singleton.mp q)) fun x h' tk hP ho hit' hT hsz hk => ?_
    obtain ⟨c, u, hcx, rfl⟩ := hP
    refine ⟨_, rfl, wpAny_letOwnedTupleGo_enum (s := { s with heap := h', toks := tk + 1 }) ho fun h2 he' sb => ?_⟩
    have hT2 : h2.get? s.heap.objs.size = some { cls := .type "tuple", data := .seq #[.int i tk, .str ⟨#[c]⟩ u] } := (sb.2 _ (Nat.ne_of_gt hel)).trans hT
    have new : ObjOk X.prog X.w (upd H s.heap.objs.size (.tup [.int (i : Nat), .str ⟨#[c]⟩])) h2 s.heap.objs.size (.tup [.int (i : Nat), .str ⟨#[c]⟩]) :=
      ⟨(by decide : 2 ≤ sizeLine), [.int i tk, .str ⟨#[c]⟩ u], .cons ⟨_, rfl⟩ (.cons ⟨_, rfl⟩ .nil), ⟨_, hT2, rfl, _, rfl⟩⟩
    have kp : ∀ b ob, b ∉ [e, it] → s.heap.get? b = some ob → h2.get? b = some ob := fun b ob hb q => by
      have b1 : b ≠ e := fun z => hb (z ▸ List.mem_cons_self)
      have b2 : b ≠ it := fun z => hb (z ▸ List.mem_cons_of_mem _ List.mem_cons_self)
      exact (sb.2 b b1).trans (hk b ob b1 b2 q)
    have I1 : Inv X pins σ (upd H s.heap.objs.size (.tup [.int (i : Nat), .str ⟨#[c]⟩])) { s with heap := h2, toks := tk + 1 } := I.turnedNew (ch := [e, it]) kp hf (Nat.le_refl _) new
    have e1 : ((i + 1 : Nat) : Int) = (i : Int) + 1 := by omega
    refine ⟨.ref s.heap.objs.size, _, I1, rfl, ⟨_, c, rfl, I.hok.fresh (Nat.le_refl _), rfl, hcx⟩, ⟨⟨_, by rw [e1]; exact he'⟩, ?_, hne⟩, fun b hb => ?_⟩
    · obtain ⟨o, q1, q2⟩ := hit'
      exact ⟨o, (sb.2 it (Ne.symm hne)).trans q1, q2⟩
    · have hb' : b < s.heap.objs.size := by
        rcases List.mem_cons.mp hb with q | q
        · rw [q]
          exact hel
        · rw [List.mem_singleton.mp q]
          exact hil
      rw [upd_ne (Nat.ne_of_lt hb')]
      exact (hf b hb).1
  done := by
    intro X hP hw hK hc i pins s σ H E I hf st hg
    subst hP hw hK
    obtain ⟨⟨old, he⟩, hit, hne⟩ := st
    obtain ⟨f0, f1, f2, f3, f4, f5⟩ := hf it (List.mem_cons_of_mem _ List.mem_cons_self)
    cases hg
    have D : Draws X.prog X.w X.A.in1 it [it] z.cps.size (fun i v => ∃ c u, z.cps[i]? = some c ∧ v = .str ⟨#[c]⟩ u) (fun i h => h.IsStrIter it (strIterType z) z t i) := drawsS (show X.A.in1.handled = none from I.ok.hd hc) it z t
    exact wpAny_pyNext_enum_endD (n := z.cps.size) (St := fun i h => h.IsStrIter it (strIterType z) z t i) D he hit fun h' eb => ⟨rfl, I.turned (t' := s.toks) (fun b o hb q => eb b o hb q) f0 f1 f3 f4 f5⟩
  self := fun A i s Q E st h => by
    obtain ⟨⟨_, he⟩, _⟩ := st
    exact wpAny_pyIter_enum he h
def iEnumS (ta : TA) : TI := fun σ H R => ta σ H fun vs H1 => ∃ z, vs = [.str z] ∧ R (Ites z) H1
theorem pi_enumS {X : Cx} {e : Expr} {ta : TA} {p pos tp : Pos} {els : List Expr} {ck : Nat} (hg : Gl X "enumerate") (hm : X.mg "enumerate" = none) (ha : PA X [e] ta) (hs : starEach [e] X.env = [(false, eval e X.env)] := by rfl) :
    PI X (.Tuple els ck tp) (.Call (.Name "enumerate" p) [e] [] pos) (iEnumS ta) := by
  refine ⟨fun pins s σ H R I h => ?_⟩
  refine Call_ (ld_blt I hg hm boot_enumerate (PyProof.Rows.callWith_type1 (thn (ha.run pos pins s σ H _ I h) fun us s1 hh => ?_) hs rfl))
  obtain ⟨vs, H1, I1, r1, z, rfl, q⟩ := hh
  obtain ⟨u, rfl, t, rfl⟩ := vals1 r1
  refine call_enumerate_str fun h' he hit hsz hk => wpAny_pyIter_enum he ?_
  have I2 : Inv X pins σ H1 { s1 with heap := h' } := I1.kept (t' := s1.toks) hk
  refine ⟨s1.heap.objs.size + 1, [s1.heap.objs.size + 1, s1.heap.objs.size], _, _, H1, rfl, I2, turn_enumS (s1.heap.objs.size + 1) s1.heap.objs.size z t, ⟨⟨.none, he⟩, hit, Nat.succ_ne_self _⟩, fun b hb => ?_, q⟩
  have hle : s1.heap.objs.size ≤ b := by
    rcases List.mem_cons.mp hb with k | k
    · rw [k]
      exact Nat.le_add_right _ _
    · rw [List.mem_singleton.mp k]
      exact Nat.le_refl _
  exact I1.fpOk hle (I1.hok.fresh hle)
theorem walk_enumS {z : Str} : Walk (Ites z) z.cps.size (fun _ => True) (fun i H v H' => ∃ T c, v = .ref T ∧ H T = none ∧ H' = upd H T (.tup [.int (i : Nat), .str ⟨#[c]⟩]) ∧ z.cps[i]? = some c) :=
  ⟨fun _ _ hi _ => hi, fun _ _ => rfl, fun _ _ _ _ _ _ y => y⟩
section
variable {K : PySem.W.Frag} {H : Hp} {σ : L2.St} {vs : List Nat} {Q : VK} {te : TE} {ta : TA} {z : Str} {R : It → Hp → Prop}
theorem g_ienumS (h : ta σ H fun vs H1 => ∃ z, vs = [.str z] ∧ R (Ites z) H1) : iEnumS ta σ H R := h
/-- [e for i, x in enumerate(text)]: slots c and d -/
theorem u_lces {c d n : Nat} (Pv : Addr → Nat → Hp → Prop) (h0 : ∀ D, H D = none → Pv D 0 (upd H D (.lst [])))
    (hs : ∀ D i x H' H2, H D = none → z.cps[i]? = some x → Pv D i H' → Ext H' H2 → te (((wipe σ vs).set c (some (.int (i : Int)))).set d (some (.str ⟨#[x]⟩))) H2 fun y H4 => ∃ acc, H4 D = some (.lst acc) ∧ acc.length < sizeLine ∧ Pv D (i + 1) (upd H4 D (.lst (acc ++ [y]))))
    (hd : ∀ D H', H D = none → Pv D z.cps.size H' → Q (.ref D) H') (hn : n = 2 := by rfl) (hw : ∀ x y, wipe (((wipe σ vs).set c (some x)).set d (some y)) vs = wipe σ vs := by intro x y; rfl) :
    ∃ z', [V.str z] = [.str z'] ∧ LcW (gTup K n (gCons (gName c) (gCons (gName d) gNil))) tYes te vs σ Q (Ites z') H := by
  subst hn
  refine ⟨z, rfl, fun D hD => lc_it walk_enumS (Pv D) (h0 D hD) (fun i H' hi p => trivial) (fun i v H H' hi p y => ?_) (fun H' p => hd D H' hD p)⟩
  obtain ⟨T, x, rfl, hT, rfl, e⟩ := y
  refine ⟨T, _, rfl, SqT.of upd_same, rfl, _, _, rfl, _, _, rfl, rfl, hw _ _, ?_⟩
  refine g_yes ?_
  exact iteT (hs D i x _ _ hD e p (Ext.new hT))
end
/-! ### bits by letters -/
/-- the letter of a bit -/
def ltr (z : Str) (b : Nat) : Nat := z.cps.toList.reverse.getD b 0
structure BL (z : Str) (bl : List Nat) : Prop where
  perm : bl.Perm (List.range z.cps.size)
  ord : bl.Pairwise fun a b => ltr z a < ltr z b ∨ (ltr z a = ltr z b ∧ a < b)
abbrev sp_bits_by_letter (K : PySem.W.Frag) : Sp := sp1 fun a H Q => ∃ z : Str, a = .str z ∧ Wd z ∧ ∀ p bl H', Ext H H' → H p = none → H' p = some (.lst (nv bl)) → BL z bl → Q (.ref p) H'
/-- a pair of the letter of a bit and the bit -/
def oL (x : Nat × Nat) : HO := .tup [.str ⟨#[x.1]⟩, .int ((x.2 : Nat) : Int)]
theorem g_revS {te : TE} {σ : L2.St} {H : Hp} {Q : VK} (h : te σ H fun x H1 => ∃ z, x = .str z ∧ z.cps.size ≤ sizeLine ∧ Q (.str (revS z)) H1) : tRevS te σ H Q := h
section
variable {K : PySem.W.Frag} {H : Hp} {σ : L2.St} {vs : List Nat} {Q : VK} {te : TE} {a : Addr} {xs : List V}
/-- [e for u, v in list]: the list's items are pairs -/
theorem u_lcl2 {c d n : Nat} (hx : SqL K H a xs) (Pv : Addr → Nat → Hp → Prop) (h0 : ∀ D, H D = none → Pv D 0 (upd H D (.lst []))) (hG : ∀ D i H', H D = none → i ≤ xs.length → Pv D i H' → SqL K H' a xs)
    (hs : ∀ D i x H', H D = none → xs[i]? = some x → Pv D i H' → ∃ T u v, x = .ref T ∧ H' T = some (.tup [u, v]) ∧ te (((wipe σ vs).set c (some u)).set d (some v)) H' fun y H4 => ∃ acc, H4 D = some (.lst acc) ∧ acc.length < sizeLine ∧ Pv D (i + 1) (upd H4 D (.lst (acc ++ [y]))))
    (hd : ∀ D H', H D = none → Pv D xs.length H' → Q (.ref D) H') (hn : n = 2 := by rfl) (hw : ∀ x y, wipe (((wipe σ vs).set c (some x)).set d (some y)) vs = wipe σ vs := by intro x y; rfl) :
    ∃ a', V.ref a = .ref a' ∧ (∃ xs, SqL K H a' xs) ∧ LcW (gTup K n (gCons (gName c) (gCons (gName d) gNil))) tYes te vs σ Q (Itl K a') H := by
  subst hn
  refine ⟨a, rfl, ⟨xs, hx⟩, fun D hD => lc_it walk_list (Pv D) (h0 D hD) (fun i H' hi p => hG D i H' hD hi p) (fun i v H H' hi p y => ?_) (fun H' p => hd D H' hD p)⟩
  obtain ⟨rfl, e⟩ := y
  obtain ⟨T, u, w, rfl, hT, q⟩ := hs D i v _ hD e p
  refine ⟨T, _, rfl, SqT.of hT, rfl, _, _, rfl, _, _, rfl, rfl, hw _ _, ?_⟩
  refine g_yes ?_
  exact iteT q
end
theorem revS_size (z : Str) : (revS z).cps.size = z.cps.size := by
  unfold revS
  rw [Array.size_reverse]
theorem revS_at {z : Str} {i x : Nat} (h : (revS z).cps[i]? = some x) : ltr z i = x := by
  have e : z.cps.toList.reverse[i]? = some x := by
    rw [← Array.toList_reverse, Array.getElem?_toList]
    exact h
  exact getD_of e
/-- what a pair in the heap holds -/
def kL (H : Hp) (v : V) : Nat × Int :=
  match v with
  | .ref a => match H a with
    | some (.tup [.str s, .int i]) => (s.cps.toList.headD 0, i)
    | _ => (0, 0)
  | _ => (0, 0)
theorem kL_at {H : Hp} {a : Addr} {x : Nat × Nat} (h : H a = some (oL x)) : kL H (.ref a) = (x.1, (x.2 : Int)) := by
  unfold kL oL at *
  simp only [h]
  rfl
/-- the bits of sorted pairs -/
theorem bl_of {z : Str} {H : Hp} {xs ys : List V} (hx : xs.map (kL H) = (List.range z.cps.size).map fun b => (ltr z b, (b : Int))) (hs : SrtO.Srtd (ltP fun v => (((kL H v).1 : Int), (kL H v).2)) ys) (hp : ys.Perm xs) :
    BL z (ys.map fun y => (kL H y).2.toNat) ∧ ∀ y ∈ ys, ∃ b, b < z.cps.size ∧ kL H y = (ltr z b, (b : Int)) := by
  have mem : ∀ y ∈ ys, ∃ b, b < z.cps.size ∧ kL H y = (ltr z b, (b : Int)) := fun y hy => by
    have hm : kL H y ∈ xs.map (kL H) := List.mem_map.mpr ⟨y, hp.mem_iff.mp hy, rfl⟩
    rw [hx] at hm
    obtain ⟨b, hb, e⟩ := List.mem_map.mp hm
    exact ⟨b, List.mem_range.mp hb, e.symm⟩
  have pm : (ys.map fun y => (kL H y).2.toNat).Perm (List.range z.cps.size) := by
    have e : (xs.map fun y => (kL H y).2.toNat) = List.range z.cps.size := by
      have e2 : (xs.map fun y => (kL H y).2.toNat) = (xs.map (kL H)).map fun k => k.2.toNat := by rw [List.map_map]; rfl
      rw [e2, hx, List.map_map]
      exact Eq.trans (List.map_congr_left fun b _ => Int.toNat_natCast b) (List.map_id' _)
    rw [← e]
    exact hp.map _
  refine ⟨⟨pm, ?_⟩, mem⟩
  have nd : (ys.map fun y => (kL H y).2.toNat).Nodup := pm.nodup_iff.mpr List.nodup_range
  have nd2 := List.pairwise_map.mp nd
  refine List.pairwise_map.mpr ?_
  refine List.Pairwise.imp_of_mem ?_ (hs.and nd2)
  intro x y hxm hym h
  obtain ⟨b, _, eb⟩ := mem x hxm
  obtain ⟨c, _, ec⟩ := mem y hym
  obtain ⟨l1, l2⟩ := h
  have l1' := SrtO.lexB_no.mp l1
  dsimp only at l1'
  rw [eb, ec] at l1' l2
  rw [eb, ec]
  simp only [Int.toNat_natCast] at l1' l2 ⊢
  omega
/-! ### converted -/
theorem sorted_same {a b : List Nat} (h : a.Perm b) (ha : a.Pairwise (· ≤ ·)) (hb : b.Pairwise (· ≤ ·)) : a = b := List.Perm.eq_of_pairwise (le := (· ≤ ·)) (fun _ _ _ _ h1 h2 => Nat.le_antisymm h1 h2) ha hb h
/-- letters as data -/
def sd (l : List Nat) : List PyData := l.map fun c => PyData.str ⟨#[c]⟩
theorem dpAll_sd {K : PySem.W.Frag} {H : Hp} : ∀ l : List Nat, DpAll K H (l.map fun c => V.str ⟨#[c]⟩) (sd l)
  | [] => .nil
  | c :: l => .cons (.str _) (dpAll_sd l)
open PyData in
theorem sd_self : ∀ l : List Nat, eqvAll (sd l) (sd l) = true
  | [] => by simp [sd, eqvAll]
  | c :: l => by
    have ih := sd_self l
    show (eqv (.str ⟨#[c]⟩) (.str ⟨#[c]⟩) && eqvAll (sd l) (sd l)) = true
    rw [ih]
    simp [eqv]
open PyData in
theorem letter_ok {c : Nat} (h1 : 97 ≤ c) (h2 : c ≤ 122) : strOk ⟨#[c]⟩ = true := by
  have : ∀ d : Fin 26, strOk ⟨#[d.val + 97]⟩ = true := by decide +kernel
  have e : c - 97 + 97 = c := by omega
  have q := this ⟨c - 97, by omega⟩
  simp only [e] at q
  exact q
open PyData in
theorem sd_lay : ∀ l : List Nat, (∀ c ∈ l, 97 ≤ c ∧ c ≤ 122) → canLayAll0 (sd l) = true ∧ depthAll (sd l) = 0
  | [], _ => by simp [sd, canLayAll0, depthAll]
  | c :: l, h => by
    have ih := sd_lay l fun x hx => h x (List.mem_cons_of_mem _ hx)
    have hc := h c List.mem_cons_self
    have ok : strOk ⟨#[c]⟩ = true := letter_ok hc.1 hc.2
    unfold sd at ih ⊢
    simp only [List.map_cons, canLayAll0, canLay0, depthAll, depth, Nat.zero_max, ok, Bool.true_and]
    exact ih
theorem sd_shaped {l : List Nat} (h : ∀ c ∈ l, 97 ≤ c ∧ c ≤ 122) : SeqAt.shaped (.list (sd l)) = true := by
  unfold SeqAt.shaped
  rw [show PyData.canLay0 (.list (sd l)) = true by unfold PyData.canLay0; exact (sd_lay l h).1]
  unfold PyData.depth
  rw [(sd_lay l h).2]
  rfl
theorem sd_eq (l : List Nat) : PyData.eqv (.list (sd l)) (.list (sd l)) = true := by
  unfold PyData.eqv
  exact sd_self l
structure Conv (z w : Str) (tg : List Nat) : Prop where
  ok : Ts tg
  len : tg.length = z.cps.size
  ex : ∃ bl cl, BL z bl ∧ BL w cl ∧ ∀ i b : Nat, bl[i]? = some b → tg[b]? = cl[i]?
abbrev sp_converted (K : PySem.W.Frag) (C : Addr) : Sp := sp2 fun a b H Q => ∃ z w : Str, a = .str z ∧ b = .str w ∧ Wd z ∧ Wd w ∧ z.cps.toList.Perm w.cps.toList ∧ ∀ tg, Conv z w tg → NewT C H Q tg 0
section
variable {D : Ends} {σ : L2.St} {H : Hp} {tb : TS} {K : PySem.W.Frag} {a b : Addr} {xs ys : List V}
/-- for x, y in zip(list, list), as long as each other: slots c and d -/
theorem u_zip {c d n : Nat} (hx : SqL K H a xs) (hy : SqL K H b ys) (hl : xs.length = ys.length) (Pv : Nat → L2.St → Hp → Prop) (h0 : Pv 0 σ H) (hG : ∀ i σ H, i ≤ xs.length → Pv i σ H → SqL K H a xs ∧ SqL K H b ys)
    (hs : ∀ i x y σ H H', xs[i]? = some x → ys[i]? = some y → Pv i σ H → Ext H H' → tb { D with nx := Pv (i + 1), ct := Pv (i + 1), bk := D.nx } ((σ.set c (some x)).set d (some y)) H') (hd : ∀ σ H, Pv xs.length σ H → D.nx σ H) (hn : n = 2 := by rfl) :
    ForW (gTup K n (gCons (gName c) (gCons (gName d) gNil))) tb D σ (Itz K a b) H := by
  subst hn
  refine for_it (walk_zip (n := xs.length) (by omega)) Pv h0 hG (fun i v σ H H' hi p y => ?_) hd
  obtain ⟨T, x, z, rfl, hT, rfl, e1, e2⟩ := y
  exact ⟨T, _, rfl, SqT.of upd_same, rfl, _, _, rfl, _, _, rfl, rfl, hs i x z σ H _ e1 e2 p (Ext.new hT)⟩
end
theorem g_izip {K : PySem.W.Frag} {ta : TA} {σ : L2.St} {H : Hp} {R : It → Hp → Prop} (h : ta σ H fun vs H1 => ∃ a b xs ys, vs = [.ref a, .ref b] ∧ SqL K H1 a xs ∧ SqL K H1 b ys ∧ R (Itz K a b) H1) : iZip K ta σ H R := h
theorem conv_perm {z w : Str} {tg bl cl : List Nat} (hl : tg.length = z.cps.size) (b : BL z bl) (c : BL w cl) (e : z.cps.size = w.cps.size) (h : ∀ i x : Nat, bl[i]? = some x → tg[x]? = cl[i]?) : tg.Perm (List.range z.cps.size) := by
  have lb := b.perm.length_eq
  have lc := c.perm.length_eq
  rw [List.length_range] at lb lc
  have em : bl.map (fun x => tg.getD x 0) = cl := by
    refine List.ext_getElem? fun i => ?_
    by_cases hi : i < bl.length
    · obtain ⟨x, hx⟩ : ∃ x, bl[i]? = some x := ⟨_, List.getElem?_eq_getElem hi⟩
      obtain ⟨y, hy⟩ : ∃ y, cl[i]? = some y := ⟨_, List.getElem?_eq_getElem (by omega)⟩
      have q := h i x hx
      rw [hy] at q
      rw [List.getElem?_map, hx, hy]
      exact congrArg some (getD_of q)
    · rw [List.getElem?_eq_none (by simp; omega), List.getElem?_eq_none (by omega)]
  have e1 := M.map_getD tg
  rw [hl] at e1
  rw [← e1]
  refine (b.perm.symm.map _).trans ?_
  rw [em, e]
  exact c.perm
/-! ### conversions of words, put together -/
section
variable {z w u : Str} {s t bl cl : List Nat}
theorem BL.uniq (a : BL z bl) (b : BL z cl) : bl = cl :=
  List.Perm.eq_of_pairwise (le := fun a b => ltr z a < ltr z b ∨ (ltr z a = ltr z b ∧ a < b)) (fun a b _ _ h1 h2 => by omega) a.ord b.ord (a.perm.trans b.perm.symm)
theorem BL.len (a : BL z bl) : bl.length = z.cps.size := by
  have := a.perm.length_eq
  rw [List.length_range] at this
  exact this
theorem BL.at (a : BL z bl) {b : Nat} (h : b < z.cps.size) : ∃ i : Nat, bl[i]? = some b := List.mem_iff_getElem?.mp (a.perm.mem_iff.mpr (List.mem_range.mpr h))
theorem Conv.uniq (a : Conv z w s) (b : Conv z w t) : s = t := by
  obtain ⟨bl, cl, h1, h2, h3⟩ := a.ex
  obtain ⟨bl', cl', g1, g2, g3⟩ := b.ex
  have e1 := h1.uniq g1
  have e2 := h2.uniq g2
  subst e1 e2
  refine List.ext_getElem? fun x => ?_
  by_cases hx : x < z.cps.size
  · obtain ⟨i, hi⟩ := h1.at hx
    rw [h3 i x hi, g3 i x hi]
  · rw [List.getElem?_eq_none (by have := a.len; omega), List.getElem?_eq_none (by have := b.len; omega)]
theorem Conv.comp (a : Conv z w s) (b : Conv w u t) (e : z.cps.size = w.cps.size) : Conv z u (cT s t) := by
  obtain ⟨bl, cl, h1, h2, h3⟩ := a.ex
  obtain ⟨cl', dl, g1, g2, g3⟩ := b.ex
  have e1 := h2.uniq g1
  subst e1
  have la := a.len
  have lb := b.len
  refine ⟨cT_ok a.ok b.ok (by omega), by rw [cT_len]; exact la, bl, dl, h1, g2, fun i x hi => ?_⟩
  have xl : x < z.cps.size := List.mem_range.mp (h1.perm.mem_iff.mp (List.mem_of_getElem? hi))
  have il := (List.getElem?_eq_some_iff.mp hi).1
  obtain ⟨y, hy⟩ : ∃ y, cl[i]? = some y := ⟨_, List.getElem?_eq_getElem (by have := h1.len; have := h2.len; omega)⟩
  have q := h3 i x hi
  rw [hy] at q
  rw [cT_get q, ← g3 i y hy]
  exact (b.ok.getD (by have := List.mem_range.mp (h2.perm.mem_iff.mp (List.mem_of_getElem? hy)); omega)).symm
theorem Conv.id (wd : Wd z) (b : BL z bl) : Conv z z (List.range z.cps.size) :=
  ⟨ts_range wd.one wd.most, List.length_range, bl, bl, b, b, fun i x hi => by rw [hi, List.getElem?_range (List.mem_range.mp (b.perm.mem_iff.mp (List.mem_of_getElem? hi)))]⟩
/-- without flips a turn back has none -/
theorem back_noflip (ok : Ts s) : pF s 0 (-1) = 0 := by
  refine bits_ext (pF_lt _) (Nat.two_pow_pos _) fun x hx => ?_
  have okp := pT_ok (fl := 0) ok (-1)
  have hx' : x < (pT s 0 (-1)).length := by rw [pT_len]; exact hx
  have hi := okp.idx_lt hx'
  rw [pT_len] at hi
  have hg := okp.get_idx hx'
  rw [pT_get _ hi] at hg
  have pb := pF_bit (fl := 0) ok (-1) hi
  rw [Option.some.inj hg] at pb
  rw [pb, pw_back ok hi, Nat.zero_testBit]
  unfold bw
  simp
theorem Conv.inv (a : Conv z w s) (e : z.cps.size = w.cps.size) : Conv w z (pT s 0 (-1)) := by
  obtain ⟨bl, cl, h1, h2, h3⟩ := a.ex
  have la := a.len
  refine ⟨pT_ok a.ok _, by rw [pT_len, la, e], cl, bl, h2, h1, fun i y hy => ?_⟩
  have yl : y < s.length := by
    have := List.mem_range.mp (h2.perm.mem_iff.mp (List.mem_of_getElem? hy))
    omega
  have il := (List.getElem?_eq_some_iff.mp hy).1
  obtain ⟨x, hx⟩ : ∃ x, bl[i]? = some x := ⟨_, List.getElem?_eq_getElem (by have := h1.len; have := h2.len; omega)⟩
  have q := h3 i x hx
  rw [hy] at q
  rw [pT_get _ yl, hx, pw_back a.ok yl]
  show some (s.idxOf y) = some x
  rw [a.ok.idx_get q]
end
/-! ### a letter, so many times -/
def rRepL : R2 := fun x y H Q => ∃ c k : Nat, x = .str ⟨#[c]⟩ ∧ y = .int (k : Int) ∧ k ≤ 1000 ∧ Q (.str ⟨(List.replicate k c).toArray⟩) H
theorem fold_rep (c : Nat) : ∀ (k : Nat) (a : Array Nat), (List.replicate k (#[c] : Array Nat)).foldl (· ++ ·) a = a ++ (List.replicate k c).toArray
  | 0, a => by simp
  | k + 1, a => by
    rw [List.replicate_succ, List.foldl_cons, fold_rep c k, List.replicate_succ]
    refine Array.toList_inj.mp ?_
    simp [Array.toList_append]
theorem op_repL {X : Cx} : OpR X (binaryOp .Mult) rRepL := by
  intro pins s σ H x y v u Q I rx ry h
  obtain ⟨c, k, rfl, rfl, hk, q⟩ := h
  obtain ⟨t, rfl⟩ := rx
  obtain ⟨t', rfl⟩ := ry
  have e63 : ((2 : Int) ^ 63) = 9223372036854775808 := by decide
  have es : sizeLine = 16777216 := by decide
  have one : (⟨#[c]⟩ : Str).length = 1 := rfl
  refine P.mul_str ?_ (fun h1 _ => ?_) (fun _ _ => ?_) ?_
  · rw [decide_eq_false (by omega), decide_eq_false (by omega)]
    rfl
  · rw [one]
    have : (1 : Int) ≤ (2 ^ 63 - 1) / (k : Int) := by
      rw [Int.le_ediv_iff_mul_le (by omega)]
      omega
    omega
  · rw [one, Int.toNat_natCast, Nat.one_mul]
    unfold Builtin.Str.tooLong
    exact decide_eq_false (by omega)
  · by_cases h0 : (k : Int) < 1
    · have hk0 : k = 0 := by omega
      subst hk0
      rw [if_pos h0]
      exact ⟨by decide, .str _, H, I.tok _, ⟨_, rfl⟩, q⟩
    · rw [if_neg h0]
      by_cases h1 : k = 1
      · subst h1
        rw [if_pos (by rfl : (((1 : Nat) : Int) == 1 || (⟨#[c]⟩ : Str).length == 0) = true)]
        exact ⟨.str _, H, I, ⟨_, rfl⟩, q⟩
      · have hb : ((k : Int) == 1 || (⟨#[c]⟩ : Str).length == 0) = false := by
          rw [one]
          have : ¬ (k : Int) = 1 := by omega
          simp [this]
        rw [hb, if_neg (by decide), Int.toNat_natCast, fold_rep]
        have ea : (#[] : Array Nat) ++ (List.replicate k c).toArray = (List.replicate k c).toArray := by simp
        rw [ea]
        exact ⟨by show (List.replicate k c).toArray.size ≤ sizeLine; rw [List.size_toArray, List.length_replicate]; omega, .str _, H, I.tok _, ⟨_, rfl⟩, q⟩
/-! ### rows and columns as words -/
/-- a of the letter x, then b of the letter y -/
def two (x a y b : Nat) : Str := (⟨(List.replicate a x).toArray⟩ : Str) ++ (⟨(List.replicate b y).toArray⟩ : Str)
theorem two_list (x a y b : Nat) : (two x a y b).cps.toList = List.replicate a x ++ List.replicate b y := by
  show ((List.replicate a x).toArray ++ (List.replicate b y).toArray).toList = _
  simp
theorem two_size (x a y b : Nat) : (two x a y b).cps.size = a + b := by
  rw [← Array.length_toList, two_list, List.length_append, List.length_replicate, List.length_replicate]
theorem two_ltr (x a y b i : Nat) (h : i < a + b) : ltr (two x a y b) i = if i < b then y else x := by
  unfold ltr
  rw [two_list, List.reverse_append, List.reverse_replicate, List.reverse_replicate]
  refine getD_of ?_
  by_cases q : i < b
  · rw [if_pos q, List.getElem?_append_left (by rw [List.length_replicate]; exact q), List.getElem?_replicate, if_pos q]
  · rw [if_neg q, List.getElem?_append_right (by rw [List.length_replicate]; omega), List.length_replicate, List.getElem?_replicate, if_pos (by omega)]
theorem two_wd {x a y b : Nat} (hx : 97 ≤ x ∧ x ≤ 122) (hy : 97 ≤ y ∧ y ≤ 122) (h1 : 1 ≤ a + b) (h2 : a + b ≤ 100) : Wd (two x a y b) := by
  refine ⟨by rw [two_size]; exact h1, by rw [two_size]; exact h2, fun c hc => ?_⟩
  rw [two_list] at hc
  rcases List.mem_append.mp hc with h | h
  · rw [List.eq_of_mem_replicate h]
    exact hx
  · rw [List.eq_of_mem_replicate h]
    exact hy
theorem two_perm (x a y b : Nat) : (two x a y b).cps.toList.Perm (two y b x a).cps.toList := by
  rw [two_list, two_list]
  exact List.perm_append_comm
section
variable {r c : Nat}
theorem bl_rows (r c : Nat) : BL (two 114 r 99 c) (List.range (r + c)) := by
  refine ⟨by rw [two_size], List.pairwise_lt_range.imp_of_mem fun {a b} ha hb h => ?_⟩
  have ha := List.mem_range.mp ha
  have hb := List.mem_range.mp hb
  rw [two_ltr _ _ _ _ _ ha, two_ltr _ _ _ _ _ hb]
  split <;> split <;> omega
theorem bl_cols (h1 : 1 ≤ r + c) (h2 : r + c ≤ 100) : BL (two 99 c 114 r) (tr (r + c) r) := by
  have pm := (tr_ok r h1 h2).perm
  rw [tr_len] at pm
  refine ⟨by rw [two_size, Nat.add_comm c r]; exact pm, ?_⟩
  unfold tr
  refine List.pairwise_map.mpr (List.pairwise_lt_range.imp_of_mem fun {a b} ha hb h => ?_)
  have ha := List.mem_range.mp ha
  have hb := List.mem_range.mp hb
  have md : ∀ i, i < r + c → (i + r) % (r + c) = if i < c then i + r else i - c := fun i hi => by
    split
    · exact Nat.mod_eq_of_lt (by omega)
    · rw [Nat.mod_eq_sub_mod (by omega), show i + r - (r + c) = i - c by omega, Nat.mod_eq_of_lt (by omega)]
  rw [md a ha, md b hb]
  by_cases qa : a < c <;> by_cases qb : b < c
  · rw [if_pos qa, if_pos qb, two_ltr _ _ _ _ _ (by omega), two_ltr _ _ _ _ _ (by omega), if_neg (by omega), if_neg (by omega)]
    omega
  · rw [if_pos qa, if_neg qb, two_ltr _ _ _ _ _ (by omega), two_ltr _ _ _ _ _ (by omega), if_neg (by omega), if_pos (by omega)]
    omega
  · omega
  · rw [if_neg qa, if_neg qb, two_ltr _ _ _ _ _ (by omega), two_ltr _ _ _ _ _ (by omega), if_pos (by omega), if_pos (by omega)]
    omega
theorem conv_rc (h1 : 1 ≤ r + c) (h2 : r + c ≤ 100) : Conv (two 114 r 99 c) (two 99 c 114 r) (tr (r + c) r) := by
  refine ⟨tr_ok r h1 h2, by rw [tr_len, two_size], _, _, bl_rows r c, bl_cols h1 h2, fun i b hi => ?_⟩
  have il := (List.getElem?_eq_some_iff.mp hi).1
  rw [List.length_range] at il
  rw [List.getElem?_range il] at hi
  cases hi
  rfl
end
theorem app_list (x y : Str) : (x ++ y).cps.toList = x.cps.toList ++ y.cps.toList := by
  show (x.cps ++ y.cps).toList = _
  exact Array.toList_append
/-- a text without its letter k -/
theorem cut_out {y : Str} {k : Nat} (h : k < y.cps.size) : (cutS y none (some (k : Int)) ++ cutS y (some ((k + 1 : Nat) : Int)) none).cps.toList = y.cps.toList.eraseIdx k := by
  have e : y.length = y.cps.toList.length := by rw [Array.length_toList]; rfl
  have hk : k < y.cps.toList.length := by rw [Array.length_toList]; exact h
  rw [app_list, List.eraseIdx_eq_take_drop_succ]
  unfold cutS
  rw [e]
  generalize y.cps.toList = l at hk
  simp only [HT.sIx_nat, HT.sIx_none]
  rw [Nat.min_eq_left (by omega), Nat.min_eq_left (by omega)]
  simp only [List.drop_zero, Nat.sub_zero]
  rw [List.take_of_length_le (l := l.drop (k + 1)) (i := l.length - (k + 1)) (by rw [List.length_drop]; exact Nat.le_refl _)]
theorem size_of_list {x : Str} {l : List Nat} (h : x.cps.toList = l) : x.cps.size = l.length := by rw [← h, Array.length_toList]
theorem g_m1 {r : V → List V → Hp → VK → Prop} {to te : TE} {σ : L2.St} {H : Hp} {Q : VK} (h : to σ H fun x H1 => (∃ a, x = .str a) ∧ te σ H1 fun y H2 => r x [y] H2 Q) : tM1 r to te σ H Q := h
/-- the first letters -/
theorem alpha_list (m : Nat) (h : m ≤ 26) : (cutS (Str.ofString "abcdefghijklmnopqrstuvwxyz") none (some (m : Int))).cps.toList = (List.range m).map fun i => 97 + i := by
  have e : (Str.ofString "abcdefghijklmnopqrstuvwxyz").cps.toList = (List.range 26).map fun i => 97 + i := by decide +kernel
  have l : (Str.ofString "abcdefghijklmnopqrstuvwxyz").length = 26 := by decide +kernel
  unfold cutS
  rw [e, l]
  simp only [HT.sIx_nat, HT.sIx_none]
  rw [Nat.min_eq_left h]
  simp only [List.drop_zero, Nat.sub_zero]
  rw [← List.map_take, List.take_range, Nat.min_eq_left h]
end G

/-! Errors as values: what stands of them in the heap, isinstance, their fields; a try whose caught error outlives its suite; defs that may raise beside what they promise without. -/
namespace G
open PySem PySem.Spec PyProof.Rows L2

/-! ### an error in the heap -/
/-- at a: an error of the class at C with the dict d -/
def ExA (H : Hp) (a C : Addr) (d : Option Addr) : Prop := ∃ φ : Heap → Prop, H a = some (.ext φ) ∧ ∀ h, φ h → ∃ (oe : Obj) (vs : Array Value), h.get? a = some oe ∧ Zc (.ref C) d oe ∧ oe.data = .fields vs
/-- its dict's fields -/
def ExD (H : Hp) (d : Addr) (fs : List (Str × V)) : Prop := H d = some (.xd fs) ∨ H d = some (exd d fs)
theorem ExA.ext {H H' : Hp} {a C : Addr} {d : Option Addr} (h : ExA H a C d) (e : Ext H H') : ExA H' a C d := h.elim fun φ z => ⟨φ, e _ _ z.1, z.2⟩
theorem ExD.ext {H H' : Hp} {d : Addr} {fs : List (Str × V)} (h : ExD H d fs) (e : Ext H H') : ExD H' d fs := h.elim (fun z => .inl (e _ _ z)) fun z => .inr (e _ _ z)
/-- a caught error -/
def Caught (C : Addr) (d : Option Addr) (a : Addr) : HO := .ext fun h => ∃ (oe : Obj) (vs : Array Value), h.get? a = some oe ∧ Zc (.ref C) d oe ∧ oe.data = .fields vs
theorem caught_exa {H : Hp} {a C : Addr} {d : Option Addr} (h : H a = some (Caught C d a)) : ExA H a C d := ⟨_, h, fun _ z => z⟩
theorem exO_exa {H : Hp} {a C : Addr} (h : H a = some (ExO (.ref C) a)) : ExA H a C none := ⟨_, h, fun _ z => by
  obtain ⟨oe, vs, e, q, r, _⟩ := z
  exact ⟨oe, vs, e, q, r⟩⟩
theorem exo_exa {H : Hp} {a C : Addr} {d : Option Addr} (h : H a = some (exo a C d)) : ExA H a C d := ⟨_, h, fun _ z => by
  obtain ⟨t1, e⟩ := z
  exact ⟨_, _, e, ⟨rfl, rfl⟩, rfl⟩⟩

/-! ### what the written part says of an error's class -/
structure ErrF (K : PySem.W.Frag) (C : Addr) (l : List Value) : Prop where
  cls : ∃ cd, PySem.W.clsIn K C = some cd ∧ cd.mro = l ∧ cd.hasDict = true
  ty : PySem.W.typeIn K (.ref C) = some (.type "type")
  kp : PySem.W.keepIn K (.ref C) = true
  ga : PySem.W.findIn K (.ref C) "__getattribute__" = some (some (.builtin "BaseException.__getattribute__"))
  gg : PySem.W.findIn K (.ref C) "__getattr__" = some none
  ca : PySem.W.findIn K (.ref C) "__class__" = some (some (.builtin "object.__class__"))
  hd : l.head? = some (.ref C)
  be : l.contains (.type "BaseException") = true
  ob : l.contains (.type "object") = true
section
variable {K : PySem.W.Frag} {C D : Addr} {l l' : List Value}
theorem ErrF.sub (F : ErrF K C l) (t : Value) : PySem.W.subIn K (.ref C) t = some (l.contains t) := by
  obtain ⟨cd, hc, hm, _⟩ := F.cls
  show PySem.W.mroIn K C t = _
  unfold PySem.W.mroIn
  rw [hc, Option.bind_some, hm]
  have ne : l.isEmpty = false := by
    have z := F.hd
    cases l with
    | nil => cases z
    | cons a r => rfl
  rw [ne]
  rfl
theorem ErrF.isC (F : ErrF K C l) : (PySem.W.clsIn K C).isSome = true := by
  obtain ⟨cd, hc, _⟩ := F.cls
  rw [hc]
  rfl
theorem ErrF.has (F : ErrF K C l) : PySem.W.hasDictIn K C = true := by
  obtain ⟨cd, hc, _, hd⟩ := F.cls
  unfold PySem.W.hasDictIn
  rw [hc]
  exact hd
theorem ErrF.kit (F : ErrF K C l) (G : ErrF K D l') : PySem.W.kitOne K (.ref C) (.ref D) = some (l.contains (.ref D)) := by
  unfold PySem.W.kitOne
  by_cases h : (Value.ref C == Value.ref D) = true
  · rw [if_pos h]
    have e := beq_iff_eq.mp h
    have z := F.hd
    rw [← e]
    cases l with
    | nil => cases z
    | cons a r =>
      cases z
      simp
  · rw [if_neg h]
    show (if ((PySem.W.clsIn K D).isSome && PySem.W.typeIn K (.ref D) == some (.type "type")) = true then PySem.W.subIn K (.ref C) (.ref D) else none) = _
    rw [G.isC, G.ty, if_pos (by rfl), F.sub]
theorem ErrF.kitVE (F : ErrF K C l) : PySem.W.kitOne K (.ref C) (.type "ValueError") = some (l.contains (.type "ValueError")) := by
  unfold PySem.W.kitOne
  rw [if_neg (by intro q; cases (beq_iff_eq.mp q))]
  show (if PySem.W.kitMeta "ValueError" = true then PySem.W.subIn K (.ref C) (.type "ValueError") else none) = _
  rw [if_pos (by decide +kernel), F.sub]
theorem ErrF.exm (F : ErrF K C l) (G : ErrF K D l') : PySem.W.exmOne K (.ref C) (.ref D) = some (l.contains (.ref D)) := by
  unfold PySem.W.exmOne
  rw [G.sub, G.be, if_pos (by rfl)]
  show (if ((PySem.W.clsIn K D).isSome && PySem.W.typeIn K (.ref D) == some (.type "type")) = true then PySem.W.subIn K (.ref C) (.ref D) else none) = _
  rw [G.isC, G.ty, if_pos (by rfl), F.sub]
theorem ErrF.raises {X : Cx} (F : ErrF X.K C l) : Raises X (.ref C) := raises_own (by rw [F.sub, F.be]) F.ty
end

/-- the errors of the package: those made of a text, those made of their field -/
abbrev plainErrs : List Str := ["InvalidTurn", "InvalidFlips", "InvalidBits", "InvalidPlace", "InvalidNumber", "InvalidPages", "InvalidWord", "InvalidBudget", "UnlikeBits", "UnlikeWords", "InvalidOperation", "Nothing", "InvalidCommand"]
abbrev fieldErrs : List (Str × Str) := [("InvalidTargets", "item"), ("InvalidPlaces", "item"), ("InvalidTurns", "item"), ("InvalidSeen", "item"), ("InvalidText", "part"), ("OverBudget", "total")]
abbrev allErrs : List Str := ["InvalidTargets", "InvalidPlaces", "InvalidTurns", "InvalidSeen", "InvalidText", "OverBudget", "InvalidTurn", "InvalidFlips", "InvalidBits", "InvalidPlace", "InvalidNumber", "InvalidPages", "InvalidWord", "InvalidBudget", "UnlikeBits", "UnlikeWords", "InvalidOperation", "Nothing", "InvalidCommand"]
/-- where the module's name x points -/
def ec (mg : Str → Option Value) (x : Str) : Addr := match mg x with
  | some (.ref a) => a
  | _ => 0
theorem ec_of {mg : Str → Option Value} {x : Str} {a : Addr} (h : mg x = some (.ref a)) : ec mg x = a := by
  unfold ec
  rw [h]
abbrev veT : List Value := [.type "ValueError", .type "Exception", .type "BaseException", .type "object"]
def mroT (mg : Str → Option Value) (x : Str) : List Value := .ref (ec mg x) :: .ref (ec mg "TurnError") :: veT
/-- what is known of all of them -/
structure ErrT (K : PySem.W.Frag) (mg : Str → Option Value) : Prop where
  cn : PySem.W.specialIn K (.builtin "object.__class__") "__get__" = some (some (.builtin "getset_descriptor.__get__"))
  ct : PySem.W.takesIn K (.builtin "object.__class__") = some true
  gT : mg "TurnError" = some (.ref (ec mg "TurnError"))
  te : ErrF K (ec mg "TurnError") (.ref (ec mg "TurnError") :: veT)
  g : ∀ x ∈ allErrs, mg x = some (.ref (ec mg x))
  f : ∀ x ∈ allErrs, ErrF K (ec mg x) (mroT mg x)
  nd : (ec mg "TurnError" :: allErrs.map (ec mg)).Nodup
  ex : ∀ x ∈ plainErrs, PySem.W.excIn K (ec mg x) veT "ValueError.__new__" = true
  exT : PySem.W.excIn K (ec mg "TurnError") veT "ValueError.__new__" = true
  no : ∀ p ∈ fieldErrs, PySem.W.findIn K (.ref (ec mg p.1)) p.2 = some none
theorem ErrT.neT {K : PySem.W.Frag} {mg : Str → Option Value} (T : ErrT K mg) {x : Str} (hx : x ∈ allErrs) : ec mg x ≠ ec mg "TurnError" := fun e => by
  have z := (List.nodup_cons.mp T.nd).1
  exact z (List.mem_map.mpr ⟨x, hx, e⟩)
theorem nodup_map_inj {α β : Type} {f : α → β} : ∀ {l : List α}, (l.map f).Nodup → ∀ {a b : α}, a ∈ l → b ∈ l → f a = f b → a = b
  | [], _, _, _, ha, _, _ => by cases ha
  | c :: l, h, a, b, ha, hb, e => by
    rw [List.map_cons, List.nodup_cons] at h
    rcases List.mem_cons.mp ha with rfl | ha'
    · rcases List.mem_cons.mp hb with rfl | hb'
      · rfl
      · exact absurd (List.mem_map.mpr ⟨b, hb', e.symm⟩) h.1
    · rcases List.mem_cons.mp hb with rfl | hb'
      · exact absurd (List.mem_map.mpr ⟨a, ha', e⟩) h.1
      · exact nodup_map_inj h.2 ha' hb' e
theorem ErrT.inj {K : PySem.W.Frag} {mg : Str → Option Value} (T : ErrT K mg) {x y : Str} (hx : x ∈ allErrs) (hy : y ∈ allErrs) (h : ec mg x = ec mg y) : x = y :=
  nodup_map_inj (List.nodup_cons.mp T.nd).2 hx hy h
theorem ErrT.kit {K : PySem.W.Frag} {mg : Str → Option Value} (T : ErrT K mg) {x y : Str} (hx : x ∈ allErrs) (hy : y ∈ allErrs) : PySem.W.kitOne K (.ref (ec mg x)) (.ref (ec mg y)) = some (decide (x = y)) := by
  rw [(T.f x hx).kit (T.f y hy)]
  congr 1
  unfold mroT
  by_cases h : x = y
  · subst h
    simp
  · have h1 : ¬ ec mg y = ec mg x := fun e => h (T.inj hx hy e.symm)
    have h2 : ¬ ec mg y = ec mg "TurnError" := T.neT hy
    simp [h, h1, h2]
theorem ErrT.kitT {K : PySem.W.Frag} {mg : Str → Option Value} (T : ErrT K mg) {x : Str} (hx : x ∈ allErrs) : PySem.W.kitOne K (.ref (ec mg x)) (.ref (ec mg "TurnError")) = some true := by
  rw [(T.f x hx).kit T.te]
  simp [mroT]
theorem ErrT.kitV {K : PySem.W.Frag} {mg : Str → Option Value} (T : ErrT K mg) {x : Str} (hx : x ∈ allErrs) : PySem.W.kitOne K (.ref (ec mg x)) (.type "ValueError") = some true := by
  rw [(T.f x hx).kitVE]
  simp [mroT]
theorem ErrT.exmT {K : PySem.W.Frag} {mg : Str → Option Value} (T : ErrT K mg) {x : Str} (hx : x ∈ allErrs) : PySem.W.exmOne K (.ref (ec mg x)) (.ref (ec mg "TurnError")) = some true := by
  rw [(T.f x hx).exm T.te]
  simp [mroT]
theorem ErrT.kitB {K : PySem.W.Frag} {mg : Str → Option Value} (T : ErrT K mg) {y : Str} (hy : y ∈ allErrs) : PySem.W.kitOne K (.ref (ec mg "TurnError")) (.ref (ec mg y)) = some false := by
  rw [T.te.kit (T.f y hy)]
  have h2 : ¬ ec mg y = ec mg "TurnError" := T.neT hy
  simp [h2]
theorem ErrT.kitBV {K : PySem.W.Frag} {mg : Str → Option Value} (T : ErrT K mg) : PySem.W.kitOne K (.ref (ec mg "TurnError")) (.type "ValueError") = some true := by
  rw [T.te.kitVE]
  simp

/-! ### isinstance, the fields -/
section
variable {X : Cx} {pins : List (Addr × Obj)} {σ : L2.St} {H : Hp} {s : Shared}
theorem exa_at {a C : Addr} (I : Inv X pins σ H s) (h : ExA H a C none) : ∃ oe, PySem.W.InstAt s.heap a oe C none := by
  obtain ⟨φ, e, k⟩ := h
  obtain ⟨p, _⟩ := (show ObjOk X.prog X.w H s.heap a (.ext φ) from I.hok a _ e)
  obtain ⟨oe, vs, g, z, d⟩ := k _ p
  exact ⟨oe, g, z.1, by unfold PySem.W.notCls; rw [d] <;> rfl, by rw [z.2]; trivial⟩
theorem exd_get {d : Addr} {fs : List (Str × V)} (I : Inv X pins σ H s) (h : ExD H d fs) : ∃ (od : Obj) (mA : Str → Option Value), s.heap.get? d = some od ∧ (∀ n, PySem.W.lookIn n od = some (mA n)) ∧ ∀ f, RelO (fs.lookup f) (mA f) := by
  rcases h with h | h
  · obtain ⟨mA, hns, hr⟩ := (show ObjOk X.prog X.w H s.heap d (.xd fs) from I.hok d _ h)
    obtain ⟨od, ho, hl⟩ := lookIn_ns hns
    exact ⟨od, mA, ho, hl, hr⟩
  · obtain ⟨mA, hns, hr⟩ := exd_at I.hok h
    obtain ⟨od, ho, hl⟩ := lookIn_ns hns
    exact ⟨od, mA, ho, hl, hr⟩
theorem exa_atD {a C d : Addr} {fs : List (Str × V)} (I : Inv X pins σ H s) (h : ExA H a C (some d)) (hd : ExD H d fs) :
    ∃ (oe od : Obj) (mA : Str → Option Value), PySem.W.InstAt s.heap a oe C (some od) ∧ (∀ n, PySem.W.lookIn n od = some (mA n)) ∧ ∀ f, RelO (fs.lookup f) (mA f) := by
  obtain ⟨φ, e, k⟩ := h
  obtain ⟨p, _⟩ := (show ObjOk X.prog X.w H s.heap a (.ext φ) from I.hok a _ e)
  obtain ⟨oe, vs, g, z, dd⟩ := k _ p
  obtain ⟨od, mA, ho, hl, hr⟩ := exd_get I hd
  exact ⟨oe, od, mA, ⟨g, z.1, by unfold PySem.W.notCls; rw [dd] <;> rfl, by rw [z.2]; exact ho⟩, hl, hr⟩
end
/-- an error with its dict, if it has one -/
def ExI (H : Hp) (a C : Addr) (fs : List (Str × V)) : Prop := (fs = [] ∧ ExA H a C none) ∨ ∃ d, ExA H a C (some d) ∧ ExD H d fs
theorem ExI.ext {H H' : Hp} {a C : Addr} {fs : List (Str × V)} (h : ExI H a C fs) (e : Ext H H') : ExI H' a C fs :=
  h.elim (fun z => .inl ⟨z.1, z.2.ext e⟩) fun z => z.elim fun d q => .inr ⟨d, q.1.ext e, q.2.ext e⟩
theorem ExI.at {X : Cx} {pins : List (Addr × Obj)} {σ : L2.St} {H : Hp} {s : Shared} {a C : Addr} {fs : List (Str × V)} (I : Inv X pins σ H s) (h : ExI H a C fs) : ∃ oe od, PySem.W.InstAt s.heap a oe C od := by
  rcases h with ⟨_, h⟩ | ⟨d, h, q⟩
  · exact (exa_at I h).elim fun oe z => ⟨oe, none, z⟩
  · obtain ⟨oe, od, mA, z, _⟩ := exa_atD I h q
    exact ⟨oe, _, z⟩
/-- isinstance(e, c), e an error -/
def rIsX (K : PySem.W.Frag) : List V → Hp → VK → Prop := fun xs H Q => ∃ (a C : Addr) (fs : List (Str × V)) (l : List Value) (c : V) (u : Value) (b : Bool), xs = [.ref a, c] ∧ ClsV c u ∧ ExI H a C fs ∧ ErrF K C l ∧
  PySem.W.specialIn K (.builtin "object.__class__") "__get__" = some (some (.builtin "getset_descriptor.__get__")) ∧ PySem.W.takesIn K (.builtin "object.__class__") = some true ∧ PySem.W.kitOne K (.ref C) u = some b ∧ Q (.bl b) H
section
variable {X : Cx} {K0 : PySem.W.Frag}
theorem call_isX0 : CallR X (.builtin "isinstance") (rIsX X.K) := by
  intro pins s σ H xs us Q I r h
  obtain ⟨a, C, fs, l, c, u, b, rfl, k, hx, F, cn, ct, e, q⟩ := h
  obtain ⟨u1, u2, rfl, r1, r2⟩ := vals2 r
  have e2 := k.eq r2
  subst e2
  cases (show u1 = Value.ref a from r1)
  obtain ⟨oe, od, J⟩ := hx.at I
  exact PySem.W.kia_one (PySem.W.kitx_exc F.isC F.ga F.gg (by rw [F.sub, F.be]) F.ca cn ct (by have z := F.sub (.type "object"); rw [F.ob] at z; exact z)) I.kIn J e (fun z => nomatch z) fun tk => ⟨.bl b, H, I.tok tk, rfl, q⟩
theorem call_isXK (hK : X.K = K0 := by rfl) : CallR X (.builtin "isinstance") (rIsX K0) := hK ▸ call_isX0
/-- e.f, e an error with the field f -/
def tErrF (K : PySem.W.Frag) (ta : TE) (f : Str) : TE := fun σ H Q => ta σ H fun x H1 => ∃ (a C d : Addr) (fs : List (Str × V)) (l : List Value) (v : V), x = .ref a ∧ ExA H1 a C (some d) ∧ ExD H1 d fs ∧ ErrF K C l ∧ PySem.W.findIn K (.ref C) f = some none ∧ fs.lookup f = some v ∧ Q v H1
theorem pe_errF0 {e : Expr} {f : Str} {ta : TE} {pos : Pos} (he : PE X e ta) (hb : attributeBase e f X.env (eval e X.env) = eval e X.env := by rfl) : PE X (.Attribute e f pos) (tErrF X.K ta f) := by
  refine ⟨fun pins s σ H Q I h => attr_of hb (thn (he.run pins s σ H _ I h) fun u s1 hh => ?_)⟩
  obtain ⟨x, H1, I1, rx, a, C, d, fs, l, v, rfl, ha, hd, F, hn, hv, q⟩ := hh
  obtain rfl : u = Value.ref a := rx
  obtain ⟨oe, od, mA, J, hl, hr⟩ := exa_atD I1 ha hd
  obtain ⟨w, hw, rw'⟩ := RelO.some_of (v := v) (o := mA f) (by rw [← hv]; exact hr f)
  exact HandSPX.exc_get I1.kIn J F.ga F.gg (by rw [F.sub, F.be]) (PySem.W.findObj_own F.has hn rfl (by rw [hl, hw])) (handed_of rw') ⟨v, H1, I1.tok _, rw', q⟩
theorem pe_errF {e : Expr} {f : Str} {ta : TE} {pos : Pos} (he : PE X e ta) (hb : attributeBase e f X.env (eval e X.env) = eval e X.env := by rfl) (hK : X.K = K0 := by rfl) : PE X (.Attribute e f pos) (tErrF K0 ta f) := hK ▸ pe_errF0 he hb
end

/-! ### a try whose caught error outlives its suite -/
/-- what stands in the heap, new since the entry, is tracked from now on -/
theorem track {X : Cx} {pins : List (Addr × Obj)} {σ : L2.St} {H : Hp} {s : Shared} {a : Addr} {o : HO} (I : Inv X pins σ H s) (hn : H a = none) (h0 : X.s_0.heap.get? a = none) (nL : a ≠ X.env.locals)
    (nc : ∀ x c, X.env.cells.lookup x = some c → c ≠ a) (np : ∀ p ∈ X.pn ++ pins, p.1 ≠ a) (new : ObjOk X.prog X.w (upd H a o) s.heap a o) : Inv X pins σ (upd H a o) s := by
  have go : ∀ {b : Addr} {u : HO}, H b = some u → upd H a o b = some u := fun {b u} q => by rw [upd_ne (ne_of_none q hn)]; exact q
  refine ⟨I.ok, I.os, I.bare, ⟨I.base.keep, I.base.slot, fun b u q n hx => ?_, I.base.there, fun b xs q => go (I.base.tups b xs q), fun b u xs q => go (I.base.frzs b u xs q), fun b ps q => ?_⟩, I.loc, I.cell, ?_, fun x c e => ?_, fun p hp => ?_, ?_, I.len⟩
  · rw [upd_ne (fun z => by rw [z, h0] at q; cases q)]
    exact I.base.free b u q n hx
  · obtain ⟨m, z⟩ := I.base.tbls b ps q
    exact ⟨m, go z⟩
  · rw [upd_ne (Ne.symm nL)]; exact I.free
  · rw [upd_ne (nc x c e)]; exact I.freeC x c e
  · obtain ⟨g, n, l, f, d⟩ := I.pin p hp
    exact ⟨g, by rw [upd_ne (np p hp)]; exact n, l, f, d⟩
  · exact I.hok.laidN (fun _ _ z => z) hn new
/-- what a body's error must be: one that the clause catches; behind the suite it stands as a caught one -/
def wKeep (K : PySem.W.Frag) (c : Value) (i : Nat) (ts : Addr → Value → Option Addr → TS) (D : Ends) : WX := fun cls d σ H =>
  ∃ C : Addr, cls = .ref C ∧ PySem.W.exmOne K cls c = some true ∧ ∀ a, H a = none →
    ts a cls d { nx := fun σ' H' => H' a = none → D.nx (σ'.set i none) (upd H' a (Caught C d a)), rt := fun _ _ => False, bk := fun _ _ => False, ct := fun _ _ => False } (σ.set i (some (.ref a))) H
section
variable {X : Cx} {x n : Str} {c : Value} {i : Nat} {body suite : List Stmt} {b₀ : Stmt} {np pos pos' : Pos} {tb : WX → TS} {ts : Addr → Value → Option Addr → TS}
theorem ps_try_keep (hs : X.stack = X.env :: X.outer) (hf : X.env.frame = some X.env.locals) (hex : X.ex = []) (nd : X.N.Nodup) (hi : X.N[i]? = some n) (kl : X.env.kindOf n = some .local) (nm : Names X x c)
    (hb : ∀ (W : WX) (pn : List (Addr × Obj)) (xe : Value → Shared → Prop), Takes (X.tr pn xe) W → PassesOwn (model X.prog X.w) X.A X.env xe → PSs (X.tr pn xe) body (tb W))
    (hu : ∀ (a : Addr) (oe : Obj) (cls : Value) (d : Option Addr) (pn : List (Addr × Obj)), Zc cls d oe → (∃ vs, oe.data = .fields vs) → PSs (X.suite a ((a, oe) :: pn)) (b₀ :: suite) (ts a cls d)) :
    PS X (.Try body [.ExceptHandler (some (.Name x np)) (some n) (b₀ :: suite) pos'] [] [] pos) (fun D σ H => tb (wKeep X.K c i ts D) D σ H) := by
  refine ⟨fun pins s σ H D I h => wpAny_Try_except (wpAny_mono (Q := SP (X.tr (X.pn ++ pins) _) [] D) ((hb (wKeep X.K c i ts D) (X.pn ++ pins) (fun e s₁ => wpAny (model X.prog X.w) X.A (noteFrame e X.env)
    (fun _ s₂ => wpAny (model X.prog X.w) X.A (setFlight e none) (fun _ s₃ => wpAny (model X.prog X.w) X.A (handleBy e X.env [.ExceptHandler (some (.Name x np)) (some n) (b₀ :: suite) pos']) (SP X pins D) X.xe s₃) X.xe s₂) X.xe s₁)
    (fun u s' hx => ?caught) PassesOwn.looking).run [] s σ H D (I.toTry _) h) (fun f s1 hsp => ?through) fun e s1 he => he)⟩
  case through =>
    have ok := I.ok
    cases f with
    | next => exact hsp.elim fun σ' z => z.elim fun H' y => wpAny_execs_nil ⟨σ', H', y.1.ofTry ok, y.2⟩
    | brk => exact hsp.elim fun σ' z => z.elim fun H' y => ⟨σ', H', y.1.ofTry ok, y.2⟩
    | cont => exact hsp.elim fun σ' z => z.elim fun H' y => ⟨σ', H', y.1.ofTry ok, y.2⟩
    | ret u => exact hsp.elim fun v w => w.elim fun σ' z => z.elim fun H' y => ⟨v, σ', H', y.1.ofTry ok, y.2.1, y.2.2⟩
  case caught =>
    have ok := I.ok
    have fr : X.A.frames = some (X.env :: X.outer) := by rw [ok.frames, hs]
    obtain ⟨a, B, sI, pins', σ', H', cls, d, rfl, J0, nb, up, sky, na, os, ag, C, rfl, hm, hyes⟩ := hx
    have J : Inv X pins σ' H' sI := J0.ofTry ok
    have sky1 : Sky B (X.env :: X.outer) a (Zc (.ref C) d) X.env.locals s'.heap := by rw [← hs]; exact sky
    show wpAny (model X.prog X.w) X.A (noteFrame (.ref a) X.env) _ _ _
    refine Sky.land Zc.steady fr hf sky1 fun h3 fl3 up3 => ?_
    have J3 : Inv X pins σ' H' { s' with heap := h3 } := J.landed nb fl3.1 (up.trans up3) os ag
    have eB : B.get? a = none := fl3.2.1
    obtain ⟨oe3, vs3, he3, hz3, hd3⟩ := fl3.there
    have nfr : a ∉ frs (X.env :: X.outer) := fun hmm => by
      obtain ⟨_, o', e', hnf⟩ := fl3.2.2.1.mem hmm
      rw [he3] at e'
      cases e'
      exact hnf _ hd3
    have nfs : a ∉ frs X.stack := by rw [hs]; exact nfr
    have nL : a ≠ X.env.locals := fun z => nfr (List.mem_filterMap.mpr ⟨X.env, List.mem_cons_self, by rw [hf, z]⟩)
    have nF : a ∉ X.fs := fun hmm => (List.mem_filterMap.mp hmm).elim fun e q => nfr (List.mem_filterMap.mpr ⟨e, List.mem_cons_of_mem _ q.1, q.2⟩)
    have nI : sI.heap.get? a = none := by
      cases q : sI.heap.get? a with
      | none => rfl
      | some o =>
        have z := nb a o q nfs
        rw [eB] at z
        cases z
    have n0 : X.s_0.heap.get? a = none := by
      cases q : X.s_0.heap.get? a with
      | none => rfl
      | some o =>
        obtain ⟨o', z⟩ := J.base.there a o q (by rw [hex]; exact fun y => nomatch y)
        rw [nI] at z
        cases z
    have npin : ∀ p ∈ X.pn ++ pins, p.1 ≠ a := fun p hp z => by
      have y := (J.pin p hp).1
      rw [z, nI] at y
      cases y
    have S3 := J3.suite he3 hd3 na nL nF
    refine wpAny_handleBy_cons (codeAny_handlers_test ?_) (by intro q; cases q)
    have LT : PySem.W.Looks (model X.prog X.w) h3 (typeOf (.ref a)) (.ref C) := fun A Q E s k q => wpAny_typeOf_ref (k _ _ he3) (by rw [hz3.1]; exact q)
    have LM := PySem.W.exm_one (M := model X.prog X.w) (J3.kIn) LT hm
    have look : ∀ {Q : Value → Shared → Prop} {E : Value → Shared → Prop}, Q c { s' with heap := h3 } → wpAny (model X.prog X.w) (X.A.mark (some (.ref a))) (eval (.Name x np) X.env) Q E { s' with heap := h3 } := fun {Q E} q => by
      obtain ⟨hg, hdb, hw | ⟨hw, hv, hnn⟩⟩ := nm
      · exact ld_glob (X := X.suite a ((a, oe3) :: (X.pn ++ pins))) S3 hg hw q hdb
      · exact ld_blt (X := X.suite a ((a, oe3) :: (X.pn ++ pins))) S3 hg hw hv q hnn hdb
    refine look (LM.here (codeAny_handlers_suite_as (HandSPX.lands_againZ fl3 fun h4 fl4 up4 => ?_)))
    have J4 : Inv X pins σ' H' { s' with heap := h4 } := J.landed nb fl4.1 ((up.trans up3).trans up4) os ag
    obtain ⟨oe4, vs4, he4, hz4, hd4⟩ := fl4.there
    refine store_ok (X := X.suite a ((a, oe4) :: (X.pn ++ pins))) (v := .ref a) (J4.suite he4 hd4 na nL nF) nd hi (.inl kl) rfl (fun s5 S5 => ?_) (.inr kl)
    refine wpAny_mono ((hu a oe4 (.ref C) d (X.pn ++ pins) hz4 ⟨_, hd4⟩).run [] s5 _ H' _ S5 (hyes a na)) (fun f s6 hsp => ?_) fun _ _ z => False.elim z
    cases f with
    | brk => exact hsp.elim fun _ z => z.elim fun _ y => False.elim y.2
    | cont => exact hsp.elim fun _ z => z.elim fun _ y => False.elim y.2
    | ret u => exact hsp.elim fun _ w => w.elim fun _ z => z.elim fun _ y => False.elim y.2.2
    | next =>
      obtain ⟨σ6, H6, S6, q6⟩ := hsp
      refine gone_ok (X := X.suite a ((a, oe4) :: (X.pn ++ pins))) S6 nd hi kl fun s7 S7 => ?_
      obtain ⟨g7, n7, _, _, c7⟩ := S7.pin (a, oe4) (List.mem_append.mpr (.inl List.mem_cons_self))
      have K7 : Inv X pins (σ6.set i none) H6 s7 := S7.unsuite ok
      refine ⟨_, _, track (o := Caught C d a) K7 n7 n0 nL (fun y e he z => ?_) npin ⟨⟨oe4, vs4, g7, hz4, hd4⟩, ⟨oe4, g7⟩, fun _ _ ⟨o, v, q, r⟩ k => ⟨o, v, k o q, r⟩⟩, q6 n7⟩
      obtain ⟨v, o, ho, hdo⟩ := K7.cell y e he
      rw [z, g7] at ho
      cases ho
      exact c7 v hdo
end

/-! ### defs that may raise -/
/-- a block that is never reached -/
theorem pss_any {X : Cx} {b : List Stmt} : PSs X b (fun _ _ _ => False) := ⟨fun _ _ _ _ _ _ h => h.elim⟩
/-- what a def promises without an error it promises also where one may leave it -/
theorem fnOk_or {P : Program} {w : World} {K : PySem.W.Frag} {mg : Str → Option Value} {base : Heap} {CX : CXT} {k : Nat} {f : Addr} {fd : FuncData} {ps : List Str} {sp sp' : Sp} (F : FnOk P w K mg base CX0 k f fd ps sp) (F' : FnOk P w K mg base CX k f fd ps sp') :
    FnOk P w K mg base CX k f fd ps (fun vs H Q E => sp vs H Q E ∨ sp' vs H Q E) :=
  ⟨fun vs H Q E h => h.elim (F.len vs H Q E) (F'.len vs H Q E), fun A outer s H args us vs Q E hr e0 hb r h => by
    rcases h with h | h
    · refine codeAny_mono (F.run A outer s H args us vs Q E hr e0 hb r h) fun r s' q => ?_
      cases r with
      | error e => exact False.elim q
      | ok fl =>
        cases fl with
        | ret u => exact q
        | next => exact q
        | brk => exact q
        | cont => exact q
    · exact F'.run A outer s H args us vs Q E hr e0 hb r h⟩
/-- the module's name x holds a def that keeps sp; errors leave it as sp says -/
structure CalX (P : Program) (w : World) (K : PySem.W.Frag) (mg : Str → Option Value) (base : Heap) (x : Str) (k : Nat) (sp : Sp) : Prop where
  ex : ∃ (f : Addr) (fd : FuncData) (ps : List Str), FnOk P w K mg base (L2.CX P w) k f fd ps sp ∧ mg x = some (.ref f) ∧ PySem.W.keepIn K (.ref f) = true ∧ Binds K fd ps []
section
variable {X : Cx} {k j : Nat} {sp : Sp} {W : WX} {x : Str} {p pos : Pos} {e : Expr} {es : List Expr} {t : TA}
theorem pe_x (tk : Takes X W) (c : CalX X.prog X.w X.K X.mg X.base x k sp) (hr : Room j X.A) (hk : k ≤ j) (hg : Gl X x) (ha : PA X (e :: es) t)
    (hdb : (x == ("__debug__" : Str)) = false := by decide) (he : starEach (e :: es) X.env = (false, eval e X.env) :: starEach es X.env := by rfl) (hpl : (backTo pos (starEach es X.env)).any (·.1) = false := by rfl) :
    PE X (.Call (.Name x p) (e :: es) [] pos) (tCallS sp (WE W) t) := by
  obtain ⟨f, fd, ps, F, hm, hkp, hb⟩ := c.ex
  exact pe_callS F (hr.mono hk) hg hm hkp hb (fun σ => passAt tk σ) ha hdb he hpl
end

/-! ### errors made -/
/-- an error's own __init__: the field is set -/
abbrev sp_Err_init (K : PySem.W.Frag) (f : Str) : Sp := sp2 fun self v H Q => ∃ a C : Addr, self = .ref a ∧ H a = some (exo a C none) ∧ OexC K C ∧ PySem.W.findIn K (.ref C) f = some none ∧
  ∀ dx, H dx = none → dx ≠ a → Q .non (upd (upd H dx (exd dx [(f, v)])) a (exo a C (some dx)))
/-- the classes with an own __init__, that promise, at most at level 1 -/
structure ErrI (P : Program) (w : World) (K : PySem.W.Frag) (mg : Str → Option Value) (base : Heap) : Prop where
  oex : ∀ p ∈ fieldErrs, OexC K (ec mg p.1)
  no : ∀ p ∈ fieldErrs, PySem.W.findIn K (.ref (ec mg p.1)) p.2 = some none
  ini : ∀ p ∈ fieldErrs, ∃ (fI : Addr) (fd : FuncData) (ps : List Str), PySem.W.findIn K (.ref (ec mg p.1)) "__init__" = some (some (.ref fI)) ∧ PySem.W.typeIn K (.ref fI) = some (.type "function") ∧
    FnOk P w K mg base CX0 1 fI fd ps (sp_Err_init K p.2) ∧ Binds K fd ps []
theorem upd2_del {H : Hp} {a dx : Addr} {o o' u : HO} (hd : dx ≠ a) (ha : H a = none) : upd (del (upd (upd H dx o) a o') a) dx u = upd H dx u := by
  funext b
  by_cases h : b = dx
  · rw [h, upd_same, upd_same]
  · rw [upd_ne h, upd_ne h]
    by_cases k : b = a
    · rw [k, del_same, ha]
    · rw [del_ne k, upd_ne k, upd_ne h]
section
variable {X : Cx} {K0 : PySem.W.Frag} {m0 : Str → Option Value} {j : Nat} {x f : Str} {p pos p2 : Pos} {e : Expr} {te : TE} {W : WX}
/-- raise C(e), C an error with a field -/
def tErrR (K : PySem.W.Frag) (mg : Str → Option Value) (x f : Str) (W : WX) (te : TE) : TS := fun _ σ H => tMkO (ec mg x) (sp_Err_init K f) [] (tCons te tNil) σ H fun cls d H' => W cls d σ H'
theorem ps_errR (T : ErrT X.K X.mg) (I : ErrI X.prog X.w X.K X.mg X.base) (hx : (x, f) ∈ fieldErrs) (hx2 : x ∈ allErrs) (hc : X.calm = true) (tk : Takes X W) (hr : Room j X.A) (hj : 2 ≤ j) (hg : Gl X x) (he : PE X e te)
    (hdb : (x == ("__debug__" : Str)) = false := by decide) (hs : starEach [e] X.env = (false, eval e X.env) :: starEach [] X.env := by rfl) (hpl : (backTo pos (starEach [] X.env)).any (·.1) = false := by rfl) :
    PS X (.Raise (some (.Call (.Name x p) [e] [] pos)) none p2) (tErrR X.K X.mg x f W te) := by
  obtain ⟨fI, fd, ps, iC, tI, F, B⟩ := I.ini _ hx
  exact ps_raise hc tk (pmk_oex (I.oex _ hx) iC tI F (hr.mono hj) B .nil pass0 hg (T.g x hx2) (pa_cons he pa_nil hs) hdb hs hpl)
theorem ps_errRK (T : ErrT X.K X.mg) (I : ErrI X.prog X.w X.K X.mg X.base) (hx : (x, f) ∈ fieldErrs) (hx2 : x ∈ allErrs) (hc : X.calm = true) (tk : Takes X W) (hr : Room j X.A) (hj : 2 ≤ j) (hg : Gl X x) (he : PE X e te)
    (hdb : (x == ("__debug__" : Str)) = false := by decide) (hs : starEach [e] X.env = (false, eval e X.env) :: starEach [] X.env := by rfl) (hpl : (backTo pos (starEach [] X.env)).any (·.1) = false := by rfl) (hK : X.K = K0 := by rfl) (hM : X.mg = m0 := by rfl) :
    PS X (.Raise (some (.Call (.Name x p) [e] [] pos)) none p2) (tErrR K0 m0 x f W te) := hM ▸ hK ▸ ps_errR T I hx hx2 hc tk hr hj hg he hdb hs hpl
/-- raise C('..'), C an error without a field -/
def tErrT (C : Addr) (W : WX) : TS := fun _ σ H => W (.ref C) none σ H
theorem ps_errT {m : Str} {i : Nat} {p3 : Pos} (T : ErrT X.K X.mg) (hx : x ∈ plainErrs) (hx2 : x ∈ allErrs) (hc : X.calm = true) (tk : Takes X W) (hg : Gl X x) (hdb : (x == ("__debug__" : Str)) = false := by decide) :
    PS X (.Raise (some (.Call (.Name x p) [.Constant (.str m) i p3] [] pos)) none p2) (tErrT (ec X.mg x) W) :=
  ps_raise hc tk (pmk_own PySem.F.excBase_ValueError (T.ex x hx) (T.g x hx2) (T.f x hx2).kp (T.f x hx2).raises hg hdb)
/-- C(e) as a value, C an error with a field -/
def tErrV (K : PySem.W.Frag) (mg : Str → Option Value) (x f : Str) (te : TE) : TE := fun σ H Q => te σ H fun v H1 => ∀ a, H1 a = none → sp_Err_init K f [.ref a, v] (upd H1 a (exo a (ec mg x) none)) (fun z H2 => z = .non ∧ Q (.ref a) H2) E0
theorem pe_errV0 (T : ErrT X.K X.mg) (I : ErrI X.prog X.w X.K X.mg X.base) (hx : (x, f) ∈ fieldErrs) (hx2 : x ∈ allErrs) (hr : Room j X.A) (hj : 2 ≤ j) (hg : Gl X x) (he : PE X e te)
    (hdb : (x == ("__debug__" : Str)) = false := by decide) (hs : starEach [e] X.env = (false, eval e X.env) :: starEach [] X.env := by rfl) (hpl : (backTo pos (starEach [] X.env)).any (·.1) = false := by rfl) :
    PE X (.Call (.Name x p) [e] [] pos) (tErrV X.K X.mg x f te) := by
  obtain ⟨fI, fd, ps, iC, tI, F, B⟩ := I.ini _ hx
  have O := I.oex _ hx
  obtain ⟨nm, qn, N, bs, bm, sn, sub, ab, col, dd, k0, k1, k2, k3, k5, hC, hbm⟩ := O.cls
  refine ⟨fun pins s σ H Q J h => wpAny_Call_Name_kw (ld_glob J hg (T.g x hx2) ?_ hdb)⟩
  refine PySem.W.callWith_K (h₀ := X.base) J.ok.mod.kin O.kC (thn ((pa_cons he pa_nil hs).run pos pins s σ H (fun vs H1 => ∃ v, vs = [v] ∧ ∀ a, H1 a = none → sp_Err_init X.K f [.ref a, v] (upd H1 a (exo a (ec X.mg x) none)) (fun z H2 => z = .non ∧ Q (.ref a) H2) E0) J ?_) fun us s1 hh => ?_) hs hpl
  · show te σ H fun v H1 => ∃ v', [v] = [v'] ∧ _
    have eq : (fun v H1 => ∀ a, H1 a = none → sp_Err_init X.K f [.ref a, v] (upd H1 a (exo a (ec X.mg x) none)) (fun z H2 => z = .non ∧ Q (.ref a) H2) E0) = fun (v : V) (H1 : Hp) => ∃ v', [v] = [v'] ∧ ∀ a, H1 a = none → sp_Err_init X.K f [.ref a, v'] (upd H1 a (exo a (ec X.mg x) none)) (fun z H2 => z = .non ∧ Q (.ref a) H2) E0 := by
      funext v H1
      exact propext ⟨fun z => ⟨v, rfl, z⟩, fun ⟨v', e', z⟩ => by cases e'; exact z⟩
    rw [← eq]
    exact h
  · obtain ⟨vs, H1, J1, r1, v, rfl, q1⟩ := hh
    refine ⟨J1.kIn, ?_⟩
    show wpAny _ _ (call (.ref (ec X.mg x)) us) _ _ _
    obtain ⟨hp, g, dr, tk, os⟩ := s1
    have big : hp.objs.size ≤ hp.objs.size + 1 := Nat.le_succ _
    have fresh : H1 (hp.objs.size + 1) = none := J1.hok.fresh big
    have at_ : ((hp.push (PySem.W.kdv_tup us)).push (PySem.HandSPX.excO (ec X.mg x) hp.objs.size)).get? (hp.objs.size + 1) = some (PySem.HandSPX.excO (ec X.mg x) hp.objs.size) := by heap_get
    have J2 : Inv X pins σ (upd H1 (hp.objs.size + 1) (exo (hp.objs.size + 1) (ec X.mg x) none)) ⟨(hp.push (PySem.W.kdv_tup us)).push (PySem.HandSPX.excO (ec X.mg x) hp.objs.size), g, dr, tk, os⟩ :=
      J1.laid (t' := tk) (a := hp.objs.size + 1) (o := exo (hp.objs.size + 1) (ec X.mg x) none) (h' := (hp.push (PySem.W.kdv_tup us)).push (PySem.HandSPX.excO (ec X.mg x) hp.objs.size)) (fun b o e => Heap.get?_push_of_some _ (Heap.get?_push_of_some _ e)) big (exo_ok at_)
    have q2 := q1 (hp.objs.size + 1) fresh
    have r2 : Vals [V.ref (hp.objs.size + 1), v] (Value.ref (hp.objs.size + 1) :: us) := .cons rfl r1
    have len2 : (Value.ref (hp.objs.size + 1) :: us ++ []).length = ps.length := by
      rw [List.append_nil, ← r2.length]
      exact F.len _ _ _ _ q2
    have few : us.length ≤ sizeLine := by
      rw [← Paired.length r1, sizeLine_eq]
      show 1 ≤ 16777216
      decide
    have bi := B _ (Value.ref (hp.objs.size + 1) :: us) J2.kIn len2
    rw [List.append_nil] at bi
    refine wpAny_call (PySem.HandSPX.call_own PySem.F.excBase_ValueError (fun Y => PySem.HandSPX.refsVE_contains Y bm hbm) (J1.kIn _ _ hC) (PySem.W.looks_findIn J1.kIn iC) (fun self => PySem.W.bind_fn J1.kIn self tI) few
      (codeAny_mono (F.run _ X.stack _ _ ⟨Value.ref (hp.objs.size + 1) :: us, []⟩ (Value.ref (hp.objs.size + 1) :: us) _ _ E0 ((hr.mono hj).make (ec X.mg x) us []) (J2.env0.make (ec X.mg x) us []) bi r2 q2) fun r s' hq' => ?_))
    match r, hq' with
    | .error er, hq' => exact hq'.elim
    | .ok (.ret u), hq' =>
      obtain ⟨v', H', J3, rv, ev, q3⟩ := J2.after hq'
      subst ev
      exact ⟨rv, .ref (hp.objs.size + 1), H', J3, rfl, q3⟩
theorem pe_errV (T : ErrT X.K X.mg) (I : ErrI X.prog X.w X.K X.mg X.base) (hx : (x, f) ∈ fieldErrs) (hx2 : x ∈ allErrs) (hr : Room j X.A) (hj : 2 ≤ j) (hg : Gl X x) (he : PE X e te)
    (hdb : (x == ("__debug__" : Str)) = false := by decide) (hs : starEach [e] X.env = (false, eval e X.env) :: starEach [] X.env := by rfl) (hpl : (backTo pos (starEach [] X.env)).any (·.1) = false := by rfl) (hK : X.K = K0 := by rfl) (hM : X.mg = m0 := by rfl) :
    PE X (.Call (.Name x p) [e] [] pos) (tErrV K0 m0 x f te) := hM ▸ hK ▸ pe_errV0 T I hx hx2 hr hj hg he hdb hs hpl
/-- C('..') as a value, C an error without a field (or TurnError itself) -/
def tErrS (C : Addr) : TE := fun _ H Q => ∀ a, H a = none → Q (.ref a) (upd H a (ExO (.ref C) a))
theorem pe_errS {C : Addr} {m : Str} {i : Nat} {p3 : Pos} (hq : PySem.W.excIn X.K C veT "ValueError.__new__" = true) (gC : X.mg x = some (.ref C)) (kC : PySem.W.keepIn X.K (.ref C) = true) (hg : Gl X x) (hdb : (x == ("__debug__" : Str)) = false := by decide) :
    PE X (.Call (.Name x p) [.Constant (.str m) i p3] [] pos) (tErrS C) := pe_exc1 (ta := tC (.str m)) PySem.F.excBase_ValueError hq gC kC hg pe_str rfl hdb
end
section
variable {K : PySem.W.Frag} {mg : Str → Option Value} {H : Hp} {Q : VK} {x y f : Str} {a : Addr} {fs : List (Str × V)} {v : V}
theorem g_errV {P : Addr → Hp → Prop} (o : OexC K (ec mg x)) (no : PySem.W.findIn K (.ref (ec mg x)) f = some none) (h : ∀ (a d : Addr) (H' : Hp), Ext H H' → H a = none → H d = none → ExA H' a (ec mg x) (some d) → ExD H' d [(f, v)] → P a H') :
    ∀ a, H a = none → sp_Err_init K f [.ref a, v] (upd H a (exo a (ec mg x) none)) (fun z H2 => z = .non ∧ P a H2) E0 := fun a ha => by
  refine ⟨_, _, rfl, a, ec mg x, rfl, upd_same, o, no, fun dx hdx ne => ⟨rfl, ?_⟩⟩
  rw [upd_ne ne] at hdx
  refine h a dx _ (fun b u hb => ?_) ha hdx (exo_exa upd_same) (.inr ?_)
  · rw [upd_ne (ne_of_none hb ha), upd_ne (ne_of_none hb hdx), upd_ne (ne_of_none hb ha)]
    exact hb
  · rw [upd_ne ne, upd_same]
theorem g_errR {W : XK} (o : OexC K (ec mg x)) (no : PySem.W.findIn K (.ref (ec mg x)) f = some none) (h : ∀ d, H d = none → W (.ref (ec mg x)) (some d) (upd H d (.xd [(f, v)]))) :
    [v].length ≤ 1000 ∧ ∀ a, H a = none → sp_Err_init K f (.ref a :: ([v] ++ [])) (upd H a (exo a (ec mg x) none))
      (fun z H2 => z = .non ∧ ∃ (d : Addr) (fs : List (Str × V)), H2 a = some (exo a (ec mg x) (some d)) ∧ H2 d = some (exd d fs) ∧ H d = none ∧ W (.ref (ec mg x)) (some d) (upd (del H2 a) d (.xd fs))) (fun _ _ _ => False) := by
  refine ⟨by show 1 ≤ 1000; decide, fun a ha => ⟨_, _, rfl, a, ec mg x, rfl, upd_same, o, no, fun dx hdx ne => ⟨rfl, dx, _, upd_same, by rw [upd_ne ne, upd_same], ?_, ?_⟩⟩⟩
  · rw [upd_ne ne] at hdx
    exact hdx
  · rw [upd_ne ne] at hdx
    have e : upd (del (upd (upd (upd H a (exo a (ec mg x) none)) dx (exd dx [(f, v)])) a (exo a (ec mg x) (some dx))) a) dx (.xd [(f, v)]) = upd H dx (.xd [(f, v)]) := by
      funext b
      by_cases h1 : b = dx
      · rw [h1, upd_same, upd_same]
      · rw [upd_ne h1, upd_ne h1]
        by_cases h2 : b = a
        · rw [h2, del_same, ha]
        · rw [del_ne h2, upd_ne h2, upd_ne h1, upd_ne h2]
    rw [e]
    exact h dx hdx
theorem g_terrV {σ : L2.St} {te : TE} (h : te σ H fun v H1 => ∀ a, H1 a = none → sp_Err_init K f [.ref a, v] (upd H1 a (exo a (ec mg x) none)) (fun z H2 => z = .non ∧ Q (.ref a) H2) E0) : tErrV K mg x f te σ H Q := h
theorem g_terrS {σ : L2.St} {C : Addr} (h : ∀ a, H a = none → Q (.ref a) (upd H a (ExO (.ref C) a))) : tErrS C σ H Q := h
theorem g_terrT {σ : L2.St} {D : Ends} {C : Addr} {W : WX} (h : W (.ref C) none σ H) : tErrT C W D σ H := h
theorem g_terrR {σ : L2.St} {D : Ends} {te : TE} {W : WX} (h : te σ H fun v H1 => [v].length ≤ 1000 ∧ ∀ a, H1 a = none → sp_Err_init K f (.ref a :: ([v] ++ [])) (upd H1 a (exo a (ec mg x) none))
      (fun z H2 => z = .non ∧ ∃ (d : Addr) (fs : List (Str × V)), H2 a = some (exo a (ec mg x) (some d)) ∧ H2 d = some (exd d fs) ∧ H1 d = none ∧ W (.ref (ec mg x)) (some d) σ (upd (del H2 a) d (.xd fs))) (fun _ _ _ => False)) : tErrR K mg x f W te D σ H := h
theorem g_terrF {σ : L2.St} {te : TE} (h : te σ H fun x H1 => ∃ (a C d : Addr) (fs : List (Str × V)) (l : List Value) (v : V), x = .ref a ∧ ExA H1 a C (some d) ∧ ExD H1 d fs ∧ ErrF K C l ∧ PySem.W.findIn K (.ref C) f = some none ∧ fs.lookup f = some v ∧ Q v H1) : tErrF K te f σ H Q := h
theorem g_callS {σ : L2.St} {sp : Sp} {E : L2.St → XK} {t : TA} (h : t σ H fun vs H1 => sp vs H1 Q (E σ)) : tCallS sp E t σ H Q := h
theorem g_isX (T : ErrT K mg) (hx : x ∈ allErrs) (hy : y ∈ allErrs) (e : ExI H a (ec mg x) fs) (h : Q (.bl (decide (x = y))) H) : rIsX K [.ref a, .ref (ec mg y)] H Q :=
  ⟨a, _, fs, _, _, _, _, rfl, .own _, e, T.f x hx, T.cn, T.ct, T.kit hx hy, h⟩
/-- what isinstance answers of an error at a for each error class; of ValueError and TurnError it is one -/
structure Kind (K : PySem.W.Frag) (mg : Str → Option Value) (C : Addr) (b : Str → Bool) : Prop where
  F : ∃ l, ErrF K C l
  is : ∀ y ∈ allErrs, PySem.W.kitOne K (.ref C) (.ref (ec mg y)) = some (b y)
  ve : PySem.W.kitOne K (.ref C) (.type "ValueError") = some true
  te : PySem.W.kitOne K (.ref C) (.ref (ec mg "TurnError")) = some true
theorem ErrT.kind (T : ErrT K mg) (hx : x ∈ allErrs) : Kind K mg (ec mg x) fun y => decide (x = y) := ⟨⟨_, T.f x hx⟩, fun y hy => T.kit hx hy, T.kitV hx, T.kitT hx⟩
theorem ErrT.kindB (T : ErrT K mg) : Kind K mg (ec mg "TurnError") fun _ => false := ⟨⟨_, T.te⟩, fun y hy => T.kitB hy, T.kitBV, by rw [T.te.kit T.te]; simp⟩
theorem g_isK {C : Addr} {b : Str → Bool} (T : ErrT K mg) (k : Kind K mg C b) (hy : y ∈ allErrs) (e : ExI H a C fs) (h : Q (.bl (b y)) H) : rIsX K [.ref a, .ref (ec mg y)] H Q :=
  k.F.elim fun l F => ⟨a, _, fs, l, _, _, _, rfl, .own _, e, F, T.cn, T.ct, k.is y hy, h⟩
theorem g_isKV {C : Addr} {b : Str → Bool} (T : ErrT K mg) (k : Kind K mg C b) (e : ExI H a C fs) (h : Q (.bl true) H) : rIsX K [.ref a, .ty "ValueError"] H Q :=
  k.F.elim fun l F => ⟨a, _, fs, l, _, _, _, rfl, .ty _, e, F, T.cn, T.ct, k.ve, h⟩
theorem g_isKT {C : Addr} {b : Str → Bool} (T : ErrT K mg) (k : Kind K mg C b) (e : ExI H a C fs) (h : Q (.bl true) H) : rIsX K [.ref a, .ref (ec mg "TurnError")] H Q :=
  k.F.elim fun l F => ⟨a, _, fs, l, _, _, _, rfl, .own _, e, F, T.cn, T.ct, k.te, h⟩
theorem g_isXT (T : ErrT K mg) (hx : x ∈ allErrs) (e : ExI H a (ec mg x) fs) (h : Q (.bl true) H) : rIsX K [.ref a, .ref (ec mg "TurnError")] H Q :=
  ⟨a, _, fs, _, _, _, _, rfl, .own _, e, T.f x hx, T.cn, T.ct, T.kitT hx, h⟩
theorem g_isXV (T : ErrT K mg) (hx : x ∈ allErrs) (e : ExI H a (ec mg x) fs) (h : Q (.bl true) H) : rIsX K [.ref a, .ty "ValueError"] H Q :=
  ⟨a, _, fs, _, _, _, _, rfl, .ty _, e, T.f x hx, T.cn, T.ct, T.kitV hx, h⟩
theorem g_isB (T : ErrT K mg) (hy : y ∈ allErrs) (e : ExI H a (ec mg "TurnError") fs) (h : Q (.bl false) H) : rIsX K [.ref a, .ref (ec mg y)] H Q :=
  ⟨a, _, fs, _, _, _, _, rfl, .own _, e, T.te, T.cn, T.ct, T.kitB hy, h⟩
theorem g_isBV (T : ErrT K mg) (e : ExI H a (ec mg "TurnError") fs) (h : Q (.bl true) H) : rIsX K [.ref a, .ty "ValueError"] H Q :=
  ⟨a, _, fs, _, _, _, _, rfl, .ty _, e, T.te, T.cn, T.ct, T.kitBV, h⟩
theorem g_errF {d : Addr} {Q : V → Prop} (T : ErrT K mg) (hx : x ∈ allErrs) (ha : ExA H a (ec mg x) (some d)) (hd : ExD H d fs) (no : PySem.W.findIn K (.ref (ec mg x)) f = some none) (l : fs.lookup f = some v) (h : Q v) :
    ∃ (a' C d : Addr) (fs : List (Str × V)) (l : List Value) (v : V), V.ref a = .ref a' ∧ ExA H a' C (some d) ∧ ExD H d fs ∧ ErrF K C l ∧ PySem.W.findIn K (.ref C) f = some none ∧ fs.lookup f = some v ∧ Q v :=
  ⟨a, _, d, fs, _, v, rfl, ha, hd, T.f x hx, no, l, h⟩
end
end G

/-! The draws of the laws that have a bag at r (its digits, a seed, a counter of at most n). -/
namespace G
open PySem PySem.Spec PyProof.Rows L2 M
def Bag (H : Hp) (r : Addr) (n : Nat) : Prop := ∃ (x : Nat) (y : Int) (z : Nat), H r = some (.lst [.int (x : Int), .int y, .int (z : Int)]) ∧ z ≤ n
theorem Bag.mono {H : Hp} {r : Addr} {n m : Nat} (h : Bag H r n) (hm : n ≤ m) : Bag H r m := by
  obtain ⟨x, y, z, a, c⟩ := h
  exact ⟨x, y, z, a, Nat.le_trans c hm⟩
theorem Bag.ext {H H' : Hp} {r : Addr} {n : Nat} (h : Bag H r n) (e : Ext H H') : Bag H' r n := by
  obtain ⟨x, y, z, a, b⟩ := h
  exact ⟨x, y, z, e _ _ a, b⟩
theorem Bag.at {H : Hp} {r : Addr} {n : Nat} (h : Bag H r n) : ∃ xs, H r = some (.lst xs) := by
  obtain ⟨x, y, z, a, _⟩ := h
  exact ⟨_, a⟩
theorem Bag.ne {H : Hp} {r p : Addr} {n : Nat} (h : Bag H r n) (hp : H p = none) : p ≠ r := fun e => by
  obtain ⟨xs, a⟩ := h.at
  rw [e, a] at hp
  cases hp
theorem Bag.new {r p : Addr} {H : Hp} {o : HO} {n : Nat} (e : Bag H r n) (h : H p = none) : Bag (upd H p o) r n := e.ext (Ext.new h)
theorem Bag.mut {r p : Addr} {H : Hp} {o : HO} {n : Nat} (e : Bag H r n) (h : p ≠ r) : Bag (upd H p o) r n := by
  obtain ⟨x, y, z, a, b⟩ := e
  exact ⟨x, y, z, by rw [upd_ne (Ne.symm h)]; exact a, b⟩
abbrev sp_law_pick (K : PySem.W.Frag) : Sp := sp2 fun a b H Q => ∃ (r : Addr) (many n : Nat), a = .ref r ∧ b = .int (many : Int) ∧ Bag H r n ∧ n < 2 ^ 40 ∧ 0 < many ∧ many < 2 ^ 1000 ∧ ∀ (d : Nat) (H' : Hp), d < many → Stp r H H' → Bag H' r (n + 1) → Q (.int (d : Int)) H'
abbrev sp_law_bag (K : PySem.W.Frag) : Sp := sp1 fun a H Q => ∃ c : Int, a = .int c ∧ ∀ (r : Addr) (H' : Hp), Ext H H' → H r = none → Bag H' r 0 → Q (.ref r) H'
theorem cpow8 {i : Int} (h0 : 0 ≤ i) (h : i < 2 ^ 100) : CPowW i 8 := by
  have b := PyProof.Rows.intBits_le (bits_lt h0 h)
  refine ⟨by decide, ?_⟩
  have e : ((2 : Int) ^ 27) = 134217728 := by decide
  omega
/-- two lists item by item -/
def All2 {α β : Type} (R : α → β → Prop) : List α → List β → Prop
  | [], [] => True
  | a :: l, b :: m => R a b ∧ All2 R l m
  | _, _ => False
theorem All2.len {α β : Type} {R : α → β → Prop} : ∀ {l : List α} {m : List β}, All2 R l m → l.length = m.length
  | [], [], _ => rfl
  | _ :: _, _ :: _, h => congrArg (· + 1) h.2.len
  | [], _ :: _, h => h.elim
  | _ :: _, [], h => h.elim
theorem All2.get {α β : Type} {R : α → β → Prop} : ∀ {l : List α} {m : List β}, All2 R l m → ∀ {i : Nat} {a : α} {b : β}, l[i]? = some a → m[i]? = some b → R a b
  | [], [], _, _, _, _, h, _ => by simp at h
  | x :: l, y :: m, h, 0, a, b, ha, hb => by
    cases (show some x = some a from ha)
    cases (show some y = some b from hb)
    exact h.1
  | x :: l, y :: m, h, i + 1, a, b, ha, hb => h.2.get (i := i) ha hb
  | [], _ :: _, h, _, _, _, _, _ => h.elim
  | _ :: _, [], h, _, _, _, _, _ => h.elim
theorem All2.imp {α β : Type} {R R' : α → β → Prop} (k : ∀ a b, R a b → R' a b) : ∀ {l : List α} {m : List β}, All2 R l m → All2 R' l m
  | [], [], _ => trivial
  | _ :: _, _ :: _, h => ⟨k _ _ h.1, h.2.imp k⟩
  | [], _ :: _, h => h.elim
  | _ :: _, [], h => h.elim
def errFs (x : Str) (v : V) : List (Str × V) := match fieldErrs.lookup x with
  | some f => [(f, v)]
  | none => []

theorem SqP.ext {K : PySem.W.Frag} {H H' : Hp} {a : Addr} {xs : List V} (h : SqP K H a xs) (e : Ext H H') : SqP K H' a xs := by
  rcases h with (h | ⟨o, h⟩) | h
  · exact .inl (.inl (e _ _ h))
  · exact .inl (.inr ⟨o, e _ _ h⟩)
  · exact .inr h
theorem pow60 : (10 : Int) ^ (60 : Int).toNat = ((10 ^ 60 : Nat) : Int) := by decide +kernel
theorem pow60_lt : 10 ^ 60 < 2 ^ 1000 := Nat.lt_of_lt_of_le (show 10 ^ 60 < 2 ^ 200 by decide) (Nat.pow_le_pow_right (by decide) (by decide))

/-! ### lists of scalars, compared with themselves -/
def sc : V → PyData
  | .non => .none
  | .bl b => .bool b
  | .int i => .int i
  | .str x => .str x
  | _ => .none
def Sc : V → Prop
  | .non => True
  | .bl _ => True
  | .int _ => True
  | .str x => PyData.strOk x = true
  | _ => False
theorem dp_sc {K : PySem.W.Frag} {H : Hp} : ∀ v : V, Sc v → Dp K H v (sc v)
  | .non, _ => .non
  | .bl b, _ => .bl b
  | .int i, _ => .int i
  | .str x, _ => .str x
  | .ref _, h => h.elim
  | .ty _, h => h.elim
  | .flt _, h => h.elim
  | .byt _, h => h.elim
theorem dpAll_sc {K : PySem.W.Frag} {H : Hp} : ∀ l : List V, (∀ v ∈ l, Sc v) → DpAll K H l (l.map sc)
  | [], _ => .nil
  | v :: l, h => .cons (dp_sc v (h v List.mem_cons_self)) (dpAll_sc l fun x hx => h x (List.mem_cons_of_mem _ hx))
open PyData in
theorem sc_lay1 : ∀ v : V, Sc v → canLay0 (sc v) = true ∧ depth (sc v) = 0 ∧ eqv (sc v) (sc v) = true
  | .non, _ => by simp [sc, canLay0, depth, eqv]
  | .bl b, _ => by simp [sc, canLay0, depth, eqv]
  | .int i, _ => by simp [sc, canLay0, depth, eqv]
  | .str x, h => by
    have h' : strOk x = true := h
    simp [sc, canLay0, depth, eqv, h']
  | .ref _, h => h.elim
  | .ty _, h => h.elim
  | .flt _, h => h.elim
  | .byt _, h => h.elim
open PyData in
theorem sc_lay : ∀ l : List V, (∀ v ∈ l, Sc v) → canLayAll0 (l.map sc) = true ∧ depthAll (l.map sc) = 0 ∧ eqvAll (l.map sc) (l.map sc) = true
  | [], _ => by simp [canLayAll0, depthAll, eqvAll]
  | v :: l, h => by
    obtain ⟨i1, i2, i3⟩ := sc_lay l fun x hx => h x (List.mem_cons_of_mem _ hx)
    obtain ⟨j1, j2, j3⟩ := sc_lay1 v (h v List.mem_cons_self)
    refine ⟨?_, ?_, ?_⟩
    · simp only [List.map_cons, canLayAll0, i1, j1, Bool.and_self]
    · simp only [List.map_cons, depthAll, i2, j2, Nat.max_self]
    · simp only [List.map_cons, eqvAll, i3, j3, Bool.and_self]
theorem sc_shaped {l : List V} (h : ∀ v ∈ l, Sc v) : SeqAt.shaped (.list (l.map sc)) = true := by
  unfold SeqAt.shaped
  rw [show PyData.canLay0 (.list (l.map sc)) = true by unfold PyData.canLay0; exact (sc_lay l h).1]
  unfold PyData.depth
  rw [(sc_lay l h).2.1]
  rfl
theorem sc_eq {l : List V} (h : ∀ v ∈ l, Sc v) : PyData.eqv (.list (l.map sc)) (.list (l.map sc)) = true := by
  unfold PyData.eqv
  exact (sc_lay l h).2.2
theorem g_eqSc {K : PySem.W.Frag} {H : Hp} {Q : VK} {a b : Addr} {l : List V} (ha : SqL K H a l) (hb : SqL K H b l) (h : ∀ v ∈ l, Sc v) (q : Q (.bl true) H) : rEqD K (.ref a) (.ref b) H Q :=
  ⟨_, _, .lst ha (dpAll_sc l h), .lst hb (dpAll_sc l h), sc_shaped h, sc_shaped h, by rw [sc_eq h]; exact q⟩
theorem g_neSc {K : PySem.W.Frag} {H : Hp} {Q : VK} {a b : Addr} {l : List V} (ha : SqL K H a l) (hb : SqL K H b l) (h : ∀ v ∈ l, Sc v) (q : Q (.bl false) H) : rNeD K (.ref a) (.ref b) H Q :=
  ⟨_, _, .lst ha (dpAll_sc l h), .lst hb (dpAll_sc l h), sc_shaped h, sc_shaped h, by rw [sc_eq h]; exact q⟩
theorem sc_bl (l : List Bool) : ∀ v ∈ l.map V.bl, Sc v := fun v h => by
  obtain ⟨b, _, rfl⟩ := List.mem_map.mp h
  trivial

theorem made_at {β : Type} {R : Str → β → Prop} {es : List β} {n : Nat} {x : Str} (al : All2 R allErrs es) (hx : allErrs[n]? = some x) : ∃ a, es[n]? = some a ∧ R x a := by
  have h := (List.getElem?_eq_some_iff.mp hx).1
  rw [al.len] at h
  have z : es[n]? = some es[n] := List.getElem?_eq_getElem h
  exact ⟨_, z, al.get hx z⟩
theorem g_errI {P : Program} {w : World} {base : Heap} {K : PySem.W.Frag} {mg : Str → Option Value} {H : Hp} {Q : V → Prop} {x f : Str} {a : Addr} {v : V} (T : ErrT K mg) (I : ErrI P w K mg base) (hx : (x, f) ∈ fieldErrs) (hx2 : x ∈ allErrs) (hl : fieldErrs.lookup x = some f)
    (h : ExI H a (ec mg x) (errFs x v)) (q : Q v) :
    ∃ (a' C d : Addr) (fs : List (Str × V)) (l : List Value) (v : V), V.ref a = .ref a' ∧ ExA H a' C (some d) ∧ ExD H d fs ∧ ErrF K C l ∧ PySem.W.findIn K (.ref C) f = some none ∧ fs.lookup f = some v ∧ Q v := by
  have e : errFs x v = [(f, v)] := by
    unfold errFs
    rw [hl]
  rw [e] at h
  rcases h with ⟨z, _⟩ | ⟨d, ha, hd⟩
  · cases z
  · exact ⟨a, _, d, _, _, v, rfl, ha, hd, T.f x hx2, I.no _ hx, by simp [List.lookup], q⟩


theorem look1 (f : Str) (v : V) : ([(f, v)] : List (Str × V)).lookup f = some v := by simp [List.lookup]
end G

/-! What the laws on errors share: values that are no argument, promises that tell errors, how the laws name them. -/
namespace G
open PySem PySem.Spec PyProof.Rows L2 M

/-! ### promises that tell errors -/
def se1 (P : V → Hp → VK → XK → Prop) : Sp := fun vs H Q E => ∃ a, vs = [a] ∧ P a H Q E
def se2 (P : V → V → Hp → VK → XK → Prop) : Sp := fun vs H Q E => ∃ a b, vs = [a, b] ∧ P a b H Q E
def se3 (P : V → V → V → Hp → VK → XK → Prop) : Sp := fun vs H Q E => ∃ a b c, vs = [a, b, c] ∧ P a b c H Q E
theorem se1_len {P : V → Hp → VK → XK → Prop} {n : Nat} (hn : n = 1 := by rfl) : ∀ vs H Q E, se1 P vs H Q E → vs.length = n := fun vs H Q E h => by
  obtain ⟨a, rfl, _⟩ := h
  exact hn.symm
theorem se2_len {P : V → V → Hp → VK → XK → Prop} {n : Nat} (hn : n = 2 := by rfl) : ∀ vs H Q E, se2 P vs H Q E → vs.length = n := fun vs H Q E h => by
  obtain ⟨a, b, rfl, _⟩ := h
  exact hn.symm
theorem se3_len {P : V → V → V → Hp → VK → XK → Prop} {n : Nat} (hn : n = 3 := by rfl) : ∀ vs H Q E, se3 P vs H Q E → vs.length = n := fun vs H Q E h => by
  obtain ⟨a, b, c, rfl, _⟩ := h
  exact hn.symm
theorem g_se1 {P : V → Hp → VK → XK → Prop} {a : V} {H : Hp} {Q : VK} {E : XK} (h : P a H Q E) : se1 P [a] H Q E := ⟨a, rfl, h⟩
theorem g_se2 {P : V → V → Hp → VK → XK → Prop} {a b : V} {H : Hp} {Q : VK} {E : XK} (h : P a b H Q E) : se2 P [a, b] H Q E := ⟨a, b, rfl, h⟩
theorem g_se3 {P : V → V → V → Hp → VK → XK → Prop} {a b c : V} {H : Hp} {Q : VK} {E : XK} (h : P a b c H Q E) : se3 P [a, b, c] H Q E := ⟨a, b, c, rfl, h⟩

/-! ### values of other kinds, numbers beside a range -/
theorem TyOf.ext {K : PySem.W.Frag} {H H' : Hp} {v : V} {t : Value} (h : TyOf K H v t) (e : Ext H H') : TyOf K H' v t := by
  cases h with
  | non => exact .non
  | bl x => exact .bl x
  | int i => exact .int i
  | str x => exact .str x
  | flt x => exact .flt x
  | lst h => exact .lst (e _ _ h)
  | frz h => exact .frz (e _ _ h)
  | tup h => exact .tup (e _ _ h)
  | dK h => exact .dK (e _ _ h)
  | dT h => exact .dT (e _ _ h)
  | ins h a b c d f => exact .ins (e _ _ h) a b c d f
theorem TyX.ext {K : PySem.W.Frag} {H H' : Hp} {v : V} {t : Value} (h : TyX K H v t) (e : Ext H H') : TyX K H' v t := by
  cases h with
  | base h => exact .base (TyOf.ext h e)
  | byt b => exact .byt b
  | set h => exact .set (e _ _ h)
  | kList h c => exact .kList h c
  | kTuple h c => exact .kTuple h c
  | kDict h c => exact .kDict h c
  | fTuple h => exact .fTuple (e _ _ h)
  | fDict h => exact .fDict (e _ _ h)
theorem Other.ext {K : PySem.W.Frag} {H H' : Hp} {v : V} (h : Other K H v) (e : Ext H H') : Other K H' v := h.elim fun T z => ⟨T, TyX.ext z.1 e, z.2⟩
theorem IsI.ext {K : PySem.W.Frag} {H H' : Hp} {v : V} {b : Bool} (h : IsI K H v b) (e : Ext H H') : IsI K H' v b := by
  obtain ⟨t, b1, b2, ty, h⟩ := h
  exact ⟨t, b1, b2, TyX.ext ty e, h⟩
/-- no integer from lo to hi -/
def NotIn (K : PySem.W.Frag) (H : Hp) (v : V) (lo hi : Int) : Prop := IsI K H v false ∨ ∃ n : Int, v = .int n ∧ (n < lo ∨ hi < n)
theorem NotIn.ext {K : PySem.W.Frag} {H H' : Hp} {v : V} {lo hi : Int} (h : NotIn K H v lo hi) (e : Ext H H') : NotIn K H' v lo hi := h.elim (fun z => .inl (z.ext e)) .inr
theorem between_no {K : PySem.W.Frag} {H : Hp} {v : V} {lo hi : Int} {A : Prop} {B : Int → Int → Int → Prop} (h : NotIn K H v lo hi) (k : A → ∀ n, (decide (lo ≤ n) && decide (n ≤ hi)) = false → B lo hi n) (q : A) :
    ∃ (b : Bool) (i j : Int), V.int lo = .int i ∧ V.int hi = .int j ∧ IsI K H v b ∧ (b = false → A) ∧ (b = true → ∃ n, v = .int n ∧ B i j n) := by
  rcases h with h | ⟨n, rfl, h⟩
  · exact ⟨false, lo, hi, rfl, rfl, h, fun _ => q, fun z => by cases z⟩
  · refine ⟨true, lo, hi, rfl, rfl, .int n, (fun z => by cases z), fun _ => ⟨n, rfl, k q n ?_⟩⟩
    rcases h with h | h
    · rw [decide_eq_false (by omega), Bool.false_and]
    · rw [decide_eq_false (show ¬ n ≤ hi by omega), Bool.and_false]
theorem between_yes {K : PySem.W.Frag} {H : Hp} {n lo hi : Int} {A : Prop} {B : Int → Int → Int → Prop} (h1 : lo ≤ n) (h2 : n ≤ hi) (q : (decide (lo ≤ n) && decide (n ≤ hi)) = true → B lo hi n) :
    ∃ (b : Bool) (i j : Int), V.int lo = .int i ∧ V.int hi = .int j ∧ IsI K H (.int n) b ∧ (b = false → A) ∧ (b = true → ∃ m, V.int n = .int m ∧ B i j m) :=
  ⟨true, lo, hi, rfl, rfl, .int n, (fun z => by cases z), fun _ => ⟨n, rfl, q (by rw [decide_eq_true h1, decide_eq_true h2]; rfl)⟩⟩
section
variable {K : PySem.W.Frag} {H : Hp}
theorem noI_non : IsI K H .non false := ⟨_, false, false, .base .non, kit_ty (by decide +kernel), kit_ty (by decide +kernel), rfl⟩
theorem noI_bl (b : Bool) : IsI K H (.bl b) false := ⟨_, true, true, .base (.bl b), kit_ty (by decide +kernel), kit_ty (by decide +kernel), rfl⟩
theorem noI_str (x : Str) : IsI K H (.str x) false := ⟨_, false, false, .base (.str x), kit_ty (by decide +kernel), kit_ty (by decide +kernel), rfl⟩
theorem noI_list {a : Addr} {xs : List V} (h : H a = some (.lst xs)) : IsI K H (.ref a) false := ⟨_, false, false, .base (.lst h), kit_ty (by decide +kernel), kit_ty (by decide +kernel), rfl⟩
theorem noI_tup {a : Addr} {xs : List V} (h : H a = some (.tup xs)) : IsI K H (.ref a) false := ⟨_, false, false, .base (.tup h), kit_ty (by decide +kernel), kit_ty (by decide +kernel), rfl⟩
theorem noI_dict {a : Addr} {kvs : List (Key × V)} (h : H a = some (.dK kvs)) : IsI K H (.ref a) false := ⟨_, false, false, .base (.dK h), kit_ty (by decide +kernel), kit_ty (by decide +kernel), rfl⟩
theorem oth_non : Other K H .non := ⟨_, .base .non, by decide⟩
theorem oth_bl (b : Bool) : Other K H (.bl b) := ⟨_, .base (.bl b), by decide⟩
theorem oth_int (i : Int) : Other K H (.int i) := ⟨_, .base (.int i), by decide⟩
theorem oth_str (x : Str) : Other K H (.str x) := ⟨_, .base (.str x), by decide⟩
theorem oth_list {a : Addr} {xs : List V} (h : H a = some (.lst xs)) : Other K H (.ref a) := ⟨_, .base (.lst h), by decide⟩
theorem oth_tup {a : Addr} {xs : List V} (h : H a = some (.tup xs)) : Other K H (.ref a) := ⟨_, .base (.tup h), by decide⟩
theorem oth_dict {a : Addr} {kvs : List (Key × V)} (h : H a = some (.dK kvs)) : Other K H (.ref a) := ⟨_, .base (.dK h), by decide⟩
theorem isi_other {mg : Str → Option Value} {C : Addr} {Q : VK} {v : V} (T : TurnText K mg C) (o : Other K H v) (q : Q (.bl false) H) : rIsi K [v, .ref C] H Q :=
  o.elim fun t z => ⟨_, .ref C, _, _, false, rfl, .own C, z.1, T.notT z.2, q⟩
end
/-- no word -/
def NotWord (K : PySem.W.Frag) (H : Hp) (v : V) : Prop := (∃ T : String, TyX K H v (.type T) ∧ T ∈ ["NoneType", "int", "bool", "list", "tuple", "dict"]) ∨ ∃ z : Str, v = .str z ∧ z.cps.size ≤ 1000 ∧ (z.cps.size = 0 ∨ 100 < z.cps.size ∨ ∃ c ∈ z.cps.toList, ¬ (97 ≤ c ∧ c ≤ 122))
theorem NotWord.ext {K : PySem.W.Frag} {H H' : Hp} {v : V} (h : NotWord K H v) (e : Ext H H') : NotWord K H' v := h.elim (fun z => .inl (z.elim fun T y => ⟨T, TyX.ext y.1 e, y.2⟩)) .inr

/-! ### how the laws name the errors -/
def knTab : List (Str × Str) := [("InvalidTargets", "targets"), ("InvalidPlaces", "places"), ("InvalidTurns", "turns"), ("InvalidSeen", "seen"), ("InvalidText", "text"), ("OverBudget", "over"), ("InvalidTurn", "turn"), ("InvalidFlips", "flips"), ("InvalidBits", "bits"), ("InvalidPlace", "place"),
  ("InvalidNumber", "number"), ("InvalidPages", "pages"), ("InvalidWord", "word"), ("InvalidBudget", "budget"), ("UnlikeBits", "unlike bits"), ("UnlikeWords", "unlike words"), ("InvalidOperation", "operation"), ("Nothing", "nothing"), ("InvalidCommand", "command")]
def kn (x : Str) : Str := (knTab.lookup x).getD ""
/-- the list of pairs (name, whether it is one) at p -/
def Kinds (H : Hp) (p : Addr) (b : Str → Bool) : Prop := ∃ ts : List Addr, H p = some (.lst (ts.map V.ref)) ∧ All2 (fun y t => H t = some (.tup [.str (kn y), .bl (b y)])) allErrs ts
abbrev sp_law_kinds (K : PySem.W.Frag) (mg : Str → Option Value) : Sp := sp1 fun v H Q => ∃ (a C : Addr) (fs : List (Str × V)) (b : Str → Bool), v = .ref a ∧ ExI H a C fs ∧ Kind K mg C b ∧ ∀ (p : Addr) (H' : Hp), Ext H H' → Kinds H' p b → Q (.ref p) H'
/-- what is told of an error of the class x with these fields -/
def Tell (x : Str) (fs : List (Str × V)) (r : Str) : Prop := (x ∈ plainErrs ∧ r = kn x) ∨ (x ∈ (["InvalidTargets", "InvalidPlaces", "InvalidTurns", "InvalidSeen"] : List Str) ∧ ((fs = [(("item" : Str), V.non)] ∧ r = kn x ++ " " ++ "None") ∨ ∃ n : Nat, n < 1000 ∧ fs = [(("item" : Str), V.int (n : Int))] ∧ r = kn x ++ " " ++ ((toString (n : Int) : String) : Str)))
abbrev sp_law_told_kind (K : PySem.W.Frag) (mg : Str → Option Value) : Sp := sp1 fun v H Q => ∃ (a : Addr) (x : Str) (fs : List (Str × V)) (r : Str), v = .ref a ∧ x ∈ allErrs ∧ ExI H a (ec mg x) fs ∧ Tell x fs r ∧ ∀ H', Ext H H' → Q (.str r) H'

/-- repr(None) -/
def rReprN : List V → Hp → VK → Prop := fun xs H Q => xs = [.non] ∧ Q (.str "None") H
theorem call_reprN {X : Cx} : CallR X (.builtin "repr") rReprN := by
  intro pins s σ H xs us Q I r h
  obtain ⟨rfl, q⟩ := h
  obtain ⟨u, rfl, ru⟩ := r.one
  cases (show u = Value.none from ru)
  exact PySem.P.repr_of_none ⟨.str _, H, I.tok _, ⟨_, rfl⟩, q⟩
section
variable {D : Ends} {σ : L2.St} {H : Hp} {Q : VK} {tb : TS} {te : TE} {K : PySem.W.Frag} {vs : List Nat} {xs : List V} {a : Addr}
/-- for x, y in a list of pairs: slots c and d -/
theorem u_list2 {c d n : Nat} (hx : SqL K H a xs) (Pv : Nat → L2.St → Hp → Prop) (h0 : Pv 0 σ H) (hG : ∀ i σ H, i ≤ xs.length → Pv i σ H → SqL K H a xs)
    (hs : ∀ i x σ H, xs[i]? = some x → Pv i σ H → ∃ (T : Addr) (u v : V), x = .ref T ∧ SqT K H T [u, v] ∧ tb { D with nx := Pv (i + 1), ct := Pv (i + 1), bk := D.nx } ((σ.set c (some u)).set d (some v)) H) (hd : ∀ σ H, Pv xs.length σ H → D.nx σ H) (hn : n = 2 := by rfl) :
    ∃ a', V.ref a = .ref a' ∧ (∃ xs, SqL K H a' xs) ∧ ForW (gTup K n (gCons (gName c) (gCons (gName d) gNil))) tb D σ (Itl K a') H := by
  subst hn
  refine ⟨a, rfl, ⟨xs, hx⟩, for_it walk_list Pv h0 hG (fun i v σ H H' hi p y => ?_) hd⟩
  obtain ⟨rfl, e⟩ := y
  obtain ⟨T, u, w, rfl, hT, q⟩ := hs i v σ _ e p
  exact ⟨T, _, rfl, hT, rfl, _, _, rfl, _, _, rfl, rfl, q⟩
end

section
variable {σ : L2.St} {H : Hp} {Q : VK} {K : PySem.W.Frag} {a : Addr} {n m : Nat} {xs : List V} {v : V}
/-- x.append(y) -/
theorem g_appV (hl : H a = some (.lst xs)) (hs : xs.length < sizeLine) (q : Q .non (upd H a (.lst (xs ++ [v])))) (e : σ[n]? = some (some (.ref a)) := by rfl) (e2 : σ[m]? = some (some v) := by rfl) : tBM K "list" rAppend (tVar n) (tCons (tVar m) tNil) σ H Q :=
  ⟨_, e, .inl ⟨rfl, _, SqL.of hl⟩, v, e2, a, xs, v, rfl, rfl, hl, hs, q⟩
end
theorem errs_one : ∀ x ∈ allErrs, allErrs.filter (fun y => decide (x = y)) = [x] := by decide +kernel
theorem plain_kn : ∀ x ∈ plainErrs, inV (.str (kn x)) [.str "targets", .str "places", .str "turns", .str "seen"] = false ∧ kn x ≠ "text" ∧ kn x ≠ "over" ∧ (kn x).length ≤ 100 := by decide +kernel
theorem item_kn : ∀ x ∈ (["InvalidTargets", "InvalidPlaces", "InvalidTurns", "InvalidSeen"] : List Str), inV (.str (kn x)) [.str "targets", .str "places", .str "turns", .str "seen"] = true ∧ (kn x).length ≤ 100 ∧ x ∈ allErrs ∧ (x, ("item" : Str)) ∈ fieldErrs := by decide +kernel
theorem plain_all : ∀ x ∈ plainErrs, x ∈ allErrs := by decide +kernel

theorem small_repr : ∀ n : Fin 1000, ((n.val : Int)).natAbs.log2 < 1920 ∧ (((toString (n.val : Int) : String) : Str)).length ≤ 10 := by decide +kernel
theorem str_nil (s : Str) : s ++ Str.ofString "" = s := by
  rw [show Str.ofString "" = ⟨#[]⟩ by decide +kernel]
  obtain ⟨c⟩ := s
  show (⟨c ++ #[]⟩ : Str) = ⟨c⟩
  rw [Array.append_empty]

theorem sc_rep {n : Nat} {s : Str} (h : PyData.strOk s = true) : ∀ v ∈ List.replicate n (V.str s), Sc v := fun v hv => by
  rw [List.eq_of_mem_replicate hv]
  exact h
/-- a list literal of one text times a number -/
theorem g_repS {H : Hp} {Q : VK} {k : Int} {s : Str} {p : Addr} (n : Nat) (hn : n ≤ 1000) (h : ∀ q, upd H p (.lst [V.str s]) q = none → Q (.ref q) (upd (upd H p (.lst [V.str s])) q (.lst (List.replicate n (V.str s))))) (hk : k = (n : Int) := by rfl) :
    rRep (.ref p) (.int k) (upd H p (.lst [V.str s])) Q := by
  subst hk
  have hs : sizeLine = 16777216 := by decide
  refine ⟨p, n, _, rfl, rfl, upd_same, by omega, by omega, by rw [Int.toNat_natCast, List.length_singleton, hs]; omega, fun q hq => ?_⟩
  have e : (List.replicate ((n : Int)).toNat [V.str s]).flatten = List.replicate n (V.str s) := by
    rw [Int.toNat_natCast]
    clear hn h
    induction n with
    | zero => rfl
    | succ n ih => rw [List.replicate_succ, List.flatten_cons, ih, List.replicate_succ]; rfl
  rw [e]
  exact h q hq

/-- an if whose two ways lead to the same, both only having made the heap grow -/
theorem ite_two {A B : Prop} {c : Bool} {H : Hp} {R : Hp → Prop} (a : c = true → (∀ H', Ext H H' → R H') → A) (b : c = false → (∀ H', Ext H H' → R H') → B) (k : ∀ H', Ext H H' → R H') : if c = true then A else B := by
  cases c with
  | true => exact iteT (a rfl k)
  | false => exact iteF (b rfl k)

/-! ### texts of letters -/
theorem join_letters (ws : List Nat) : (Txt.join (Str.ofString "") (ws.map fun c => (⟨#[c]⟩ : Str))).cps.toList = ws := by
  have e0 : Str.ofString "" = ⟨#[]⟩ := by decide +kernel
  rw [TL.join_eq, e0]
  have key : ∀ l : List Nat, (Str.join ⟨#[]⟩ (l.reverse.map fun c => (⟨#[c]⟩ : Str))).cps.toList = l.reverse := by
    intro l
    induction l with
    | nil => rfl
    | cons c l ih =>
      rw [List.reverse_cons, List.map_append, List.map_cons, List.map_nil, PyProof.Rows.FinIter.join_snoc]
      by_cases h : (l.reverse.map fun c => (⟨#[c]⟩ : Str)) = []
      · rw [if_pos h]
        have z := List.map_eq_nil_iff.mp h
        rw [z]
        rfl
      · rw [if_neg h, app_list, app_list, ih]
        simp
  have k := key ws.reverse
  rw [List.reverse_reverse] at k
  exact k
section
variable {D : Ends} {σ : L2.St} {H : Hp} {tb : TS} {z : Str}
/-- for x in text: slot c -/
theorem u_str {c : Nat} (Pv : Nat → L2.St → Hp → Prop) (h0 : Pv 0 σ H) (hs : ∀ i x σ H, z.cps[i]? = some x → Pv i σ H → tb { D with nx := Pv (i + 1), ct := Pv (i + 1), bk := D.nx } (σ.set c (some (.str ⟨#[x]⟩))) H) (hd : ∀ σ H, Pv z.cps.size σ H → D.nx σ H) :
    ∃ x, V.str z = .str x ∧ ForW (gName c) tb D σ (Its x) H := by
  refine ⟨z, rfl, for_it walk_str Pv h0 (fun _ _ _ _ _ => trivial) (fun i v σ H H' hi p y => ?_) hd⟩
  obtain ⟨rfl, x, e, rfl⟩ := y
  exact hs i x σ _ e p
end
theorem cutS_len (z : Str) (a b : Option Int) : (cutS z a b).cps.size ≤ z.cps.size := by
  unfold cutS
  rw [List.size_toArray, List.length_take, List.length_drop, Array.length_toList]
  omega
theorem cutS_mem {z : Str} {a b : Option Int} {c : Nat} (h : c ∈ (cutS z a b).cps.toList) : c ∈ z.cps.toList := by
  unfold cutS at h
  rw [List.toList_toArray] at h
  exact List.mem_of_mem_drop (List.mem_of_mem_take h)
theorem app_size (x y : Str) : (x ++ y).cps.size = x.cps.size + y.cps.size := Array.size_append
/-- word[1:] -/
theorem cut_one (z : Str) (h : 1 ≤ z.cps.size) : (cutS z (some 1) none).cps.toList = z.cps.toList.drop 1 := by
  have e : z.length = z.cps.toList.length := by rw [Array.length_toList]; rfl
  have hk : 1 ≤ z.cps.toList.length := by rw [Array.length_toList]; exact h
  unfold cutS
  rw [e]
  generalize z.cps.toList = l at hk
  rw [show (some (1 : Int)) = some ((1 : Nat) : Int) from rfl]
  simp only [HT.sIx_nat, HT.sIx_none]
  rw [Nat.min_eq_left (by omega), List.take_of_length_le (by rw [List.length_drop]; exact Nat.le_refl _)]

theorem ite_val {A B : Prop} {c : Bool} {P R : Str → Prop} (a : c = true → (∀ s, P s → R s) → A) (b : c = false → (∀ s, P s → R s) → B) (k : ∀ s, P s → R s) : if c = true then A else B := by
  cases c with
  | true => exact iteT (a rfl k)
  | false => exact iteF (b rfl k)
end G

/-! Conversions of words: each letter keeps its sequence. -/
namespace G
open PySem PySem.Spec PyProof.Rows L2 M
theorem getD_some {l : List Nat} {i : Nat} (h : i < l.length) : l[i]? = some (l.getD i 0) := by
  rw [List.getD_eq_getElem?_getD, List.getElem?_eq_getElem h]
  rfl
theorem range_ltr (z : Str) : (List.range z.cps.size).map (ltr z) = z.cps.toList.reverse := by
  refine List.ext_getElem (by rw [List.length_map, List.length_range, List.length_reverse, Array.length_toList]) fun i h1 h2 => ?_
  rw [List.getElem_map, List.getElem_range]
  have g := getD_some h2
  rw [List.getElem?_eq_getElem h2] at g
  exact (Option.some.inj g).symm
section
variable {z w : Str} {bl cl s : List Nat}
theorem BL.letters (a : BL z bl) : (bl.map (ltr z)).Perm z.cps.toList := by
  have h := a.perm.map (ltr z)
  rw [range_ltr] at h
  exact h.trans (List.reverse_perm _)
theorem BL.asc (a : BL z bl) : (bl.map (ltr z)).Pairwise (· ≤ ·) := List.pairwise_map.mpr (a.ord.imp fun h => by omega)
theorem BL.same (a : BL z bl) (b : BL w cl) (p : z.cps.toList.Perm w.cps.toList) : bl.map (ltr z) = cl.map (ltr w) :=
  sorted_same ((a.letters.trans p).trans b.letters.symm) a.asc b.asc
theorem Conv.at (a : Conv z w s) (p : z.cps.toList.Perm w.cps.toList) {b : Nat} (hb : b < z.cps.size) : ∃ (bl cl : List Nat) (i c : Nat), BL z bl ∧ BL w cl ∧ bl[i]? = some b ∧ cl[i]? = some c ∧ s[b]? = some c ∧ ltr w c = ltr z b := by
  obtain ⟨bl, cl, h1, h2, h3⟩ := a.ex
  obtain ⟨i, hi⟩ := h1.at hb
  have sm := h1.same h2 p
  have g : (bl.map (ltr z))[i]? = some (ltr z b) := by rw [List.getElem?_map, hi]; rfl
  rw [sm, List.getElem?_map] at g
  cases hc : cl[i]? with
  | none => rw [hc] at g; cases g
  | some c =>
    rw [hc] at g
    exact ⟨bl, cl, i, c, h1, h2, hi, hc, (h3 i b hi).trans hc, Option.some.inj g⟩
theorem Conv.letter (a : Conv z w s) (p : z.cps.toList.Perm w.cps.toList) {b c : Nat} (hb : b < z.cps.size) (hc : s[b]? = some c) : ltr w c = ltr z b := by
  obtain ⟨_, _, _, c', _, _, _, _, h, l⟩ := a.at p hb
  rw [hc] at h
  cases h
  exact l
theorem pair_lt {l : List Nat} {R : Nat → Nat → Prop} (h : l.Pairwise R) {i j a b : Nat} (hij : i < j) (hi : l[i]? = some a) (hj : l[j]? = some b) : R a b := by
  obtain ⟨h1, e1⟩ := List.getElem?_eq_some_iff.mp hi
  obtain ⟨h2, e2⟩ := List.getElem?_eq_some_iff.mp hj
  have := List.pairwise_iff_getElem.mp h i j h1 h2 hij
  rw [e1, e2] at this
  exact this
theorem Conv.mono (a : Conv z w s) (p : z.cps.toList.Perm w.cps.toList) {b1 b2 c1 c2 : Nat} (h12 : b1 < b2) (hb : b2 < z.cps.size) (e : ltr z b1 = ltr z b2) (k1 : s[b1]? = some c1) (k2 : s[b2]? = some c2) : c1 < c2 := by
  obtain ⟨bl, cl, i1, d1, g1, g2, g3, g4, g5, g6⟩ := a.at p (show b1 < z.cps.size by omega)
  obtain ⟨bl', cl', i2, d2, f1, f2, f3, f4, f5, f6⟩ := a.at p hb
  have e1 := g1.uniq f1
  have e2 := g2.uniq f2
  subst e1 e2
  rw [k1] at g5
  rw [k2] at f5
  cases g5
  cases f5
  have i12 : i1 < i2 := by
    rcases Nat.lt_trichotomy i1 i2 with h | h | h
    · exact h
    · subst h
      rw [g3] at f3
      cases f3
      omega
    · have := pair_lt g1.ord h f3 g3
      omega
  have := pair_lt g2.ord i12 g4 f4
  omega
end
/-- the new places of the bits of one letter -/
def spotsOf (z : Str) (s : List Nat) (c i : Nat) : List Nat := ((List.range i).filter fun b => decide (ltr z b = c)).map fun b => s.getD b 0
theorem spots_asc {z w : Str} {s : List Nat} (a : Conv z w s) (p : z.cps.toList.Perm w.cps.toList) (c : Nat) : (spotsOf z s c z.cps.size).Pairwise (· ≤ ·) := by
  unfold spotsOf
  refine List.pairwise_map.mpr ?_
  have r : ((List.range z.cps.size).filter fun b => decide (ltr z b = c)).Pairwise (· < ·) := List.pairwise_lt_range.filter _
  refine List.Pairwise.imp_of_mem (fun {x y} hx hy h => ?_) r
  have mx := List.mem_filter.mp hx
  have my := List.mem_filter.mp hy
  have yl := List.mem_range.mp my.1
  have ex := of_decide_eq_true mx.2
  have ey := of_decide_eq_true my.2
  have la := a.len
  exact Nat.le_of_lt (a.mono p h yl (ex.trans ey.symm) (s := s) (getD_some (show x < s.length by omega)) (getD_some (show y < s.length by omega)))
theorem spots_letter {z w : Str} {s : List Nat} (a : Conv z w s) (p : z.cps.toList.Perm w.cps.toList) {c x : Nat} (hx : x ∈ spotsOf z s c z.cps.size) : ltr w x = c ∧ x < z.cps.size := by
  obtain ⟨b, hb, rfl⟩ := List.mem_map.mp hx
  have mb := List.mem_filter.mp hb
  have bl := List.mem_range.mp mb.1
  have eb := of_decide_eq_true mb.2
  have la := a.len
  have sl : b < s.length := by omega
  have g : s[b]? = some (s.getD b 0) := getD_some sl
  refine ⟨(a.letter p bl g).trans eb, ?_⟩
  have := a.ok.lt _ (List.mem_of_getElem? g)
  omega

theorem go_none {ts : List Nat} (ok : Ts ts) : go ts 0 0 = 0 := by
  refine bits_ext (go_lt ts 0 0) (Nat.two_pow_pos _) fun t ht => ?_
  have hi := ok.idx_lt ht
  have hg := ok.get_idx ht
  rw [go_bit ok 0 0 hg]
  simp

section
variable {σ : L2.St} {H : Hp} {Q : VK} {te : TE} {tt : TT} {vs : List Nat}
/-- [e for i in range(n) if t]: slot c -/
theorem u_lcrIf {c n : Nat} (hn : n ≤ 2 ^ 61) (Pv : Addr → Nat → Hp → Prop) (h0 : ∀ D, H D = none → Pv D 0 (upd H D (.lst [])))
    (hs : ∀ D i H', H D = none → i < n → Pv D i H' → tt ((wipe σ vs).set c (some (.int (i : Int)))) H' fun b H3 => if b = true then te ((wipe σ vs).set c (some (.int (i : Int)))) H3 fun y H4 => ∃ acc, H4 D = some (.lst acc) ∧ acc.length < sizeLine ∧ Pv D (i + 1) (upd H4 D (.lst (acc ++ [y]))) else Pv D (i + 1) H3)
    (hd : ∀ D H', H D = none → Pv D n H' → Q (.ref D) H') (hw : ∀ x, wipe ((wipe σ vs).set c (some x)) vs = wipe σ vs := by intro x; rfl) :
    -(2 ^ 62) ≤ (n : Int) ∧ (n : Int) < 2 ^ 62 ∧ LcW (gName c) tt te vs σ Q (Itr 0 (n : Int).toNat) H := by
  have h62 : ((2 : Int) ^ 62) = 4611686018427387904 := by decide
  have h61 : ((2 : Nat) ^ 61) = 2305843009213693952 := by decide
  refine ⟨by omega, by omega, fun D hD => ?_⟩
  rw [Int.toNat_natCast]
  refine lc_it walk_range (Pv D) (h0 D hD) (fun _ _ _ _ => trivial) (fun i v H H' hi p y => ?_) (fun H' p => hd D H' hD p)
  obtain ⟨rfl, rfl⟩ := y
  have e : (0 : Int) + (i : Int) = (i : Int) := Int.zero_add _
  have q := hs D i _ hD hi p
  rw [← e] at q
  exact ⟨hw _, q⟩
end
theorem ltr_get {z : Str} {b : Nat} (h : b < z.cps.size) : z.cps.toList[z.cps.size - 1 - b]? = some (ltr z b) := by
  have l : z.cps.toList.length = z.cps.size := Array.length_toList
  have g := getD_some (l := z.cps.toList.reverse) (i := b) (by rw [List.length_reverse, l]; exact h)
  rw [List.getElem?_reverse (by omega), l] at g
  exact g

theorem g_ptar {C : Addr} {ta : TE} {σ : L2.St} {H : Hp} {Q : VK} (h : ta σ H fun x H1 => pTargets C x H1 Q) : tProp1 (pTargets C) ta σ H Q := h
theorem g_pfli {C : Addr} {ta : TE} {σ : L2.St} {H : Hp} {Q : VK} (h : ta σ H fun x H1 => pFlips C x H1 Q) : tProp1 (pFlips C) ta σ H Q := h

/-- a test, told by what holds behind it -/
theorem via {tt : TT} {σ : L2.St} {H : Hp} {K : Bool → Hp → Prop} (P : Bool → Hp → Prop) (h : ∀ K' : Bool → Hp → Prop, (∀ b H1, P b H1 → K' b H1) → tt σ H K') (k : ∀ b H1, P b H1 → K b H1) : tt σ H K := h K k
theorem inV_nv (k : Nat) (l : List Nat) : inV (.int (k : Int)) (nv l) = decide (k ∈ l) := by
  unfold inV nv
  induction l with
  | nil => simp
  | cons a l ih =>
    rw [List.map_cons, List.any_cons, ih]
    by_cases h : k = a
    · subst h
      simp [eqV]
    · have h' : ¬ (a : Int) = (k : Int) := by omega
      simp [eqV, h, h']
theorem nv_flat (l : List Nat) : (nv l).all flatV = true := List.all_eq_true.mpr fun v hv => by
  obtain ⟨n, _, rfl⟩ := List.mem_map.mp hv
  rfl
theorem eraseIdx_map {α β : Type} (f : α → β) : ∀ (l : List α) (k : Nat), (l.eraseIdx k).map f = (l.map f).eraseIdx k
  | [], _ => rfl
  | _ :: _, 0 => rfl
  | a :: l, k + 1 => by
    show f a :: (l.eraseIdx k).map f = f a :: (l.map f).eraseIdx k
    rw [eraseIdx_map f l k]
end G

/-! Inversions of turns, by the two bits that lead: sums, their symmetry. -/
namespace G
open PySem PySem.Spec PyProof.Rows L2 M
/-- f 0 + .. + f (n - 1) -/
def sm : Nat → (Nat → Nat) → Nat
  | 0, _ => 0
  | n + 1, f => sm n f + f n
theorem sm_congr {n : Nat} {f g : Nat → Nat} (h : ∀ i, i < n → f i = g i) : sm n f = sm n g := by
  induction n with
  | zero => rfl
  | succ n ih =>
    show sm n f + f n = sm n g + g n
    rw [ih fun i hi => h i (by omega), h n (by omega)]
theorem sm_zero {n : Nat} {f : Nat → Nat} (h : ∀ i, i < n → f i = 0) : sm n f = 0 := by
  induction n with
  | zero => rfl
  | succ n ih =>
    show sm n f + f n = 0
    rw [ih fun i hi => h i (by omega), h n (by omega)]
theorem sm_add (n : Nat) (f g : Nat → Nat) : sm n (fun i => f i + g i) = sm n f + sm n g := by
  induction n with
  | zero => rfl
  | succ n ih =>
    show sm n (fun i => f i + g i) + (f n + g n) = sm n f + f n + (sm n g + g n)
    rw [ih]
    omega
theorem sm_mul (n k : Nat) (f : Nat → Nat) : sm n (fun i => k * f i) = k * sm n f := by
  induction n with
  | zero => rfl
  | succ n ih =>
    show sm n (fun i => k * f i) + k * f n = k * (sm n f + f n)
    rw [ih, Nat.mul_add]
theorem sm_swap (n m : Nat) (f : Nat → Nat → Nat) : sm n (fun i => sm m fun j => f i j) = sm m fun j => sm n fun i => f i j := by
  induction n with
  | zero => exact (sm_zero fun _ _ => rfl).symm
  | succ n ih =>
    show sm n (fun i => sm m fun j => f i j) + sm m (fun j => f n j) = sm m fun j => sm n (fun i => f i j) + f n j
    rw [ih, sm_add]
theorem sm_list (n : Nat) (f : Nat → Nat) : sm n f = ((List.range n).map f).sum := by
  induction n with
  | zero => rfl
  | succ n ih =>
    rw [List.range_succ, List.map_append, List.sum_append_nat]
    show sm n f + f n = _
    rw [ih]
    simp
theorem sm_perm {n : Nat} {ts : List Nat} (p : ts.Perm (List.range n)) (f : Nat → Nat) : sm n f = sm n fun i => f (ts.getD i 0) := by
  have len := p.length_eq
  rw [List.length_range] at len
  rw [sm_list, sm_list, ← List.Perm.sum_nat (p.map f)]
  congr 1
  refine List.ext_getElem (by simp [len]) fun i h1 h2 => ?_
  rw [List.length_map] at h1
  have g := getD_some h1
  rw [List.getElem?_eq_getElem h1] at g
  simp only [List.getElem_map, List.getElem_range]
  rw [Option.some.inj g]
theorem sm_trunc {n m : Nat} {f : Nat → Nat} (h : m ≤ n) (z : ∀ i, m ≤ i → i < n → f i = 0) : sm n f = sm m f := by
  induction n with
  | zero =>
    have : m = 0 := by omega
    rw [this]
  | succ n ih =>
    by_cases e : m = n + 1
    · rw [e]
    · show sm n f + f n = sm m f
      rw [ih (by omega) fun i h1 h2 => z i h1 (by omega), z n (by omega) (by omega), Nat.add_zero]

/-! ### the numbers of the sum -/
def tb (ts : List Nat) (i : Nat) : Nat := ts.getD i 0
/-- how many bits below high have a target below that of the leading one -/
def oth (ts : List Nat) (lead high : Nat) : Nat := sm high fun h => if tb ts h < tb ts lead then 1 else 0
def ct (ts : List Nat) (lead high : Nat) : Bool := decide (high = lead) || (decide (lead < high) && decide (tb ts high < tb ts lead))
/-- what such a pair of bits adds -/
def qr (ts : List Nat) (fl lead high : Nat) : Nat := if ct ts lead high then (if high = lead then (if fl.testBit (tb ts lead) then 2 * 2 ^ oth ts lead high else 0) else 2 ^ oth ts lead high) else 0
def quarters (ts : List Nat) (fl : Nat) : Nat := sm ts.length fun lead => sm ts.length fun high => qr ts fl lead high
def inv (ts : List Nat) (fl : Nat) : Nat := quarters ts fl * 2 ^ ts.length / 4
theorem oth_lt (ts : List Nat) (lead : Nat) : ∀ high, oth ts lead high ≤ high
  | 0 => Nat.le_refl _
  | h + 1 => by
    have := oth_lt ts lead h
    show oth ts lead h + (if tb ts h < tb ts lead then 1 else 0) ≤ h + 1
    split <;> omega
/-- the turn back has as many -/
structure Back (ts : List Nat) (fl : Nat) (us : List Nat) (gl : Nat) : Prop where
  ok : Ts ts
  ok' : Ts us
  len : us.length = ts.length
  at_ : ∀ e, e < ts.length → tb us (tb ts e) = e
  fl : ∀ e, e < ts.length → gl.testBit e = fl.testBit (tb ts e)
theorem tb_lt {ts : List Nat} (ok : Ts ts) {e : Nat} (h : e < ts.length) : tb ts e < ts.length := ok.lt _ (List.mem_of_getElem? (getD_some h))
theorem tb_inj {ts : List Nat} (ok : Ts ts) {a b : Nat} (ha : a < ts.length) (hb : b < ts.length) (h : tb ts a = tb ts b) : a = b := by
  have h1 := ok.idx_get (getD_some ha)
  have h2 := ok.idx_get (getD_some hb)
  rw [show ts.getD a 0 = tb ts a from rfl] at h1
  rw [show ts.getD b 0 = tb ts b from rfl, ← h] at h2
  exact h1.symm.trans h2
theorem ts_perm {ts : List Nat} (ok : Ts ts) : ts.Perm (List.range ts.length) := ok.perm
section
variable {ts us : List Nat} {fl gl : Nat}
theorem Back.oth (b : Back ts fl us gl) {lead high : Nat} (hl : lead < ts.length) (hh : high < ts.length) : G.oth us (tb ts high) (tb ts lead) = G.oth ts lead high := by
  have n := b.len
  -- both count the e with e < high and tb e < tb lead
  have e1 : G.oth ts lead high = sm ts.length fun h => if h < high ∧ tb ts h < tb ts lead then 1 else 0 := by
    rw [sm_trunc (m := high) (by omega) fun i h1 _ => by rw [if_neg (fun z => by omega)]]
    refine sm_congr fun i hi => ?_
    by_cases c : tb ts i < tb ts lead
    · rw [if_pos c, if_pos ⟨hi, c⟩]
    · rw [if_neg c, if_neg fun z => c z.2]
  have e2 : G.oth us (tb ts high) (tb ts lead) = sm ts.length fun x => if x < tb ts lead ∧ tb us x < high then 1 else 0 := by
    rw [sm_trunc (m := tb ts lead) (Nat.le_of_lt (tb_lt b.ok hl)) fun i h1 _ => by rw [if_neg (fun z => by omega)]]
    refine sm_congr fun i hi => ?_
    rw [b.at_ high hh]
    by_cases c : tb us i < high
    · rw [if_pos c, if_pos ⟨hi, c⟩]
    · rw [if_neg c, if_neg fun z => c z.2]
  rw [e1, e2, sm_perm (ts_perm b.ok) (fun x => if x < tb ts lead ∧ tb us x < high then 1 else 0)]
  refine sm_congr fun i hi => ?_
  show (if tb ts i < tb ts lead ∧ tb us (tb ts i) < high then 1 else 0) = _
  rw [b.at_ i hi]
  by_cases c : i < high ∧ tb ts i < tb ts lead
  · rw [if_pos c, if_pos ⟨c.2, c.1⟩]
  · rw [if_neg c, if_neg fun z => c ⟨z.2, z.1⟩]
theorem Back.qr (b : Back ts fl us gl) {lead high : Nat} (hl : lead < ts.length) (hh : high < ts.length) : G.qr us gl (tb ts high) (tb ts lead) = G.qr ts fl lead high := by
  unfold G.qr
  rw [b.oth hl hh]
  by_cases e : high = lead
  · subst e
    have c1 : ct us (tb ts high) (tb ts high) = true := by unfold ct; simp
    have c2 : ct ts high high = true := by unfold ct; simp
    rw [if_pos c1, if_pos c2, if_pos rfl, if_pos rfl, b.at_ high hh, b.fl high hh]
  · have e' : ¬ tb ts lead = tb ts high := fun z => e (tb_inj b.ok hl hh z).symm
    have c : ct us (tb ts high) (tb ts lead) = ct ts lead high := by
      unfold ct
      rw [b.at_ lead hl, b.at_ high hh, decide_eq_false e, decide_eq_false e', Bool.and_comm]
    rw [c, if_neg e, if_neg e']
theorem Back.inv (b : Back ts fl us gl) : G.inv us gl = G.inv ts fl := by
  unfold G.inv quarters
  rw [b.len]
  congr 2
  rw [sm_perm (ts_perm b.ok) (fun lead => sm ts.length fun high => G.qr us gl lead high)]
  have : ∀ i, i < ts.length → sm ts.length (fun high => G.qr us gl (ts.getD i 0) high) = sm ts.length fun x => G.qr ts fl x i := fun i hi => by
    rw [sm_perm (ts_perm b.ok) (fun high => G.qr us gl (ts.getD i 0) high)]
    exact sm_congr fun x hx => b.qr hx hi
  rw [sm_congr this]
  exact (sm_swap _ _ fun x i => G.qr ts fl x i).symm
end
theorem inv_none {ts : List Nat} {fl : Nat} (id_ : ∀ e, e < ts.length → tb ts e = e) (nf : ∀ e, e < ts.length → fl.testBit e = false) : inv ts fl = 0 := by
  have z : quarters ts fl = 0 := sm_zero fun l hl => sm_zero fun h hh => by
    unfold qr
    by_cases e : h = l
    · subst e
      rw [id_ h hh, nf h hh]
      simp
    · have c : ct ts l h = false := by
        unfold ct
        rw [id_ l hl, id_ h hh, decide_eq_false e]
        by_cases c : l < h
        · rw [decide_eq_false (show ¬ h < l by omega)]
          simp
        · rw [decide_eq_false c]
          rfl
      rw [c]
      rfl
  unfold inv
  rw [z, Nat.zero_mul]

/-! ### the program's list of them -/
def oD (x : Nat × Nat × Nat) : HO := .tup [.int (x.1 : Int), .int (x.2.1 : Int), .int (x.2.2 : Int)]
def drow (ts : List Nat) (lead : Nat) : Nat → List (Nat × Nat × Nat)
  | 0 => []
  | j + 1 => drow ts lead j ++ (if ct ts lead j then [(j, lead, 2 ^ oth ts lead j)] else [])
def drows (ts : List Nat) : Nat → List (Nat × Nat × Nat)
  | 0 => []
  | i + 1 => drows ts i ++ drow ts i ts.length
theorem drow_len (ts : List Nat) (lead : Nat) : ∀ j, (drow ts lead j).length ≤ j
  | 0 => Nat.le_refl _
  | j + 1 => by
    have := drow_len ts lead j
    unfold drow
    rw [List.length_append]
    split
    · simp; omega
    · simp; omega
theorem drows_len (ts : List Nat) : ∀ i, (drows ts i).length ≤ i * ts.length
  | 0 => by simp [drows]
  | i + 1 => by
    have h1 := drows_len ts i
    have h2 := drow_len ts i ts.length
    unfold drows
    rw [List.length_append, Nat.succ_mul]
    omega
/-- what an entry adds -/
def dval (ts : List Nat) (fl : Nat) (x : Nat × Nat × Nat) : Nat := if x.1 ≠ x.2.1 then x.2.2 else if fl.testBit (tb ts x.2.1) then 2 * x.2.2 else 0
theorem drow_sum (ts : List Nat) (fl lead : Nat) : ∀ j, ((drow ts lead j).map (dval ts fl)).sum = sm j fun h => qr ts fl lead h
  | 0 => rfl
  | j + 1 => by
    have ih := drow_sum ts fl lead j
    unfold drow
    rw [List.map_append, List.sum_append_nat, ih]
    show _ = sm j (fun h => qr ts fl lead h) + qr ts fl lead j
    congr 1
    unfold qr dval
    by_cases c : ct ts lead j = true
    · rw [if_pos c, if_pos c]
      by_cases e : j = lead
      · simp [e]
      · simp [e]
    · rw [if_neg c, if_neg c]
      rfl
theorem drows_sum (ts : List Nat) (fl : Nat) : ∀ i, ((drows ts i).map (dval ts fl)).sum = sm i fun l => sm ts.length fun h => qr ts fl l h
  | 0 => rfl
  | i + 1 => by
    unfold drows
    rw [List.map_append, List.sum_append_nat, drows_sum ts fl i, drow_sum]
    rfl
theorem drow_mem {ts : List Nat} {lead : Nat} {x : Nat × Nat × Nat} : ∀ {j}, x ∈ drow ts lead j → x.2.1 = lead ∧ x.1 < j ∧ x.2.2 = 2 ^ oth ts lead x.1
  | 0, h => by cases h
  | j + 1, h => by
    unfold drow at h
    rcases List.mem_append.mp h with h | h
    · obtain ⟨a, b, c⟩ := drow_mem h
      exact ⟨a, by omega, c⟩
    · split at h
      · rw [List.mem_singleton.mp h]
        exact ⟨rfl, Nat.lt_succ_self _, rfl⟩
      · cases h
theorem drows_mem {ts : List Nat} {x : Nat × Nat × Nat} : ∀ {i}, x ∈ drows ts i → x.2.1 < i ∧ x.1 < ts.length ∧ x.2.2 ≤ 2 ^ x.1
  | 0, h => by cases h
  | i + 1, h => by
    unfold drows at h
    rcases List.mem_append.mp h with h | h
    · obtain ⟨a, b, c⟩ := drows_mem h
      exact ⟨by omega, b, c⟩
    · obtain ⟨a, b, c⟩ := drow_mem h
      exact ⟨by omega, b, by rw [c]; exact Nat.pow_le_pow_right (by decide) (oth_lt _ _ _)⟩
abbrev sp_differences (K : PySem.W.Frag) : Sp := sp1 fun a H Q => ∃ l ts, a = .ref l ∧ H l = some (.lst (nv ts)) ∧ Ts ts ∧ ∀ p H', Ext H H' → H p = none → Refs H oD H' p (drows ts ts.length) → Q (.ref p) H'
abbrev sp_inversions (K : PySem.W.Frag) (C : Addr) : Sp := sp1 fun a H Q => ∃ ts fl, IsT C H a ts fl ∧ ∀ H', Ext H H' → Q (.int (inv ts fl : Int)) H'
def bT (a : List Nat) (fa : Nat) (b : List Nat) : List Nat := cT (pT a fa (-1)) b
def bF (a : List Nat) (fa : Nat) (b : List Nat) (fb : Nat) : Nat := go b fb (pF a fa (-1))
abbrev sp_unlike_pairs (K : PySem.W.Frag) (C : Addr) : Sp := sp2 fun x y H Q => ∃ a fa b fb, IsT C H x a fa ∧ IsT C H y b fb ∧ a.length = b.length ∧ ∀ H', Ext H H' → Q (.int (inv (bT a fa b) (bF a fa b fb) : Int)) H'
section
variable {a b : List Nat} {fa fb : Nat}
theorem bT_at (oa : Ts a) (ob : Ts b) (e : a.length = b.length) {x : Nat} (hx : x < a.length) : tb (bT a fa b) (tb a x) = tb b x ∧ (bF a fa b fb).testBit (tb b x) = (fa.testBit (tb a x) ^^ fb.testBit (tb b x)) := by
  have hl := tb_lt oa hx
  have ix : a.idxOf (tb a x) = x := oa.idx_get (getD_some hx)
  have pb : pw a fa (-1) (tb a x, false) = (x, false ^^ fa.testBit (tb a x)) := by
    rw [pw_back oa (by exact hl)]
    unfold bw
    rw [ix]
  constructor
  · have g := pT_get (ts := a) (fl := fa) (-1) hl
    rw [pb] at g
    have g2 := cT_get (us := b) g
    have g3 : (bT a fa b)[tb a x]? = some (b.getD x 0) := g2
    unfold tb
    rw [List.getD_eq_getElem?_getD, show (bT a fa b)[a.getD x 0]? = some (b.getD x 0) from g3]
    rfl
  · unfold bF
    rw [go_bit ob fb _ (show b[x]? = some (tb b x) from getD_some (show x < b.length by omega))]
    have q := pF_bit (ts := a) (fl := fa) oa (-1) hl
    rw [pb] at q
    rw [show (pF a fa (-1)).testBit x = (false ^^ fa.testBit (tb a x)) from q]
    simp
theorem bT_ok (oa : Ts a) (ob : Ts b) (e : a.length = b.length) : Ts (bT a fa b) ∧ (bT a fa b).length = a.length :=
  ⟨cT_ok (pT_ok oa _) ob (by rw [pT_len]; exact e), by unfold bT; rw [cT_len, pT_len]⟩
theorem bF_lt (oa : Ts a) (ob : Ts b) (e : a.length = b.length) : bF a fa b fb < 2 ^ (bT a fa b).length := by
  rw [(bT_ok oa ob e).2, e]
  exact go_lt _ _ _
theorem bT_back (oa : Ts a) (ob : Ts b) (e : a.length = b.length) : Back (bT a fa b) (bF a fa b fb) (bT b fb a) (bF b fb a fa) := by
  obtain ⟨o1, l1⟩ := bT_ok (fa := fa) oa ob e
  obtain ⟨o2, l2⟩ := bT_ok (fa := fb) ob oa e.symm
  have sur : ∀ y, y < a.length → ∃ x, x < a.length ∧ y = tb a x := fun y hy => ⟨a.idxOf y, oa.idx_lt hy, by
    unfold tb
    rw [List.getD_eq_getElem?_getD, oa.get_idx hy]
    rfl⟩
  refine ⟨o1, o2, by omega, fun y hy => ?_, fun y hy => ?_⟩
  · rw [l1] at hy
    obtain ⟨x, hx, rfl⟩ := sur y hy
    rw [(bT_at (fa := fa) (fb := fb) oa ob e hx).1, (bT_at (fa := fb) (fb := fa) ob oa e.symm (by omega)).1]
  · rw [l1] at hy
    obtain ⟨x, hx, rfl⟩ := sur y hy
    rw [(bT_at (fa := fa) (fb := fb) oa ob e hx).1, (bT_at (fa := fa) (fb := fb) oa ob e hx).2, (bT_at (fa := fb) (fb := fa) ob oa e.symm (by omega)).2, Bool.xor_comm]
theorem bT_self (oa : Ts a) : inv (bT a fa a) (bF a fa a fa) = 0 := by
  obtain ⟨o1, l1⟩ := bT_ok (fa := fa) oa oa rfl
  have sur : ∀ y, y < a.length → ∃ x, x < a.length ∧ y = tb a x := fun y hy => ⟨a.idxOf y, oa.idx_lt hy, by
    unfold tb
    rw [List.getD_eq_getElem?_getD, oa.get_idx hy]
    rfl⟩
  refine inv_none (fun y hy => ?_) (fun y hy => ?_)
  · rw [l1] at hy
    obtain ⟨x, hx, rfl⟩ := sur y hy
    exact (bT_at (fa := fa) (fb := fa) oa oa rfl hx).1
  · rw [l1] at hy
    obtain ⟨x, hx, rfl⟩ := sur y hy
    rw [(bT_at (fa := fa) (fb := fa) oa oa rfl hx).2, Bool.xor_self]
end

theorem g_aug {n : Nat} {te : TE} {f : Int → Int → Int} {D : Ends} {σ : L2.St} {H : Hp} {i : Int} (e : σ[n]? = some (some (.int i))) (h : te σ H fun y H1 => ∃ j, y = .int j ∧ D.nx (σ.set n (some (.int (f i j)))) H1) : tAug n te (ipI f) D σ H := by
  refine ⟨_, e, ?_⟩
  have eq : (fun y H1 => ∃ j, y = V.int j ∧ D.nx (σ.set n (some (.int (f i j)))) H1) = fun y H1 => ipI f (.int i) y H1 fun z H2 => D.nx (σ.set n (some z)) H2 := by
    funext y H1
    refine propext ⟨fun ⟨j, ey, q⟩ => ⟨i, j, rfl, ey, q⟩, fun ⟨i', j, ei, ey, q⟩ => ⟨j, ey, ?_⟩⟩
    cases ei
    exact q
  rw [← eq]
  exact h
section
variable {D : Ends} {σ : L2.St} {H : Hp} {tb : TS} {K : PySem.W.Frag} {xs : List V} {a : Addr}
/-- for x, y, z in a list of triples: slots c, d and e -/
theorem u_list3 {c d e n : Nat} (hx : SqL K H a xs) (Pv : Nat → L2.St → Hp → Prop) (h0 : Pv 0 σ H) (hG : ∀ i σ H, i ≤ xs.length → Pv i σ H → SqL K H a xs)
    (hs : ∀ i x σ H, xs[i]? = some x → Pv i σ H → ∃ (T : Addr) (u v w : V), x = .ref T ∧ SqT K H T [u, v, w] ∧ tb { D with nx := Pv (i + 1), ct := Pv (i + 1), bk := D.nx } (((σ.set c (some u)).set d (some v)).set e (some w)) H) (hd : ∀ σ H, Pv xs.length σ H → D.nx σ H) (hn : n = 3 := by rfl) :
    ∃ a', V.ref a = .ref a' ∧ (∃ xs, SqL K H a' xs) ∧ ForW (gTup K n (gCons (gName c) (gCons (gName d) (gCons (gName e) gNil)))) tb D σ (Itl K a') H := by
  subst hn
  refine ⟨a, rfl, ⟨xs, hx⟩, for_it walk_list Pv h0 hG (fun i v σ H H' hi p y => ?_) hd⟩
  obtain ⟨rfl, ee⟩ := y
  obtain ⟨T, u, v', w, rfl, hT, q⟩ := hs i v σ _ ee p
  exact ⟨T, _, rfl, hT, rfl, _, _, rfl, _, _, rfl, _, _, rfl, rfl, q⟩
end
theorem inv_small (ts : List Nat) (fl : Nat) : quarters ts fl ≤ ts.length * (ts.length * (2 * 2 ^ ts.length)) := by
  have one : ∀ (n m : Nat) (f : Nat → Nat), (∀ i, i < n → f i ≤ m) → sm n f ≤ n * m := fun n m f h => by
    induction n with
    | zero => exact Nat.zero_le _
    | succ n ih =>
      have := ih fun i hi => h i (by omega)
      have := h n (by omega)
      show sm n f + f n ≤ (n + 1) * m
      rw [Nat.succ_mul]
      omega
  refine one _ _ _ fun l hl => one _ _ _ fun h hh => ?_
  unfold qr
  have p : 2 ^ oth ts l h ≤ 2 ^ ts.length := Nat.pow_le_pow_right (by decide) (Nat.le_trans (oth_lt _ _ _) (by omega))
  split
  · split
    · split
      · omega
      · omega
    · omega
  · omega

theorem sm_swap' (ts : List Nat) (fl : Nat) : sm ts.length (fun high => sm (high + 1) fun bit => 2 * qr ts fl bit high) = sm ts.length fun l => 2 * sm ts.length fun h => qr ts fl l h := by
  have h1 : ∀ high, high < ts.length → sm (high + 1) (fun bit => 2 * qr ts fl bit high) = sm ts.length fun bit => 2 * qr ts fl bit high := fun high hh =>
    (sm_trunc (m := high + 1) (by omega) fun i h2 h3 => by
      have ctF : ct ts i high = false := by
        unfold ct
        rw [decide_eq_false (show ¬ high = i by omega), decide_eq_false (show ¬ i < high by omega)]
        rfl
      unfold qr
      rw [ctF]
      rfl).symm
  rw [sm_congr h1, sm_swap]
  exact sm_congr fun i _ => sm_mul _ _ _

theorem mt_indexK {X : Cx} {K0 : PySem.W.Frag} (hK : X.K = K0 := by rfl) : MtR X "list.index" (rIndex K0) := hK ▸ mt_index
/-- a method with arguments, told where X is bound within (a comprehension) -/
theorem pe_bmK {X : Cx} {K0 : PySem.W.Frag} {e o : Expr} {es : List Expr} {to : TE} {t : TA} {name : Str} {apos cpos : Pos} {T id : String} {r : V → List V → Hp → VK → Prop}
    (pa : PySem.PlainAttrs T) (slot : PySem.Slot T name id) (hty : typeOf (.builtin id) = pure (.type "method_descriptor")) (hm : MtR X id r) (ho : PE X o to) (ha : PA X (e :: es) t) (hK : X.K = K0 := by rfl)
    (hbase : attributeBase o name X.env (eval o X.env) = eval o X.env := by rfl)
    (hfew : ((backTo cpos (starEach (e :: es) X.env)).all (fun x => !x.1) && (backToKw cpos (keywordEach [] X.env)).all (fun x => x.1.isSome)
      && decide ((e :: es).length + ([] : List Keyword).length + (if ([] : List Keyword).isEmpty then 0 else 1) < 30)) = true := by rfl)
    (hline : (apos.endLine == cpos.line) = true := by rfl) (hs : starEach (e :: es) X.env = (false, eval e X.env) :: starEach es X.env := by rfl) (hplain : (backTo cpos (starEach es X.env)).any (·.1) = false := by rfl) :
    PE X (.Call (.Attribute o name apos) (e :: es) [] cpos) (tBM K0 T r to t) := hK ▸ pe_bm pa slot hty hm ho ha hbase hfew hline hs hplain
section
variable {a b : List Nat} {fa fb : Nat}
theorem tb_idx (oa : Ts a) {y : Nat} (hy : y < a.length) : tb a (a.idxOf y) = y := by
  unfold tb
  rw [List.getD_eq_getElem?_getD, oa.get_idx hy]
  rfl
theorem bT_list (oa : Ts a) (ob : Ts b) (e : a.length = b.length) : (List.range a.length).map (fun x => tb b (a.idxOf x)) = bT a fa b := by
  obtain ⟨o1, l1⟩ := bT_ok (fa := fa) oa ob e
  refine List.ext_getElem? fun y => ?_
  by_cases hy : y < a.length
  · have h1 := (bT_at (fa := fa) (fb := 0) oa ob e (oa.idx_lt hy)).1
    rw [tb_idx oa hy] at h1
    rw [show (bT a fa b)[y]? = some (tb (bT a fa b) y) from getD_some (show y < (bT a fa b).length by omega), h1, List.getElem?_map, List.getElem?_range hy]
    rfl
  · rw [List.getElem?_eq_none (by rw [List.length_map, List.length_range]; omega), List.getElem?_eq_none (by omega)]
theorem bF_moved (oa : Ts a) (ob : Ts b) (e : a.length = b.length) : go (bT a fa b) fb fa = bF a fa b fb := by
  obtain ⟨o1, l1⟩ := bT_ok (fa := fa) oa ob e
  refine bits_ext (n := (bT a fa b).length) (go_lt _ _ _) (bF_lt oa ob e) fun t ht => ?_
  have hb : t < b.length := by omega
  -- t = tb b x
  have hx : b.idxOf t < a.length := by rw [e]; exact ob.idx_lt hb
  obtain ⟨h1, h2⟩ := bT_at (fa := fa) (fb := fb) oa ob e hx
  rw [tb_idx ob hb] at h1 h2
  rw [h2, go_bit o1 fb fa (e := tb a (b.idxOf t)) (show (bT a fa b)[tb a (b.idxOf t)]? = some t from (by
    rw [show (bT a fa b)[tb a (b.idxOf t)]? = some (tb (bT a fa b) (tb a (b.idxOf t))) from getD_some (by have := tb_lt oa hx; omega), h1]))]
end
theorem inv_lt {ts : List Nat} (fl : Nat) (h : ts.length ≤ 100) : inv ts fl < 2 ^ 1900 := by
  have q := inv_small ts fl
  have p : 2 ^ ts.length ≤ 2 ^ 100 := Nat.pow_le_pow_right (by decide) h
  have n100 : ts.length * (ts.length * (2 * 2 ^ ts.length)) ≤ 100 * (100 * (2 * 2 ^ 100)) := Nat.mul_le_mul h (Nat.mul_le_mul h (Nat.mul_le_mul_left _ p))
  have m : quarters ts fl * 2 ^ ts.length ≤ 100 * (100 * (2 * 2 ^ 100)) * 2 ^ 100 := Nat.mul_le_mul (Nat.le_trans q n100) p
  have big : 100 * (100 * (2 * 2 ^ 100)) * 2 ^ 100 < 2 ^ 1900 := by decide +kernel
  unfold inv
  omega
theorem tb_range {n i : Nat} (h : i < n) : tb (List.range n) i = i := by
  unfold tb
  rw [List.getD_eq_getElem?_getD, List.getElem?_range h]
  rfl
theorem sm_one : ∀ n, sm n (fun _ => 1) = n
  | 0 => rfl
  | n + 1 => by
    show sm n (fun _ => 1) + 1 = n + 1
    rw [sm_one n]
theorem sm_at (l c : Nat) : ∀ n, sm n (fun h => if h = l then c else 0) = if l < n then c else 0
  | 0 => rfl
  | n + 1 => by
    show sm n (fun h => if h = l then c else 0) + (if n = l then c else 0) = _
    rw [sm_at l c n]
    by_cases e : n = l
    · rw [if_pos e, if_neg (by omega), if_pos (by omega), Nat.zero_add]
    · rw [if_neg e, Nat.add_zero]
      by_cases q : l < n
      · rw [if_pos q, if_pos (by omega)]
      · rw [if_neg q, if_neg (by omega)]
theorem inv_flip : inv (List.range 100) (2 ^ 100 - 1) = (2 ^ 100 - 1) * 2 ^ 99 := by
  have q : quarters (List.range 100) (2 ^ 100 - 1) = sm 100 fun l => 2 * 2 ^ l := by
    unfold quarters
    rw [List.length_range]
    refine sm_congr fun l hl => ?_
    rw [← (sm_at l (2 * 2 ^ l) 100).trans (if_pos hl)]
    refine sm_congr fun h hh => ?_
    by_cases e : h = l
    · subst e
      have o : oth (List.range 100) h h = h := by
        unfold oth
        rw [tb_range hl]
        rw [sm_congr (g := fun _ => 1) fun i hi => by rw [tb_range (show i < 100 by omega), if_pos hi]]
        exact sm_one h
      unfold qr
      rw [o, tb_range hl, Nat.testBit_two_pow_sub_one, decide_eq_true hl, if_pos rfl, if_pos rfl, if_pos (show ct (List.range 100) h h = true by unfold ct; simp), if_pos rfl]
    · have c : ct (List.range 100) l h = false := by
        unfold ct
        rw [tb_range hl, tb_range hh, decide_eq_false e]
        by_cases c : l < h
        · rw [decide_eq_false (show ¬ h < l by omega)]
          simp
        · rw [decide_eq_false c]
          rfl
      unfold qr
      rw [c, if_neg Bool.false_ne_true, if_neg e]
  unfold inv
  rw [q, List.length_range]
  decide +kernel
theorem inv_plain : inv (List.range 100) 0 = 0 := inv_none (fun e he => tb_range (by rw [List.length_range] at he; exact he)) fun e _ => Nat.zero_testBit _
theorem cut_ints (ns : List Int) (k : Nat) : cutV (ns.map V.int) none (some (k : Int)) = (ns.take k).map V.int := by
  unfold cutV
  simp only [HT.sIx_nat, HT.sIx_none]
  rw [List.drop_zero, Nat.sub_zero, List.length_map, ← List.map_take]
  congr 1
  by_cases h : k ≤ ns.length
  · rw [Nat.min_eq_left h]
  · rw [Nat.min_eq_right (by omega), List.take_of_length_le (Nat.le_refl _), List.take_of_length_le (by omega)]
end G

/-! Cycles of items: gcd, lcm; a comprehension within another one. -/
namespace G
open PySem PySem.Spec PyProof.Rows L2 M
/-- a comprehension's scope where the comprehension itself stands within another one -/
def inner (scope sc : Scope) : Scope := { scope with names := scope.names.map fun (n, k) => if (k == .free && sc.kind == .function && sc.names.lookup n == some .cell) then (n, .cell) else (n, k) }
theorem inner_is {scope : Scope} {env : Env} : relabel scope env = inner scope env.scope := rfl
theorem blkOk_in {N : List Str} {scope0 scope sc : Scope} {env : Env} {own : List (Str × Nat)} (he : env.scope = sc) (h : blkC N (inner scope0 sc) scope own = true) : BlkOk N (relabel scope0 env) scope own := by
  rw [inner_is, he]
  exact blkOk_by h
def rLcm : List V → Hp → VK → Prop := fun vs H Q => ∃ a b : Nat, vs = [.int (a : Int), .int (b : Int)] ∧ a < 2 ^ 64 ∧ b < 2 ^ 64 ∧ Q (.int ((Nat.lcm a b : Nat) : Int)) H
theorem cr_lcm {X : Cx} : CallR X (.builtin "math.lcm") rLcm := by
  intro pins s σ H vs us Q I r h
  obtain ⟨a, b, rfl, ha, hb, q⟩ := h
  obtain ⟨t, u, rfl⟩ := Vals.int2 r
  have le : Nat.lcm a b ≤ a * b := by
    unfold Nat.lcm
    exact Nat.div_le_self _ _
  have sm : Nat.lcm a b < 2 ^ 128 := Nat.lt_of_le_of_lt le (Nat.lt_of_lt_of_le (Nat.mul_lt_mul_of_lt_of_le ha (Nat.le_of_lt hb) (by omega)) (by decide))
  have e1 : ((Nat.lcm 1 ((a : Int)).natAbs).lcm ((b : Int)).natAbs) = Nat.lcm a b := by
    rw [Int.natAbs_natCast, Int.natAbs_natCast]
    simp [Nat.lcm]
  refine PySem.W.mg_lcm (by rw [Int.natAbs_natCast]; exact ha) (by rw [Int.natAbs_natCast]; exact hb) ?_ ?_
  · rw [e1, Int.natAbs_natCast]
    by_cases z : Nat.lcm a b = 0
    · rw [z]
      decide
    · exact Nat.lt_of_lt_of_le ((Nat.log2_lt z).mpr sm) (by decide)
  · rw [e1]
    exact ⟨.int _, H, I.tok _, ⟨_, rfl⟩, q⟩
theorem pi_listK {X : Cx} {K0 : PySem.W.Frag} {tg l : Expr} {tl : TE} (hl : PE X l tl) (hK : X.K = K0 := by rfl) : PI X tg l (iList K0 tl) := hK ▸ pi_list hl
theorem cr_sumK {X : Cx} {K0 : PySem.W.Frag} (hc : X.calm = true) (hK : X.K = K0 := by rfl) : CallR X (.builtin "sum") (rSum K0) := hK ▸ cr_sum hc
/-- how many flips a cycle of bits has; is that odd -/
def fls (fl : Nat) (c : List Nat) : List Nat := c.map fun e => (fl.testBit e).toNat
def odd (fl : Nat) (c : List Nat) : Bool := decide ((fls fl c).sum % 2 = 1)
theorem nv_sum (l : List Nat) : nv l = (l.map fun (n : Nat) => (n : Int)).map V.int := by
  unfold nv
  rw [List.map_map]
  rfl
theorem cast_sum : ∀ l : List Nat, (l.map fun (n : Nat) => (n : Int)).sum = ((l.sum : Nat) : Int)
  | [] => rfl
  | x :: l => by
    rw [List.map_cons, List.sum_cons, cast_sum l, List.sum_cons, Int.natCast_add]
theorem g_sum {K : PySem.W.Frag} {H : Hp} {a : Addr} {l : List Nat} {Q : VK} (h : H a = some (.lst (nv l))) (q : Q (.int ((l.sum : Nat) : Int)) H) : rSum K [.ref a] H Q := by
  refine ⟨a, l.map fun (n : Nat) => (n : Int), rfl, ?_, ?_⟩
  · rw [← nv_sum]
    exact SqL.of h
  · rw [cast_sum]
    exact q
def Cys (fl : Nat) (H : Hp) (p : Addr) (cs : List (List Nat)) : Prop := ∃ as : List Addr, H p = some (.lst (as.map V.ref)) ∧ as.length = cs.length ∧
  ∀ (i : Nat) (c : List Nat), cs[i]? = some c → ∃ a l : Addr, as[i]? = some a ∧ a ≠ p ∧ l ≠ p ∧ H a = some (.tup [.ref l, .bl (odd fl c)]) ∧ H l = some (.lst (nv c))
section
variable {fl : Nat} {H H' : Hp} {p : Addr} {cs : List (List Nat)}
theorem Cys.nil (h : H p = some (.lst [])) : Cys fl H p [] := ⟨[], h, rfl, fun i x e => by cases e⟩
theorem Cys.ext (r : Cys fl H p cs) (e : Ext H H') : Cys fl H' p cs := by
  obtain ⟨as, h, l, g⟩ := r
  refine ⟨as, e _ _ h, l, fun i x q => ?_⟩
  obtain ⟨a, b, g1, g2, g3, g4, g5⟩ := g i x q
  exact ⟨a, b, g1, g2, g3, e _ _ g4, e _ _ g5⟩
theorem Cys.len (r : Cys fl H p cs) : ∃ xs, H p = some (.lst xs) ∧ xs.length = cs.length := by
  obtain ⟨as, h, l, g⟩ := r
  exact ⟨_, h, by rw [List.length_map]; exact l⟩
theorem Cys.push {a b : Addr} {c : List Nat} {xs : List V} (r : Cys fl H p cs) (hp : H p = some (.lst xs)) (ha : a ≠ p) (hb : b ≠ p) (oa : H a = some (.tup [.ref b, .bl (odd fl c)])) (ob : H b = some (.lst (nv c))) :
    Cys fl (upd H p (.lst (xs ++ [.ref a]))) p (cs ++ [c]) := by
  obtain ⟨as, h, l, g⟩ := r
  rw [hp] at h
  cases h
  refine ⟨as ++ [a], by rw [upd_same, List.map_append]; rfl, by rw [List.length_append, List.length_append, l]; rfl, fun i x q => ?_⟩
  by_cases hi : i < cs.length
  · rw [List.getElem?_append_left hi] at q
    obtain ⟨a', b', g1, g2, g3, g4, g5⟩ := g i x q
    exact ⟨a', b', by rw [List.getElem?_append_left (by omega)]; exact g1, g2, g3, by rw [upd_ne g2]; exact g4, by rw [upd_ne g3]; exact g5⟩
  · rw [List.getElem?_append_right (by omega)] at q
    have z : i - cs.length = 0 := by
      have := (List.getElem?_eq_some_iff.mp q).1
      simp at this
      omega
    rw [z] at q
    cases q
    exact ⟨a, b, by rw [List.getElem?_append_right (by omega), show i - as.length = 0 by omega]; rfl, ha, hb, by rw [upd_ne ha]; exact oa, by rw [upd_ne hb]; exact ob⟩
end
abbrev sp_bit_cycles (K : PySem.W.Frag) (C : Addr) : Sp := sp1 fun a H Q => ∃ ts fl, IsT C H a ts fl ∧ ∀ p cs H', Ext H H' → H p = none → Cys fl H' p cs → (∀ c ∈ cs, Cyc ts c ∧ c.length ≤ ts.length) → (∀ e, e < ts.length → ∃ c ∈ cs, e ∈ c) → cs.length ≤ ts.length → cs.flatten.Perm (List.range ts.length) → Q (.ref p) H'
/-- how many words of so many letters are as they were behind n turns -/
def left (k : Nat) (od : Bool) (n : Int) : Nat := if od = true ∧ n / ((Nat.gcd k n.natAbs : Nat) : Int) % 2 = 1 then 0 else 2 ^ Nat.gcd k n.natAbs
abbrev sp_words_left (K : PySem.W.Frag) : Sp := sp3 fun a b c H Q => ∃ (k : Nat) (od : Bool) (n : Int), a = .int (k : Int) ∧ b = .bl od ∧ c = .int n ∧ 1 ≤ k ∧ k ≤ 1000 ∧ n.natAbs < 2 ^ 1000 ∧ Q (.int ((left k od n : Nat) : Int)) H
/-- items that n turns leave: the words of all cycles together -/
def leftAll (fl : Nat) (cs : List (List Nat)) (n : Int) : Nat := (cs.map fun c => left c.length (odd fl c) n).foldl (· * ·) 1
abbrev sp_left_by (K : PySem.W.Frag) (C : Addr) : Sp := sp2 fun a b H Q => ∃ ts fl n, IsT C H a ts fl ∧ b = .int n ∧ n.natAbs < 2 ^ 1000 ∧
  ∀ cs H', Ext H H' → (∀ c ∈ cs, Cyc ts c ∧ c.length ≤ ts.length) → (∀ e, e < ts.length → ∃ c ∈ cs, e ∈ c) → cs.length ≤ ts.length → cs.flatten.Perm (List.range ts.length) → Q (.int ((leftAll fl cs n : Nat) : Int)) H'
theorem left_le {k : Nat} {od : Bool} {n : Int} (h : 1 ≤ k) : left k od n ≤ 2 ^ k := by
  have p := Nat.pow_le_pow_right (show 0 < 2 by decide) (Nat.gcd_le_left n.natAbs h)
  unfold left
  split
  · exact Nat.zero_le _
  · exact p
theorem leftAll_snoc {fl : Nat} {cs : List (List Nat)} {c : List Nat} {n : Int} : leftAll fl (cs ++ [c]) n = leftAll fl cs n * left c.length (odd fl c) n := by
  unfold leftAll
  rw [List.map_append, List.foldl_append]
  rfl

/-! ### the order: lcm of the rounds -/
/-- behind how many turns a cycle's bits are as they were, whatever they are -/
def per (fl : Nat) (c : List Nat) : Nat := if odd fl c = true then 2 * c.length else c.length
def ordAll (fl : Nat) (cs : List (List Nat)) : Nat := (cs.map (per fl)).foldl Nat.lcm 1
def prodc : List (List Nat) → Nat
  | [] => 1
  | c :: cs => c.length * prodc cs
theorem ordAll_snoc {fl : Nat} {cs : List (List Nat)} {c : List Nat} : ordAll fl (cs ++ [c]) = Nat.lcm (ordAll fl cs) (per fl c) := by
  unfold ordAll
  rw [List.map_append, List.foldl_append]
  rfl
theorem per_dvd {fl : Nat} {c : List Nat} : per fl c ∣ 2 * c.length := by
  unfold per
  split
  · exact Nat.dvd_refl _
  · exact Nat.dvd_mul_left _ _
theorem ord_dvd (fl : Nat) : ∀ (cs : List (List Nat)) (T U : Nat), T ∣ 2 * U → (cs.map (per fl)).foldl Nat.lcm T ∣ 2 * U * prodc cs
  | [], T, U, h => by
    show T ∣ 2 * U * 1
    rw [Nat.mul_one]
    exact h
  | c :: cs, T, U, h => by
    have z := ord_dvd fl cs (Nat.lcm T (per fl c)) (U * c.length) (Nat.lcm_dvd (by
      rw [← Nat.mul_assoc]
      exact Nat.dvd_trans h (Nat.dvd_mul_right _ _)) (by
      rw [Nat.mul_comm U, ← Nat.mul_assoc]
      exact Nat.dvd_trans per_dvd (Nat.dvd_mul_right _ _)))
    show (cs.map (per fl)).foldl Nat.lcm (Nat.lcm T (per fl c)) ∣ 2 * U * (c.length * prodc cs)
    rw [← Nat.mul_assoc, Nat.mul_assoc 2 U]
    exact z
theorem cube3 : ∀ x : Fin 101, x.val ^ 3 ≤ 3 ^ x.val := by decide +kernel
theorem prod_cube : ∀ {cs : List (List Nat)}, (∀ c ∈ cs, c.length ≤ 100) → prodc cs ^ 3 ≤ 3 ^ cs.flatten.length
  | [], _ => Nat.le_refl _
  | c :: cs, h => by
    show (c.length * prodc cs) ^ 3 ≤ 3 ^ (c ++ cs.flatten).length
    rw [Nat.mul_pow, List.length_append, Nat.pow_add]
    exact Nat.mul_le_mul (cube3 ⟨c.length, by have := h c List.mem_cons_self; omega⟩) (prod_cube fun d hd => h d (List.mem_cons_of_mem _ hd))
theorem prod_pos : ∀ {cs : List (List Nat)}, (∀ c ∈ cs, 1 ≤ c.length) → 0 < prodc cs
  | [], _ => Nat.zero_lt_one
  | c :: cs, h => Nat.mul_pos (h c List.mem_cons_self) (prod_pos fun d hd => h d (List.mem_cons_of_mem _ hd))
theorem ord_lt {fl : Nat} {cs : List (List Nat)} (h1 : ∀ c ∈ cs, 1 ≤ c.length ∧ c.length ≤ 100) (hs : cs.flatten.length ≤ 100) : ordAll fl cs < 2 ^ 60 := by
  have d := ord_dvd fl cs 1 1 ⟨2, rfl⟩
  have p := prod_pos fun c hc => (h1 c hc).1
  have q := prod_cube fun c hc => (h1 c hc).2
  have le : ordAll fl cs ≤ 2 * 1 * prodc cs := Nat.le_of_dvd (Nat.mul_pos (by decide) p) d
  have lt : prodc cs < 2 ^ 53 := Nat.lt_of_not_le fun z => by
    have a := Nat.pow_le_pow_left z 3
    have b : 3 ^ cs.flatten.length ≤ 3 ^ 100 := Nat.pow_le_pow_right (by decide) hs
    have e : (3 : Nat) ^ 100 < (2 ^ 53) ^ 3 := by decide +kernel
    omega
  omega
theorem ord_take {fl : Nat} {cs : List (List Nat)} (i : Nat) (h1 : ∀ c ∈ cs, 1 ≤ c.length ∧ c.length ≤ 100) (hs : cs.flatten.length ≤ 100) : ordAll fl (cs.take i) < 2 ^ 60 := by
  refine ord_lt (fun c hc => h1 c (List.mem_of_mem_take hc)) ?_
  have e : cs.flatten.length = (cs.take i).flatten.length + (cs.drop i).flatten.length := by
    rw [← List.length_append, ← List.flatten_append, List.take_append_drop]
  omega
abbrev sp_order (K : PySem.W.Frag) (C : Addr) : Sp := sp1 fun a H Q => ∃ ts fl, IsT C H a ts fl ∧
  ∀ cs H', Ext H H' → (∀ c ∈ cs, Cyc ts c ∧ c.length ≤ ts.length) → (∀ e, e < ts.length → ∃ c ∈ cs, e ∈ c) → cs.length ≤ ts.length → cs.flatten.Perm (List.range ts.length) → Q (.int ((ordAll fl cs : Nat) : Int)) H'
end G

/-! The first place of a text in another one. -/
namespace G
open PySem PySem.Spec PyProof.Rows L2 M
open PySem.Builtin PySem.Builtin.Str PySem.StrLaws
/-- does the text y stand in x from i on -/
def stands (x y : Str) (i : Nat) : Bool := decide (i + y.length ≤ x.length) && subAt x y i
theorem occ_full {s sub : Str} {hi : Nat} : ∀ (l : List Nat) (st : Array Nat × Nat), 1 ≤ st.fst.size → (forIn l st (occBody s sub hi 1)).run.fst = st.fst
  | [], st, h => rfl
  | a :: l, st, h => by
    rw [List.forIn_cons]
    unfold occBody
    rw [if_neg (fun z => by have := z.1.1.1; omega)]
    exact occ_full l (st.fst, st.snd) h
theorem occ_find {s sub : Str} : ∀ (l : List Nat) (free : Nat), (∀ i ∈ l, free ≤ i) → (forIn l ((#[] : Array Nat), free) (occBody s sub s.length 1)).run.fst.toList = (l.find? (stands s sub)).toList
  | [], free, _ => rfl
  | a :: l, free, hf => by
    rw [List.forIn_cons]
    unfold occBody
    have ha : free ≤ a := hf a List.mem_cons_self
    by_cases hc : stands s sub a = true
    · have hc' := hc
      unfold stands at hc'
      rw [Bool.and_eq_true, decide_eq_true_eq] at hc'
      rw [if_pos ⟨⟨⟨by simp, ha⟩, hc'.1⟩, hc'.2⟩, List.find?_cons_of_pos hc]
      have := occ_full (s := s) (sub := sub) (hi := s.length) l ((#[] : Array Nat).push a, a + sub.length) (by simp)
      unfold occBody at this
      exact congrArg Array.toList this
    · have hc' : ¬ (((((#[] : Array Nat), free).fst.size < 1 ∧ ((#[] : Array Nat), free).snd ≤ a) ∧ a + sub.length ≤ s.length) ∧ subAt s sub a = true) := fun z => hc (by
        unfold stands
        rw [Bool.and_eq_true, decide_eq_true_eq]
        exact ⟨z.1.2, z.2⟩)
      rw [if_neg hc', List.find?_cons_of_neg hc]
      exact occ_find l free fun i hi => hf i (List.mem_cons_of_mem _ hi)
theorem occ_first (x y : Str) (lo : Nat) : occurrences x y lo x.length 1 = ((List.range' lo (x.length + 1 - lo)).find? (stands x y)).toList := by
  rw [occ_eq]
  exact occ_find _ lo fun i hi => (List.mem_range'_1.mp hi).1
theorem find_congr {p q : Nat → Bool} : ∀ {l : List Nat}, (∀ i ∈ l, p i = q i) → l.find? p = l.find? q
  | [], _ => rfl
  | a :: l, h => by
    rw [List.find?_cons, List.find?_cons, h a List.mem_cons_self, find_congr fun i hi => h i (List.mem_cons_of_mem _ hi)]
theorem cps_app (a b : Str) : (a ++ b).cps.toList = a.cps.toList ++ b.cps.toList := Array.toList_append
theorem len_list (a : Str) : a.length = a.cps.toList.length := by
  rw [Array.length_toList]
  rfl
/-- the word l, d letters on -/
def rot (l : List Nat) (d : Nat) : List Nat := ((l ++ l).drop d).take l.length
theorem stands_rot {z w : Str} {d : Nat} (h : w.length = z.length) : stands (z ++ z) w d = (decide (d ≤ z.length) && (rot z.cps.toList d == w.cps.toList)) := by
  unfold stands rot
  rw [subAt_eq, cps_app, h, len_list (z ++ z), cps_app, List.length_append, len_list z]
  congr 1
  exact decide_eq_decide.mpr (by omega)
/-- the least number of letters, from one on, that leaves the word -/
def wp (l : List Nat) : Nat := ((List.range' 1 l.length).find? fun d => rot l d == l).getD 0
/-- by how many letters one word is the other one, if it is -/
def wt (l m : List Nat) : Option Nat := (List.range m.length).find? fun d => rot m d == l
theorem rot_full (l : List Nat) : rot l l.length = l := by
  unfold rot
  rw [List.drop_left, List.take_length]
theorem rot_zero (l : List Nat) : rot l 0 = l := by
  unfold rot
  rw [List.drop_zero, List.take_left]
theorem find_double {z w : Str} (lo : Nat) (h : w.length = z.length) (hl : lo ≤ z.length) : occurrences (z ++ z) w lo (z ++ z).length 1 = ((List.range' lo (z.length + 1 - lo)).find? fun d => rot z.cps.toList d == w.cps.toList).toList := by
  rw [occ_first]
  have e1 : (z ++ z).length = z.length + z.length := by
    rw [len_list, cps_app, List.length_append, ← len_list]
  rw [e1, show z.length + z.length + 1 - lo = (z.length + 1 - lo) + z.length by omega, ← List.range'_append_1, List.find?_append]
  have e2 : (List.range' (lo + (z.length + 1 - lo)) z.length).find? (stands (z ++ z) w) = none := by
    rw [List.find?_eq_none]
    intro i hi
    rw [stands_rot h, decide_eq_false (by have := (List.mem_range'_1.mp hi).1; omega)]
    simp
  rw [e2, Option.or_none]
  congr 1
  refine find_congr fun i hi => ?_
  rw [stands_rot h, decide_eq_true (by have := (List.mem_range'_1.mp hi).2; omega), Bool.true_and]
abbrev sp_word_period (K : PySem.W.Frag) : Sp := sp1 fun a H Q => ∃ z : Str, a = .str z ∧ 1 ≤ z.length ∧ z.length ≤ 1000 ∧ Q (.int ((wp z.cps.toList : Nat) : Int)) H
abbrev sp_word_turns (K : PySem.W.Frag) : Sp := sp2 fun a b H Q => ∃ z w : Str, a = .str z ∧ b = .str w ∧ z.length = w.length ∧ 1 ≤ z.length ∧ z.length ≤ 1000 ∧ Q (match wt z.cps.toList w.cps.toList with | some d => .int ((d : Nat) : Int) | none => .non) H
theorem find3_wp {z : Str} (h1 : 1 ≤ z.length) : Txt.find3 (z ++ z) z 1 = ((wp z.cps.toList : Nat) : Int) := by
  unfold Txt.find3
  rw [show fromIndex (z ++ z).length 1 = 1 from rfl, find_double 1 rfl h1, show z.length + 1 - 1 = z.length by omega]
  unfold wp
  rw [← len_list]
  cases hc : (List.range' 1 z.length).find? fun d => rot z.cps.toList d == z.cps.toList with
  | some d => rfl
  | none =>
    have := List.find?_eq_none.mp hc z.length (List.mem_range'_1.mpr ⟨h1, by omega⟩)
    rw [len_list, rot_full] at this
    simp at this
theorem find_wt {z w : Str} (h : z.length = w.length) (h1 : 1 ≤ w.length) : Txt.find (w ++ w) z = (match wt z.cps.toList w.cps.toList with | some d => ((d : Nat) : Int) | none => -1) := by
  unfold Txt.find
  rw [find_double 0 h (Nat.zero_le _), Nat.sub_zero, ← List.range_eq_range', List.range_succ, List.find?_append]
  unfold wt
  rw [← len_list]
  cases hc : (List.range w.length).find? fun d => rot w.cps.toList d == z.cps.toList with
  | some d => rfl
  | none =>
    have := List.find?_eq_none.mp hc 0 (List.mem_range.mpr h1)
    rw [rot_zero] at this
    have e : (rot w.cps.toList w.length == z.cps.toList) = false := by
      rw [len_list, rot_full]
      simpa using this
    rw [Option.none_or, List.find?_cons_of_neg (by rw [e]; decide)]
    rfl
abbrev sp_after (K : PySem.W.Frag) (C : Addr) : Sp := sp3 fun a b c H Q => ∃ ts fl p n, IsT C H a ts fl ∧ b = .int ((p : Nat) : Int) ∧ p < 2 ^ ts.length ∧ c = .int n ∧ ∀ H', Ext H H' → Q (.int ((go (pT ts fl n) (pF ts fl n) p : Nat) : Int)) H'
/-- the word of a place at a cycle of bits, as letters 0 and 1 -/
def wl (p fl : Nat) (c : List Nat) : List Nat := (vis fl (c ++ c) false).map fun x => 48 + (p.testBit x.1 ^^ x.2).toNat
abbrev sp_words (K : PySem.W.Frag) (C : Addr) : Sp := sp2 fun a b H Q => ∃ ts fl p, IsT C H a ts fl ∧ b = .int ((p : Nat) : Int) ∧ ∀ (pp : Addr) (cs : List (List Nat)) (zs : List Str) H', Ext H H' → H pp = none → H' pp = some (.lst (zs.map V.str)) → zs.map (fun z => z.cps.toList) = cs.map (wl p fl) → (∀ c ∈ cs, Cyc ts c ∧ c.length ≤ ts.length) → (∀ e, e < ts.length → ∃ c ∈ cs, e ∈ c) → cs.length ≤ ts.length → cs.flatten.Perm (List.range ts.length) → Q (.ref pp) H'
theorem str_bit (b : Bool) : Str.ofString (toString ((b.toNat : Nat) : Int)) = ⟨#[48 + b.toNat]⟩ := by
  cases b <;> decide +kernel
theorem log_bit (b : Bool) : ((b.toNat : Nat) : Int).natAbs.log2 < 1920 := by
  cases b <;> decide

/-! ### the least rotation divides the length -/
def Rp (l : List Nat) (d : Nat) : Prop := ∀ i, i < l.length → l[(i + d) % l.length]? = l[i]?
theorem rot_get {l : List Nat} {d i : Nat} (hd : d ≤ l.length) (hi : i < l.length) : (rot l d)[i]? = l[(i + d) % l.length]? := by
  unfold rot
  rw [List.getElem?_take_of_lt hi, List.getElem?_drop]
  by_cases h : d + i < l.length
  · rw [List.getElem?_append_left h, Nat.mod_eq_of_lt (by omega), Nat.add_comm]
  · rw [List.getElem?_append_right (by omega), show (i + d) % l.length = d + i - l.length by
      rw [Nat.mod_eq_sub_mod (by omega), Nat.mod_eq_of_lt (by omega)]
      omega]
theorem rot_len {l : List Nat} {d : Nat} (hd : d ≤ l.length) : (rot l d).length = l.length := by
  unfold rot
  rw [List.length_take, List.length_drop, List.length_append]
  omega
theorem rot_iff {l : List Nat} {d : Nat} (hd : d ≤ l.length) : rot l d = l ↔ Rp l d := by
  constructor
  · intro h i hi
    rw [← rot_get hd hi, h]
  · intro h
    refine List.ext_getElem? fun i => ?_
    by_cases hi : i < l.length
    · rw [rot_get hd hi]
      exact h i hi
    · rw [List.getElem?_eq_none (by rw [rot_len hd]; omega), List.getElem?_eq_none (by omega)]
theorem Rp.mul {l : List Nat} {d : Nat} (h : Rp l d) : ∀ q, Rp l (q * d)
  | 0 => fun i hi => by rw [Nat.zero_mul, Nat.add_zero, Nat.mod_eq_of_lt hi]
  | q + 1 => fun i hi => by
    have pos : 0 < l.length := by omega
    have z := h.mul q ((i + d) % l.length) (Nat.mod_lt _ pos)
    rw [h i hi, Nat.mod_add_mod] at z
    rw [Nat.succ_mul, show i + (q * d + d) = i + d + q * d by omega]
    exact z
theorem wp_spec {l : List Nat} (h : 1 ≤ l.length) : 1 ≤ wp l ∧ wp l ≤ l.length ∧ Rp l (wp l) ∧ ∀ d, 1 ≤ d → d < wp l → ¬ Rp l d := by
  unfold wp
  cases hc : (List.range' 1 l.length).find? fun d => rot l d == l with
  | none =>
    have := List.find?_eq_none.mp hc l.length (List.mem_range'_1.mpr ⟨h, by omega⟩)
    rw [rot_full] at this
    simp at this
  | some d =>
    have m := List.mem_range'_1.mp (List.mem_of_find?_eq_some hc)
    have t := List.find?_some hc
    rw [beq_iff_eq] at t
    have md : d ≤ l.length := by omega
    refine ⟨m.1, md, (rot_iff md).mp t, fun e e1 e2 z => ?_⟩
    have e2' : e < d := e2
    obtain ⟨_, as, bs, eq, no⟩ := List.find?_eq_some_iff_append.mp hc
    have mem : e ∈ as := by
      have me : e ∈ List.range' 1 l.length := List.mem_range'_1.mpr ⟨e1, by omega⟩
      rw [eq] at me
      rcases List.mem_append.mp me with q | q
      · exact q
      · have pw := List.pairwise_lt_range' (s := 1) (n := l.length)
        rw [eq] at pw
        rcases List.mem_cons.mp q with q | q
        · omega
        · have := List.rel_of_pairwise_cons (List.pairwise_append.mp pw).2.1 q
          omega
    have ne := no e mem
    rw [Bool.not_eq_true', beq_eq_false_iff_ne] at ne
    exact ne ((rot_iff (by omega)).mpr z)
theorem wp_dvd {l : List Nat} (h : 1 ≤ l.length) : wp l ∣ l.length := by
  obtain ⟨h1, h2, h3, h4⟩ := wp_spec h
  by_cases z : l.length % wp l = 0
  · exact Nat.dvd_of_mod_eq_zero z
  · refine absurd ?_ (h4 (l.length % wp l) (by omega) (Nat.mod_lt _ h1))
    intro i hi
    have q := h3.mul (l.length / wp l) ((i + l.length % wp l) % l.length) (Nat.mod_lt _ (by omega))
    rw [Nat.mod_add_mod] at q
    have e : i + l.length % wp l + l.length / wp l * wp l = i + l.length := by
      have := Nat.div_add_mod l.length (wp l)
      rw [Nat.mul_comm] at this
      omega
    rw [e, Nat.add_mod_right, Nat.mod_eq_of_lt hi] at q
    exact q.symm
theorem wl_len (p fl : Nat) (c : List Nat) : (wl p fl c).length = 2 * c.length := by
  unfold wl
  rw [List.length_map, vis_len, List.length_append]
  omega
/-- lcm of what each cycle gives -/
def lcmAll (g : List Nat → Nat) (cs : List (List Nat)) : Nat := (cs.map g).foldl Nat.lcm 1
theorem lcmAll_snoc {g : List Nat → Nat} {cs : List (List Nat)} {c : List Nat} : lcmAll g (cs ++ [c]) = Nat.lcm (lcmAll g cs) (g c) := by
  unfold lcmAll
  rw [List.map_append, List.foldl_append]
  rfl
theorem lcm_dvd2 {g : List Nat → Nat} : ∀ (cs : List (List Nat)) (T U : Nat), (∀ c ∈ cs, g c ∣ 2 * c.length) → T ∣ 2 * U → (cs.map g).foldl Nat.lcm T ∣ 2 * U * prodc cs
  | [], T, U, _, h => by
    show T ∣ 2 * U * 1
    rw [Nat.mul_one]
    exact h
  | c :: cs, T, U, hg, h => by
    have z := lcm_dvd2 cs (Nat.lcm T (g c)) (U * c.length) (fun d hd => hg d (List.mem_cons_of_mem _ hd)) (Nat.lcm_dvd (by
      rw [← Nat.mul_assoc]
      exact Nat.dvd_trans h (Nat.dvd_mul_right _ _)) (by
      rw [Nat.mul_comm U, ← Nat.mul_assoc]
      exact Nat.dvd_trans (hg c List.mem_cons_self) (Nat.dvd_mul_right _ _)))
    show (cs.map g).foldl Nat.lcm (Nat.lcm T (g c)) ∣ 2 * U * (c.length * prodc cs)
    rw [← Nat.mul_assoc, Nat.mul_assoc 2 U]
    exact z
theorem lcmAll_lt {g : List Nat → Nat} {cs : List (List Nat)} (hg : ∀ c ∈ cs, g c ∣ 2 * c.length) (h1 : ∀ c ∈ cs, 1 ≤ c.length ∧ c.length ≤ 100) (hs : cs.flatten.length ≤ 100) : lcmAll g cs < 2 ^ 60 := by
  have d := lcm_dvd2 cs 1 1 hg ⟨2, rfl⟩
  have p := prod_pos fun c hc => (h1 c hc).1
  have q := prod_cube fun c hc => (h1 c hc).2
  have le : lcmAll g cs ≤ 2 * 1 * prodc cs := Nat.le_of_dvd (Nat.mul_pos (by decide) p) d
  have lt : prodc cs < 2 ^ 53 := Nat.lt_of_not_le fun z => by
    have a := Nat.pow_le_pow_left z 3
    have b : 3 ^ cs.flatten.length ≤ 3 ^ 100 := Nat.pow_le_pow_right (by decide) hs
    have e : (3 : Nat) ^ 100 < (2 ^ 53) ^ 3 := by decide +kernel
    omega
  omega
theorem lcmAll_take {g : List Nat → Nat} {cs : List (List Nat)} (i : Nat) (hg : ∀ c ∈ cs, g c ∣ 2 * c.length) (h1 : ∀ c ∈ cs, 1 ≤ c.length ∧ c.length ≤ 100) (hs : cs.flatten.length ≤ 100) : lcmAll g (cs.take i) < 2 ^ 60 := by
  refine lcmAll_lt (fun c hc => hg c (List.mem_of_mem_take hc)) (fun c hc => h1 c (List.mem_of_mem_take hc)) ?_
  have e : cs.flatten.length = (cs.take i).flatten.length + (cs.drop i).flatten.length := by
    rw [← List.length_append, ← List.flatten_append, List.take_append_drop]
  omega
/-- behind how many turns an item is at its place again -/
def perAll (p fl : Nat) (cs : List (List Nat)) : Nat := lcmAll (fun c => wp (wl p fl c)) cs
theorem wp_two {p fl : Nat} {c : List Nat} (h : 1 ≤ c.length) : wp (wl p fl c) ∣ 2 * c.length ∧ wp (wl p fl c) ≤ 2 * c.length := by
  have l := wl_len p fl c
  have d := wp_dvd (l := wl p fl c) (by omega)
  rw [l] at d
  exact ⟨d, Nat.le_of_dvd (by omega) d⟩
abbrev sp_period (K : PySem.W.Frag) (C : Addr) : Sp := sp2 fun a b H Q => ∃ ts fl p, IsT C H a ts fl ∧ b = .int ((p : Nat) : Int) ∧ p < 2 ^ ts.length ∧ ∀ (cs : List (List Nat)) H', Ext H H' → (∀ c ∈ cs, Cyc ts c ∧ c.length ≤ ts.length) → (∀ e, e < ts.length → ∃ c ∈ cs, e ∈ c) → cs.length ≤ ts.length → cs.flatten.Perm (List.range ts.length) → Q (.int ((perAll p fl cs : Nat) : Int)) H'

/-! ### an item's words n turns on are its words, rotated -/
section
variable {ts c : List Nat} {fl p : Nat}
theorem wl_step (ok : Ts ts) (h : Cyc ts c) (n : Int) {j : Nat} (hj : j < 2 * c.length) : (wl (go (pT ts fl n) (pF ts fl n) p) fl c)[((j + n) % ((2 * c.length : Nat) : Int)).toNat]? = (wl p fl c)[j]? := by
  obtain ⟨b, v, hv, hb, _⟩ := vis_at (fl := fl) h hj
  have bl : b < ts.length := h.lt (List.mem_of_getElem? hb)
  have st := vis_pw ok h hj hv n
  obtain ⟨t, w, e⟩ : ∃ t w, pw ts fl n (b, v) = (t, w) := ⟨_, _, rfl⟩
  have e0 := pw_two e
  have g := go_p (fl := fl) ok n p bl
  have ep : pw ts fl n (b, p.testBit b) = (t, p.testBit b ^^ (v ^^ w)) := by
    obtain ⟨t2, w2, e2⟩ : ∃ t w, pw ts fl n (b, p.testBit b) = (t, w) := ⟨_, _, rfl⟩
    have e3 := pw_two e2
    rw [e0] at e3
    injection e3 with h1 h2
    rw [e2, ← h1, h2]
    congr 1
    cases p.testBit b <;> cases w2 <;> rfl
  rw [ep] at g
  dsimp only at g
  unfold wl
  rw [List.getElem?_map, List.getElem?_map, hv]
  rw [st, e]
  show some (48 + ((go (pT ts fl n) (pF ts fl n) p).testBit t ^^ w).toNat) = some (48 + (p.testBit b ^^ v).toNat)
  rw [g]
  cases p.testBit b <;> cases v <;> cases w <;> rfl
end
theorem wp_min {l : List Nat} (h : 1 ≤ l.length) {d : Nat} (r : Rp l d) : wp l ∣ d := by
  obtain ⟨h1, h2, h3, h4⟩ := wp_spec h
  by_cases z : d % wp l = 0
  · exact Nat.dvd_of_mod_eq_zero z
  · refine absurd ?_ (h4 (d % wp l) (by omega) (Nat.mod_lt _ h1))
    intro i hi
    have q := h3.mul (d / wp l) ((i + d % wp l) % l.length) (Nat.mod_lt _ (by omega))
    rw [Nat.mod_add_mod] at q
    have e : i + d % wp l + d / wp l * wp l = i + d := by
      have := Nat.div_add_mod d (wp l)
      rw [Nat.mul_comm] at this
      omega
    rw [e, r i hi] at q
    exact q.symm
theorem wp_iff {l : List Nat} (h : 1 ≤ l.length) {d : Nat} : Rp l d ↔ wp l ∣ d := by
  constructor
  · exact wp_min h
  · rintro ⟨q, rfl⟩
    rw [Nat.mul_comm]
    exact (wp_spec h).2.2.1.mul q
theorem shift_nat {k j : Nat} {n : Int} (hk : 0 < k) : ((j + n) % ((k : Nat) : Int)).toNat = (j + (n % ((k : Nat) : Int)).toNat) % k := by
  have p := Int.emod_nonneg n (show ((k : Nat) : Int) ≠ 0 by omega)
  have e : ((n % ((k : Nat) : Int)).toNat : Int) = n % ((k : Nat) : Int) := Int.toNat_of_nonneg p
  have z : ((j + n) % ((k : Nat) : Int)) = (((j + (n % ((k : Nat) : Int)).toNat) % k : Nat) : Int) := by
    rw [Int.natCast_emod, Int.natCast_add, e, Int.add_emod_emod]
  rw [z]
  rfl
theorem dvd_mod {w k : Nat} {n : Int} (hk : 0 < k) (hw : w ∣ k) : w ∣ (n % ((k : Nat) : Int)).toNat ↔ ((w : Nat) : Int) ∣ n := by
  have p := Int.emod_nonneg n (show ((k : Nat) : Int) ≠ 0 by omega)
  have e : ((n % ((k : Nat) : Int)).toNat : Int) = n % ((k : Nat) : Int) := Int.toNat_of_nonneg p
  rw [← Int.natCast_dvd_natCast, e]
  have hk2 : ((w : Nat) : Int) ∣ ((k : Nat) : Int) * (n / ((k : Nat) : Int)) := Int.dvd_trans (Int.natCast_dvd_natCast.mpr hw) (Int.dvd_mul_right _ _)
  have eq := Int.emod_def n ((k : Nat) : Int)
  constructor
  · intro h
    have := Int.dvd_add h hk2
    rw [eq, Int.sub_add_cancel] at this
    exact this
  · intro h
    rw [eq]
    exact Int.dvd_sub h hk2
section
variable {ts c : List Nat} {fl p : Nat}
/-- the item stays in the bits of a cycle exactly if the least rotation of its word divides n -/
theorem wl_home (ok : Ts ts) (h : Cyc ts c) (n : Int) : wl (go (pT ts fl n) (pF ts fl n) p) fl c = wl p fl c ↔ ((wp (wl p fl c) : Nat) : Int) ∣ n := by
  have pos := h.one
  have ln := wl_len p fl c
  have lq := wl_len (go (pT ts fl n) (pF ts fl n) p) fl c
  have dv := wp_dvd (l := wl p fl c) (by omega)
  rw [ln] at dv
  rw [← dvd_mod (by omega) dv, ← wp_iff (by omega)]
  have step : ∀ j, j < 2 * c.length → (wl (go (pT ts fl n) (pF ts fl n) p) fl c)[(j + (n % ((2 * c.length : Nat) : Int)).toNat) % (2 * c.length)]? = (wl p fl c)[j]? := fun j hj => by
    rw [← shift_nat (by omega)]
    exact wl_step ok h n hj
  generalize (n % ((2 * c.length : Nat) : Int)).toNat = d at step ⊢
  constructor
  · intro e i hi
    rw [ln] at hi ⊢
    rw [e] at step
    exact step i hi
  · intro r
    refine List.ext_getElem? fun i => ?_
    by_cases hi : i < 2 * c.length
    · -- i = (j + d) % 2k
      obtain ⟨j, hj, ej⟩ : ∃ j, j < 2 * c.length ∧ (j + d) % (2 * c.length) = i := by
        refine ⟨(i + (2 * c.length - d % (2 * c.length))) % (2 * c.length), Nat.mod_lt _ (by omega), ?_⟩
        have dm := Nat.mod_lt d (show 2 * c.length > 0 by omega)
        rw [Nat.mod_add_mod, Nat.add_mod _ d, Nat.mod_add_mod, show i + (2 * c.length - d % (2 * c.length)) + d % (2 * c.length) = i + 2 * c.length by omega, Nat.add_mod_right, Nat.mod_eq_of_lt hi]
      have s := step j hj
      have t := r j (by omega)
      rw [ln] at t
      rw [ej] at s t
      rw [s, t]
    · rw [List.getElem?_eq_none (by omega), List.getElem?_eq_none (by omega)]
/-- alike words: alike bits -/
theorem wl_bits (h : Cyc ts c) {q : Nat} (e : wl q fl c = wl p fl c) {b : Nat} (hb : b ∈ c) : q.testBit b = p.testBit b := by
  obtain ⟨i, hi⟩ := List.mem_iff_getElem?.mp hb
  have il := (List.getElem?_eq_some_iff.mp hi).1
  obtain ⟨b', v, hv, hb', _⟩ := vis_at (fl := fl) h (show i < 2 * c.length by omega)
  rw [Nat.mod_eq_of_lt il, hi] at hb'
  cases hb'
  have g := congrArg (fun l => l[i]?) e
  unfold wl at g
  simp only [List.getElem?_map, hv, Option.map_some, Option.some.injEq] at g
  revert g
  cases q.testBit b <;> cases p.testBit b <;> cases v <;> simp
end
theorem nat_dvd {m : Nat} {n : Int} : ((m : Nat) : Int) ∣ n ↔ m ∣ n.natAbs := by
  rw [← Int.natAbs_dvd_natAbs, Int.natAbs_natCast]
theorem lcmfold_iff {g : List Nat → Nat} {k : Nat} : ∀ (cs : List (List Nat)) (T : Nat), (cs.map g).foldl Nat.lcm T ∣ k ↔ T ∣ k ∧ ∀ c ∈ cs, g c ∣ k
  | [], T => ⟨fun h => ⟨h, fun c hc => (by cases hc)⟩, fun h => h.1⟩
  | c :: cs, T => by
    show (cs.map g).foldl Nat.lcm (Nat.lcm T (g c)) ∣ k ↔ _
    rw [lcmfold_iff cs, Nat.lcm_dvd_iff]
    constructor
    · rintro ⟨⟨h1, h2⟩, h3⟩
      refine ⟨h1, fun d hd => ?_⟩
      rcases List.mem_cons.mp hd with rfl | q
      · exact h2
      · exact h3 d q
    · rintro ⟨h1, h2⟩
      exact ⟨⟨h1, h2 c List.mem_cons_self⟩, fun d hd => h2 d (List.mem_cons_of_mem _ hd)⟩
theorem lcmAll_iff {g : List Nat → Nat} {k : Nat} {cs : List (List Nat)} : lcmAll g cs ∣ k ↔ ∀ c ∈ cs, g c ∣ k := by
  unfold lcmAll
  rw [lcmfold_iff]
  exact ⟨fun h => h.2, fun h => ⟨Nat.one_dvd _, h⟩⟩
/-- n turns bring an item home exactly if its period divides n -/
theorem home_iff {ts : List Nat} {fl p : Nat} {cs : List (List Nat)} (ok : Ts ts) (hp : p < 2 ^ ts.length) (cy : ∀ c ∈ cs, Cyc ts c ∧ c.length ≤ ts.length) (cov : ∀ e, e < ts.length → ∃ c ∈ cs, e ∈ c) (n : Int) :
    go (pT ts fl n) (pF ts fl n) p = p ↔ perAll p fl cs ∣ n.natAbs := by
  unfold perAll
  rw [lcmAll_iff]
  constructor
  · intro h c hc
    rw [← nat_dvd]
    refine (wl_home ok (cy c hc).1 n).mp ?_
    rw [h]
  · intro h
    refine bits_ext (n := ts.length) (by have := go_lt (pT ts fl n) (pF ts fl n) p; rw [pT_len] at this; exact this) hp fun e he => ?_
    obtain ⟨c, hc, ec⟩ := cov e he
    exact wl_bits (cy c hc).1 ((wl_home ok (cy c hc).1 n).mpr (nat_dvd.mpr (h c hc))) ec
/-- the period does not hang on which cycles were found -/
theorem perAll_uniq {ts : List Nat} {fl p : Nat} {cs ds : List (List Nat)} (ok : Ts ts) (hp : p < 2 ^ ts.length) (cy : ∀ c ∈ cs, Cyc ts c ∧ c.length ≤ ts.length) (cov : ∀ e, e < ts.length → ∃ c ∈ cs, e ∈ c)
    (dy : ∀ c ∈ ds, Cyc ts c ∧ c.length ≤ ts.length) (dov : ∀ e, e < ts.length → ∃ c ∈ ds, e ∈ c) : perAll p fl cs = perAll p fl ds := by
  refine Nat.dvd_antisymm ?_ ?_
  · have := (home_iff (fl := fl) ok hp cy cov ((perAll p fl ds : Nat) : Int)).mp ((home_iff (fl := fl) ok hp dy dov _).mpr (by rw [Int.natAbs_natCast]; exact Nat.dvd_refl _))
    rw [Int.natAbs_natCast] at this
    exact this
  · have := (home_iff (fl := fl) ok hp dy dov ((perAll p fl cs : Nat) : Int)).mp ((home_iff (fl := fl) ok hp cy cov _).mpr (by rw [Int.natAbs_natCast]; exact Nat.dvd_refl _))
    rw [Int.natAbs_natCast] at this
    exact this
abbrev sp_check_places (K : PySem.W.Frag) : Sp := sp2 fun a b H Q => ∃ (l : Addr) (ps : List Nat) (n : Nat), a = .ref l ∧ b = .int (n : Int) ∧ H l = some (.lst (nv ps)) ∧ 1 ≤ ps.length ∧ ps.length ≤ 20 ∧ n ≤ 1000 ∧ (∀ p ∈ ps, p < 2 ^ n) ∧ ∀ H', Ext H H' → Q .non H'
/-- the number that divides just those numbers of turns which bring all these places home -/
abbrev sp_all_home (K : PySem.W.Frag) (C : Addr) : Sp := sp2 fun a b H Q => ∃ ts fl l ps, IsT C H a ts fl ∧ b = .ref l ∧ H l = some (.lst (nv ps)) ∧ 1 ≤ ps.length ∧ ps.length ≤ 20 ∧ (∀ p ∈ ps, p < 2 ^ ts.length) ∧
  ∀ (M : Nat) H', Ext H H' → M < 2 ^ 60 → (∀ n : Int, M ∣ n.natAbs ↔ ∀ p ∈ ps, go (pT ts fl n) (pF ts fl n) p = p) → Q (.int (M : Int)) H'
/-- the cycles of ts, each bit in one of them -/
structure Good (ts : List Nat) (cs : List (List Nat)) : Prop where
  cy : ∀ c ∈ cs, Cyc ts c ∧ c.length ≤ ts.length
  cov : ∀ e, e < ts.length → ∃ c ∈ cs, e ∈ c
  pm : cs.flatten.Perm (List.range ts.length)
theorem Good.lens {ts : List Nat} {cs : List (List Nat)} (g : Good ts cs) (hm : ts.length ≤ 100) : ∀ c ∈ cs, 1 ≤ c.length ∧ c.length ≤ 100 := fun c hc => ⟨(g.cy c hc).1.one, by have := (g.cy c hc).2; omega⟩
theorem Good.prod {ts : List Nat} {cs : List (List Nat)} (g : Good ts cs) (hm : ts.length ≤ 100) : 0 < prodc cs ∧ prodc cs < 2 ^ 53 := by
  have h1 := g.lens hm
  have hs : cs.flatten.length ≤ 100 := by
    rw [g.pm.length_eq, List.length_range]
    exact hm
  refine ⟨prod_pos fun c hc => (h1 c hc).1, Nat.lt_of_not_le fun z => ?_⟩
  have q := prod_cube fun c hc => (h1 c hc).2
  have a := Nat.pow_le_pow_left z 3
  have b : 3 ^ cs.flatten.length ≤ 3 ^ 100 := Nat.pow_le_pow_right (by decide) hs
  have e : (3 : Nat) ^ 100 < (2 ^ 53) ^ 3 := by decide +kernel
  omega
theorem Good.per {ts : List Nat} {cs : List (List Nat)} {p fl : Nat} (g : Good ts cs) (hm : ts.length ≤ 100) : perAll p fl cs ∣ 2 * prodc cs := by
  have z := lcm_dvd2 (g := fun c => wp (wl p fl c)) cs 1 1 (fun c hc => (wp_two (g.lens hm c hc).1).1) ⟨2, rfl⟩
  rw [Nat.mul_one] at z
  exact z
/-- the first of least, least + step, .. (divisor of them) with such a rest -/
def firstRest (least step rest divisor : Nat) : Option Nat := ((List.range divisor).map fun k => least + step * k).find? fun n => n % divisor == rest
abbrev sp_first_with_rest (K : PySem.W.Frag) : Sp := sp4 fun a b c d H Q => ∃ least step rest divisor : Nat, a = .int (least : Int) ∧ b = .int (step : Int) ∧ c = .int (rest : Int) ∧ d = .int (divisor : Int) ∧ least < 2 ^ 60 ∧ 1 ≤ step ∧ step < 2 ^ 60 ∧ 1 ≤ divisor ∧ divisor ≤ 200 ∧
  Q (match firstRest least step rest divisor with | some m => .int ((m : Nat) : Int) | none => .non) H

/-! ### the order -/
theorem odd_cons (fl b : Nat) (r : List Nat) : odd fl (b :: r) = (fl.testBit b ^^ odd fl r) := by
  unfold odd fls
  rw [List.map_cons, List.sum_cons]
  generalize (r.map fun e => (fl.testBit e).toNat).sum = S
  cases fl.testBit b with
  | false =>
    rw [Bool.false_xor]
    simp
  | true =>
    rw [Bool.true_xor]
    by_cases h : S % 2 = 1
    · rw [decide_eq_true h, decide_eq_false (show ¬ (true.toNat + S) % 2 = 1 by show ¬ (1 + S) % 2 = 1; omega)]
      rfl
    · rw [decide_eq_false h, decide_eq_true (show (true.toNat + S) % 2 = 1 by show (1 + S) % 2 = 1; omega)]
      rfl
theorem xs_odd (fl : Nat) : ∀ (c : List Nat) (v : Bool), xs fl c v = (v ^^ odd fl c)
  | [], v => by
    show v = _
    cases v <;> rfl
  | b :: r, v => by
    show xs fl r (v ^^ fl.testBit b) = _
    rw [xs_odd fl r, odd_cons, Bool.xor_assoc]
/-- a round on, an odd cycle has all bits flipped -/
theorem vis_round {fl : Nat} {c : List Nat} {i : Nat} (hi : i < c.length) {b : Nat} {v : Bool} (h : (vis fl (c ++ c) false)[i]? = some (b, v)) : (vis fl (c ++ c) false)[i + c.length]? = some (b, v ^^ odd fl c) := by
  have l2 : (c ++ c).length = c.length + c.length := List.length_append
  rw [vis_get fl _ _ i (by omega)] at h
  rw [vis_get fl _ _ (i + c.length) (by omega)]
  injection h with h
  injection h with h1 h2
  have g : (c ++ c).getD (i + c.length) 0 = (c ++ c).getD i 0 := by
    rw [List.getD_eq_getElem?_getD, List.getD_eq_getElem?_getD, List.getElem?_append_right (by omega), List.getElem?_append_left hi, Nat.add_sub_cancel]
  rw [g, h1, ← h2, show i + c.length + 1 = c.length + (i + 1) by omega, List.take_length_add_append, xs_append, xs_odd fl c, xs_odd fl ((c ++ c).take (i + 1)), List.take_append_of_le_length (by omega), xs_odd]
  cases odd fl c <;> cases odd fl (c.take (i + 1)) <;> rfl
theorem pw_self {ts : List Nat} {fl : Nat} {n : Int} {b : Nat} {v : Bool} (h : pw ts fl n (b, false) = (b, false)) : pw ts fl n (b, v) = (b, v) := by
  obtain ⟨t, w, e⟩ : ∃ t w, pw ts fl n (b, v) = (t, w) := ⟨_, _, rfl⟩
  have z := pw_two e
  rw [h] at z
  injection z with z1 z2
  rw [e, ← z1]
  congr 1
  revert z2
  cases v <;> cases w <;> simp
/-- n turns leave all bits of a cycle as they are exactly if its rounds divide n -/
theorem per_iff {ts c : List Nat} {fl : Nat} (ok : Ts ts) (h : Cyc ts c) (nd : c.Nodup) (n : Int) : (∀ b ∈ c, pw ts fl n (b, false) = (b, false)) ↔ ((per fl c : Nat) : Int) ∣ n := by
  have pos := h.one
  rw [← dvd_mod (show 0 < 2 * c.length by omega) (per_dvd (fl := fl))]
  have step : ∀ {j : Nat}, j < 2 * c.length → ∀ {x : Nat × Bool}, (vis fl (c ++ c) false)[j]? = some x → (vis fl (c ++ c) false)[(j + (n % ((2 * c.length : Nat) : Int)).toNat) % (2 * c.length)]? = some (pw ts fl n x) := fun {j} hj {x} hx => by
    rw [← shift_nat (by omega)]
    exact vis_pw ok h hj hx n
  have ml : (n % ((2 * c.length : Nat) : Int)).toNat < 2 * c.length := by
    have := Int.emod_lt_of_pos n (show (0 : Int) < ((2 * c.length : Nat) : Int) by omega)
    have := Int.emod_nonneg n (show ((2 * c.length : Nat) : Int) ≠ 0 by omega)
    omega
  generalize (n % ((2 * c.length : Nat) : Int)).toNat = m at step ml ⊢
  have key : per fl c ∣ m ↔ m = 0 ∨ (m = c.length ∧ odd fl c = false) := by
    unfold per
    constructor
    · rintro ⟨q, hq⟩
      split at hq
      · left
        have : q = 0 := by
          cases q with
          | zero => rfl
          | succ q => rw [Nat.mul_succ] at hq; omega
        rw [hq, this, Nat.mul_zero]
      · rename_i ho
        cases q with
        | zero => exact .inl hq
        | succ q =>
          cases q with
          | zero => exact .inr ⟨by omega, by simpa using ho⟩
          | succ q => rw [Nat.mul_succ, Nat.mul_succ] at hq; omega
    · rintro (rfl | ⟨rfl, ho⟩)
      · exact Nat.dvd_zero _
      · rw [ho, if_neg Bool.false_ne_true]
        exact Nat.dvd_refl _
  rw [key]
  constructor
  · intro hh
    obtain ⟨b, v, hv, hb, _⟩ := vis_at (fl := fl) h (show 0 < 2 * c.length by omega)
    rw [Nat.zero_mod] at hb
    have s := step (by omega) hv
    rw [pw_self (hh b (List.mem_of_getElem? hb)), Nat.zero_add, Nat.mod_eq_of_lt ml] at s
    obtain ⟨b2, v2, hv2, hb2, _⟩ := vis_at (fl := fl) h ml
    rw [s] at hv2
    injection hv2 with e
    injection e with e1 e2
    subst e1
    have z := nodup_at nd hb hb2
    by_cases m0 : m = 0
    · exact .inl m0
    · have mk : m = c.length := by
        have := Nat.div_add_mod m c.length
        rw [← z, Nat.add_zero] at this
        have dv : m / c.length < 2 := Nat.div_lt_of_lt_mul (by omega)
        generalize m / c.length = d at this dv
        rcases (by omega : d = 0 ∨ d = 1) with rfl | rfl
        · omega
        · omega
      refine .inr ⟨mk, ?_⟩
      have r := vis_round (show 0 < c.length by omega) hv
      rw [Nat.zero_add, ← mk, s] at r
      injection r with r
      injection r with r1 r2
      revert r2
      cases v <;> cases odd fl c <;> simp
  · rintro hm b hb
    obtain ⟨i, hi⟩ := List.mem_iff_getElem?.mp hb
    have il := (List.getElem?_eq_some_iff.mp hi).1
    obtain ⟨b', v, hv, hb', _⟩ := vis_at (fl := fl) h (show i < 2 * c.length by omega)
    rw [Nat.mod_eq_of_lt il, hi] at hb'
    cases hb'
    have s := step (by omega) hv
    have t : (vis fl (c ++ c) false)[(i + m) % (2 * c.length)]? = some (b, v) := by
      rcases hm with rfl | ⟨rfl, ho⟩
      · rw [Nat.add_zero, Nat.mod_eq_of_lt (by omega)]
        exact hv
      · rw [Nat.mod_eq_of_lt (by omega), vis_round il hv, ho, Bool.xor_false]
    rw [t] at s
    injection s with s
    have z := pw_two s.symm
    rw [Bool.xor_self] at z
    exact z
theorem Good.nd {ts : List Nat} {cs : List (List Nat)} (g : Good ts cs) {c : List Nat} (hc : c ∈ cs) : c.Nodup := by
  have z : cs.flatten.Nodup := g.pm.nodup_iff.mpr List.nodup_range
  exact (List.pairwise_flatten.mp z).1 c hc
/-- n turns leave all bits as they are exactly if the order divides n -/
theorem order_iff {ts : List Nat} {fl : Nat} {cs : List (List Nat)} (ok : Ts ts) (g : Good ts cs) (n : Int) : ordAll fl cs ∣ n.natAbs ↔ ∀ e, e < ts.length → pw ts fl n (e, false) = (e, false) := by
  unfold ordAll
  rw [lcmfold_iff]
  constructor
  · rintro ⟨_, h⟩ e he
    obtain ⟨c, hc, ec⟩ := g.cov e he
    exact (per_iff ok (g.cy c hc).1 (g.nd hc) n).mpr (nat_dvd.mpr (h c hc)) e ec
  · intro h
    refine ⟨Nat.one_dvd _, fun c hc => nat_dvd.mp ((per_iff ok (g.cy c hc).1 (g.nd hc) n).mp fun b hb => h b ((g.cy c hc).1.lt hb))⟩
theorem ordAll_uniq {ts : List Nat} {fl : Nat} {cs ds : List (List Nat)} (ok : Ts ts) (g : Good ts cs) (d : Good ts ds) : ordAll fl cs = ordAll fl ds := by
  refine Nat.dvd_antisymm ?_ ?_
  · have := (order_iff (fl := fl) ok g ((ordAll fl ds : Nat) : Int)).mpr ((order_iff ok d _).mp (by rw [Int.natAbs_natCast]; exact Nat.dvd_refl _))
    rw [Int.natAbs_natCast] at this
    exact this
  · have := (order_iff (fl := fl) ok d ((ordAll fl cs : Nat) : Int)).mpr ((order_iff ok g _).mp (by rw [Int.natAbs_natCast]; exact Nat.dvd_refl _))
    rw [Int.natAbs_natCast] at this
    exact this
end G

/-! Inversions bit by bit: crossings. -/
namespace G
open PySem PySem.Spec PyProof.Rows L2 M
/-- how many of the targets below that of a bit are those of bits above it -/
def cr (ts : List Nat) (e : Nat) : Nat := tb ts e - oth ts e e
/-- the targets of the bits from i on, ascending -/
def lft (ts : List Nat) (i : Nat) : List Nat := (List.range ts.length).filter fun x => decide (i ≤ ts.idxOf x)
theorem filter_len (p : Nat → Bool) : ∀ t, ((List.range t).filter p).length = sm t fun x => if p x then 1 else 0
  | 0 => rfl
  | t + 1 => by
    rw [List.range_succ, List.filter_append, List.length_append, filter_len p t]
    show _ = sm t (fun x => if p x then 1 else 0) + (if p t then 1 else 0)
    congr 1
    by_cases c : p t = true
    · rw [List.filter_cons, if_pos c, if_pos c]
      rfl
    · rw [List.filter_cons, if_neg c, if_neg c]
      rfl
theorem oth_below {ts : List Nat} (ok : Ts ts) {e : Nat} (he : e < ts.length) : (sm (tb ts e) fun x => if ts.idxOf x < e then 1 else 0) = oth ts e e := by
  have h1 : (sm (tb ts e) fun x => if ts.idxOf x < e then 1 else 0) = sm ts.length fun x => if x < tb ts e ∧ ts.idxOf x < e then 1 else 0 := by
    rw [sm_trunc (n := ts.length) (m := tb ts e) (Nat.le_of_lt (tb_lt ok he)) fun i h1 _ => by rw [if_neg (fun z => by omega)]]
    refine sm_congr fun i hi => ?_
    by_cases c : ts.idxOf i < e
    · rw [if_pos c, if_pos ⟨hi, c⟩]
    · rw [if_neg c, if_neg fun z => c z.2]
  have h2 : oth ts e e = sm ts.length fun h => if h < e ∧ tb ts h < tb ts e then 1 else 0 := by
    rw [sm_trunc (n := ts.length) (m := e) (by omega) fun i h1 _ => by rw [if_neg (fun z => by omega)]]
    refine sm_congr fun i hi => ?_
    by_cases c : tb ts i < tb ts e
    · rw [if_pos c, if_pos ⟨hi, c⟩]
    · rw [if_neg c, if_neg fun z => c z.2]
  rw [h1, h2, sm_perm (ts_perm ok) (fun x => if x < tb ts e ∧ ts.idxOf x < e then 1 else 0)]
  refine sm_congr fun i hi => ?_
  show (if tb ts i < tb ts e ∧ ts.idxOf (tb ts i) < e then 1 else 0) = _
  rw [ok.idx_get (show ts[i]? = some (tb ts i) from getD_some hi)]
  by_cases c : i < e ∧ tb ts i < tb ts e
  · rw [if_pos c, if_pos ⟨c.2, c.1⟩]
  · rw [if_neg c, if_neg fun z => c ⟨z.2, z.1⟩]
theorem cr_left {ts : List Nat} (ok : Ts ts) {e : Nat} (he : e < ts.length) : (sm (tb ts e) fun x => if decide (e ≤ ts.idxOf x) then 1 else 0) = cr ts e := by
  have h := sm_add (tb ts e) (fun x => if decide (e ≤ ts.idxOf x) then 1 else 0) (fun x => if ts.idxOf x < e then 1 else 0)
  rw [oth_below ok he, sm_congr (g := fun _ => 1) fun i _ => by
    by_cases c : ts.idxOf i < e
    · rw [if_pos c, decide_eq_false (by omega)]
      rfl
    · rw [if_neg c, decide_eq_true (by omega)]
      rfl, sm_one] at h
  unfold cr
  omega
theorem oth_le_tb {ts : List Nat} (ok : Ts ts) {e : Nat} (he : e < ts.length) : oth ts e e ≤ tb ts e := by
  rw [← oth_below ok he]
  have one : ∀ (n : Nat) (f : Nat → Nat), (∀ i, f i ≤ 1) → sm n f ≤ n := fun n f h => by
    induction n with
    | zero => exact Nat.zero_le _
    | succ n ih =>
      have := h n
      show sm n f + f n ≤ n + 1
      omega
  exact one _ _ fun i => by split <;> omega
theorem cr_le (ts : List Nat) (e : Nat) : cr ts e ≤ tb ts e := Nat.sub_le _ _
theorem tb_sub_cr {ts : List Nat} (ok : Ts ts) {e : Nat} (he : e < ts.length) : tb ts e - cr ts e = oth ts e e := by
  have := oth_le_tb ok he
  unfold cr
  omega
theorem range_split {n t : Nat} (h : t < n) : List.range n = List.range t ++ t :: List.range' (t + 1) (n - t - 1) := by
  obtain ⟨k, rfl⟩ : ∃ k, n = t + (k + 1) := ⟨n - t - 1, by omega⟩
  rw [List.range_eq_range', List.range_eq_range', ← List.range'_append_1, show t + (k + 1) - t - 1 = k by omega, Nat.zero_add, List.range'_succ]
theorem lft_zero (ts : List Nat) : lft ts 0 = List.range ts.length := by
  unfold lft
  rw [List.filter_eq_self]
  intro a _
  simp
theorem lft_step {ts : List Nat} (ok : Ts ts) {i : Nat} (hi : i < ts.length) : ∃ a b, lft ts i = a ++ tb ts i :: b ∧ a.length = cr ts i ∧ lft ts (i + 1) = a ++ b ∧ (∀ x ∈ a, x < tb ts i) := by
  have tl := tb_lt ok hi
  have ix : ts.idxOf (tb ts i) = i := ok.idx_get (getD_some hi)
  have ne : ∀ x, x < ts.length → x ≠ tb ts i → decide (i ≤ ts.idxOf x) = decide (i + 1 ≤ ts.idxOf x) := fun x hx hn => by
    have : ts.idxOf x ≠ i := fun z => hn (by
      have h1 := ok.get_idx hx
      rw [z, show ts[i]? = some (tb ts i) from getD_some hi] at h1
      exact (Option.some.inj h1).symm)
    exact decide_eq_decide.mpr (by omega)
  refine ⟨(List.range (tb ts i)).filter fun x => decide (i ≤ ts.idxOf x), (List.range' (tb ts i + 1) (ts.length - tb ts i - 1)).filter fun x => decide (i ≤ ts.idxOf x), ?_, ?_, ?_, ?_⟩
  · unfold lft
    rw [range_split tl, List.filter_append, List.filter_cons, ix, if_pos (by simp)]
  · rw [filter_len, cr_left ok hi]
  · unfold lft
    rw [range_split tl, List.filter_append, List.filter_cons, ix, if_neg (by simp)]
    congr 1
    · refine List.filter_congr fun x hx => ?_
      have := List.mem_range.mp hx
      exact (ne x (by omega) (by omega)).symm
    · refine List.filter_congr fun x hx => ?_
      have := List.mem_range'_1.mp hx
      exact (ne x (by omega) (by omega)).symm
  · intro x hx
    exact List.mem_range.mp (List.mem_filter.mp hx).1
theorem lft_len (ts : List Nat) (i : Nat) : (lft ts i).length ≤ ts.length := by
  unfold lft
  refine Nat.le_trans (List.length_filter_le _ _) ?_
  rw [List.length_range]
  exact Nat.le_refl _
/-- what one bit adds -/
def qv (ts : List Nat) (fl e : Nat) : Nat := 2 ^ tb ts e - 2 ^ oth ts e e + (if fl.testBit (tb ts e) then 2 * 2 ^ oth ts e e else 0)
theorem oth_all {ts : List Nat} (ok : Ts ts) {e : Nat} (he : e < ts.length) : oth ts e ts.length = tb ts e := by
  unfold oth
  have h := sm_perm (ts_perm ok) (fun x => if x < tb ts e then 1 else 0)
  have h2 : (sm ts.length fun x => if x < tb ts e then 1 else 0) = tb ts e := by
    rw [sm_trunc (n := ts.length) (m := tb ts e) (Nat.le_of_lt (tb_lt ok he)) fun i h1 _ => if_neg (by omega), sm_congr (g := fun _ => 1) fun i hi => if_pos hi, sm_one]
  rw [h2] at h
  exact h.symm
theorem qr_upto (ts : List Nat) (fl e : Nat) : ∀ m, e ≤ m → sm (m + 1) (fun high => qr ts fl e high) + 2 ^ oth ts e e = 2 ^ oth ts e (m + 1) + (if fl.testBit (tb ts e) then 2 * 2 ^ oth ts e e else 0) := by
  intro m hm
  induction m with
  | zero =>
    have : e = 0 := by omega
    subst this
    show 0 + qr ts fl 0 0 + 2 ^ oth ts 0 0 = 2 ^ (oth ts 0 0 + if tb ts 0 < tb ts 0 then 1 else 0) + _
    rw [if_neg (Nat.lt_irrefl _), Nat.add_zero]
    unfold qr
    rw [if_pos (show ct ts 0 0 = true by unfold ct; simp), if_pos rfl]
    omega
  | succ m ih =>
    have st : oth ts e (m + 1 + 1) = oth ts e (m + 1) + (if tb ts (m + 1) < tb ts e then 1 else 0) := rfl
    have sst : sm (m + 1 + 1) (fun high => qr ts fl e high) = sm (m + 1) (fun high => qr ts fl e high) + qr ts fl e (m + 1) := rfl
    rw [st, sst]
    by_cases he : e = m + 1
    · have z : sm (m + 1) (fun high => qr ts fl e high) = 0 := sm_zero fun i hi => by
        unfold qr
        rw [if_neg]
        unfold ct
        rw [decide_eq_false (show ¬ i = e by omega), decide_eq_false (show ¬ e < i by omega)]
        simp
      subst he
      rw [z]
      simp only [Nat.lt_irrefl, if_false, Nat.add_zero, Nat.zero_add]
      unfold qr
      rw [if_pos (show ct ts (m + 1) (m + 1) = true by unfold ct; simp), if_pos rfl]
      omega
    · have ih := ih (by omega)
      have q : qr ts fl e (m + 1) = if tb ts (m + 1) < tb ts e then 2 ^ oth ts e (m + 1) else 0 := by
        unfold qr
        have c : ct ts e (m + 1) = decide (tb ts (m + 1) < tb ts e) := by
          unfold ct
          rw [decide_eq_false (show ¬ m + 1 = e by omega), decide_eq_true (show e < m + 1 by omega)]
          simp
        rw [c, if_neg (show ¬ m + 1 = e by omega)]
        by_cases d : tb ts (m + 1) < tb ts e
        · rw [if_pos d, if_pos (decide_eq_true d)]
        · rw [if_neg d, if_neg (by simpa using d)]
      rw [q]
      by_cases d : tb ts (m + 1) < tb ts e
      · rw [if_pos d, if_pos d, Nat.pow_succ]
        omega
      · rw [if_neg d, if_neg d]
        omega
theorem qr_sum {ts : List Nat} (ok : Ts ts) (fl : Nat) {e : Nat} (he : e < ts.length) : (sm ts.length fun high => qr ts fl e high) = qv ts fl e := by
  obtain ⟨n, hn⟩ : ∃ n, ts.length = n + 1 := ⟨ts.length - 1, by omega⟩
  have h := qr_upto ts fl e n (by omega)
  rw [← hn, oth_all ok he] at h
  have p : 2 ^ oth ts e e ≤ 2 ^ tb ts e := Nat.pow_le_pow_right (by decide) (oth_le_tb ok he)
  unfold qv
  omega
theorem quarters_bits {ts : List Nat} (ok : Ts ts) (fl : Nat) : quarters ts fl = sm ts.length fun e => qv ts fl e := sm_congr fun e he => qr_sum ok fl he

/-- the bits that go to the targets -/
def srcs (ts : List Nat) : List Nat := (List.range ts.length).map fun t => ts.idxOf t
theorem srcs_len (ts : List Nat) : (srcs ts).length = ts.length := by
  unfold srcs
  rw [List.length_map, List.length_range]
theorem srcs_at {ts : List Nat} {t : Nat} (h : t < ts.length) : (srcs ts)[t]? = some (ts.idxOf t) := by
  unfold srcs
  rw [List.getElem?_map, List.getElem?_range h]
  rfl
theorem srcs_ok {ts : List Nat} (ok : Ts ts) : Ts (srcs ts) := by
  refine ⟨by rw [srcs_len]; exact ok.one, by rw [srcs_len]; exact ok.most, fun x hx => ?_, ?_⟩
  · rw [srcs_len]
    unfold srcs at hx
    obtain ⟨t, ht, rfl⟩ := List.mem_map.mp hx
    exact ok.idx_lt (List.mem_range.mp ht)
  · unfold srcs
    refine nodup_map_on List.nodup_range fun x hx y hy e => ?_
    have h1 := ok.get_idx (List.mem_range.mp hx)
    have h2 := ok.get_idx (List.mem_range.mp hy)
    rw [e, h2] at h1
    exact (Option.some.inj h1).symm

abbrev sp_crossings (K : PySem.W.Frag) : Sp := sp1 fun a H Q => ∃ (l : Addr) (ts : List Nat), a = .ref l ∧ H l = some (.lst (nv ts)) ∧ Ts ts ∧ ∀ p H', Ext H H' → H p = none → H' p = some (.lst (nv ((List.range ts.length).map (cr ts)))) → Q (.ref p) H'
abbrev sp_sources (K : PySem.W.Frag) : Sp := sp1 fun a H Q => ∃ (l : Addr) (ts : List Nat), a = .ref l ∧ H l = some (.lst (nv ts)) ∧ Ts ts ∧ ∀ p H', Ext H H' → H p = none → H' p = some (.lst (nv (srcs ts))) → Q (.ref p) H'
abbrev sp_changed_pairs (K : PySem.W.Frag) : Sp := sp2 fun a b H Q => ∃ (l : Addr) (ts : List Nat) (fl : Nat), a = .ref l ∧ b = .int (fl : Int) ∧ H l = some (.lst (nv ts)) ∧ Ts ts ∧ ∀ H', Ext H H' → Q (.int (inv ts fl : Int)) H'
end G

/-! Ways of items: f(i) - i as a sum over the bits. -/
namespace G
open PySem PySem.Spec PyProof.Rows L2 M
/-- f 0 + .. + f (n - 1), ints -/
def im : Nat → (Nat → Int) → Int
  | 0, _ => 0
  | n + 1, f => im n f + f n
theorem im_congr {n : Nat} {f g : Nat → Int} (h : ∀ i, i < n → f i = g i) : im n f = im n g := by
  induction n with
  | zero => rfl
  | succ n ih =>
    show im n f + f n = im n g + g n
    rw [ih fun i hi => h i (by omega), h n (by omega)]
theorem im_zero {n : Nat} {f : Nat → Int} (h : ∀ i, i < n → f i = 0) : im n f = 0 := by
  induction n with
  | zero => rfl
  | succ n ih =>
    show im n f + f n = 0
    rw [ih fun i hi => h i (by omega), h n (by omega)]
    rfl
theorem im_add (n : Nat) (f g : Nat → Int) : im n (fun i => f i + g i) = im n f + im n g := by
  induction n with
  | zero => rfl
  | succ n ih =>
    show im n (fun i => f i + g i) + (f n + g n) = im n f + f n + (im n g + g n)
    rw [ih]
    omega
theorem im_sub (n : Nat) (f g : Nat → Int) : im n (fun i => f i - g i) = im n f - im n g := by
  induction n with
  | zero => rfl
  | succ n ih =>
    show im n (fun i => f i - g i) + (f n - g n) = im n f + f n - (im n g + g n)
    rw [ih]
    omega
theorem im_mul (n : Nat) (k : Int) (f : Nat → Int) : im n (fun i => k * f i) = k * im n f := by
  induction n with
  | zero => exact (Int.mul_zero k).symm
  | succ n ih =>
    show im n (fun i => k * f i) + k * f n = k * (im n f + f n)
    rw [ih, Int.mul_add]
theorem im_nat (n : Nat) (f : Nat → Nat) : im n (fun i => (f i : Int)) = ((sm n f : Nat) : Int) := by
  induction n with
  | zero => rfl
  | succ n ih =>
    show im n (fun i => (f i : Int)) + (f n : Int) = ((sm n f + f n : Nat) : Int)
    rw [ih]
    omega
theorem im_le {n : Nat} {f g : Nat → Int} (h : ∀ i, i < n → f i ≤ g i) : im n f ≤ im n g := by
  induction n with
  | zero => exact Int.le_refl _
  | succ n ih =>
    have h1 := ih fun i hi => h i (by omega)
    have h2 := h n (by omega)
    show im n f + f n ≤ im n g + g n
    omega
theorem im_lt {n : Nat} {f g : Nat → Int} (h : ∀ i, i < n → f i ≤ g i) {k : Nat} (hk : k < n) (hl : f k < g k) : im n f < im n g := by
  induction n with
  | zero => omega
  | succ n ih =>
    show im n f + f n < im n g + g n
    by_cases e : k = n
    · subst e
      have h1 := im_le (n := k) (f := f) (g := g) fun i hi => h i (by omega)
      omega
    · have h1 := ih (fun i hi => h i (by omega)) (by omega)
      have h2 := h n (by omega)
      omega
/-- one item otherwise -/
theorem im_set {n : Nat} {f g : Nat → Int} {k : Nat} (hk : k < n) (h : ∀ i, i < n → i ≠ k → f i = g i) : im n f - f k = im n g - g k := by
  induction n with
  | zero => omega
  | succ n ih =>
    show im n f + f n - f k = im n g + g n - g k
    by_cases e : k = n
    · subst e
      rw [im_congr (n := k) (f := f) (g := g) fun i hi => h i (by omega) (by omega)]
      omega
    · have h1 := ih (by omega) fun i hi => h i (by omega)
      have h2 := h n (by omega) (by omega)
      omega
theorem perm_sum_int {l m : List Int} (p : l.Perm m) : l.sum = m.sum := by
  induction p with
  | nil => rfl
  | cons x _ ih => rw [List.sum_cons, List.sum_cons, ih]
  | swap x y l => simp only [List.sum_cons]; omega
  | trans _ _ h1 h2 => exact h1.trans h2
theorem im_perm {n : Nat} {ts : List Nat} (p : ts.Perm (List.range n)) (f : Nat → Int) : im n f = im n fun i => f (ts.getD i 0) := by
  have im_list : ∀ (n : Nat) (f : Nat → Int), im n f = ((List.range n).map f).sum := fun n f => by
    induction n with
    | zero => rfl
    | succ n ih =>
      rw [List.range_succ, List.map_append, List.sum_append_int]
      show im n f + f n = _
      rw [ih]
      simp
  have len := p.length_eq
  rw [List.length_range] at len
  rw [im_list, im_list, ← perm_sum_int (p.map f)]
  congr 1
  refine List.ext_getElem (by simp [len]) fun i h1 h2 => ?_
  rw [List.length_map] at h1
  have g := getD_some h1
  rw [List.getElem?_eq_getElem h1] at g
  simp only [List.getElem_map, List.getElem_range]
  rw [Option.some.inj g]
theorem nb_sm (n : Nat) (f : Nat → Bool) : nb n f = sm n fun i => if f i then 2 ^ i else 0 := by
  induction n with
  | zero => rfl
  | succ n ih =>
    show nb n f + (if f n then 2 ^ n else 0) = sm n (fun i => if f i then 2 ^ i else 0) + (if f n then 2 ^ n else 0)
    rw [ih]
/-- what bit e adds to the way, by its value -/
def part (ts : List Nat) (fl e : Nat) (b : Bool) : Int := (if (b ^^ fl.testBit (tb ts e)) then ((2 ^ tb ts e : Nat) : Int) else 0) - (if b then ((2 ^ e : Nat) : Int) else 0)
def gain (ts : List Nat) (fl e : Nat) : Int := (if fl.testBit (tb ts e) then -((2 ^ tb ts e : Nat) : Int) else ((2 ^ tb ts e : Nat) : Int)) - ((2 ^ e : Nat) : Int)
theorem gain_part (ts : List Nat) (fl e : Nat) : part ts fl e true - part ts fl e false = gain ts fl e := by
  unfold part gain
  cases fl.testBit (tb ts e) <;> simp <;> omega
def wy (ts : List Nat) (fl : Nat) (b : Nat → Bool) : Int := im ts.length fun e => part ts fl e (b e)
theorem wy_go {ts : List Nat} (ok : Ts ts) (fl : Nat) {p : Nat} (hp : p < 2 ^ ts.length) : (go ts fl p : Int) - (p : Int) = wy ts fl p.testBit := by
  have h1 : go ts fl p = sm ts.length fun e => if (p.testBit e ^^ fl.testBit (tb ts e)) then 2 ^ tb ts e else 0 := by
    unfold go
    rw [nb_sm, sm_perm (ts_perm ok)]
    refine sm_congr fun i hi => ?_
    have := ok.idx_get (getD_some hi)
    show (if (p.testBit (ts.idxOf (ts.getD i 0)) ^^ fl.testBit (ts.getD i 0)) then 2 ^ ts.getD i 0 else 0) = _
    rw [this]
    rfl
  have h2 : p = sm ts.length fun e => if p.testBit e then 2 ^ e else 0 := by
    rw [← nb_sm]
    exact eq_nb hp fun _ _ => rfl
  have h3 : (p : Int) = ((sm ts.length fun e => if p.testBit e then 2 ^ e else 0 : Nat) : Int) := congrArg Int.ofNat h2
  rw [h1, h3, ← im_nat, ← im_nat, ← im_sub]
  refine im_congr fun e _ => ?_
  unfold part
  cases (p.testBit e ^^ fl.testBit (tb ts e)) <;> cases p.testBit e <;> simp
/-- the place with the greatest way -/
def gp (ts : List Nat) (fl : Nat) : Nat := nb ts.length fun e => decide (0 < gain ts fl e)
def lp (ts : List Nat) (fl : Nat) : Nat := nb ts.length fun e => decide (gain ts fl e < 0)
theorem gp_lt (ts : List Nat) (fl : Nat) : gp ts fl < 2 ^ ts.length := nb_lt _ _
theorem lp_lt (ts : List Nat) (fl : Nat) : lp ts fl < 2 ^ ts.length := nb_lt _ _
theorem gp_bit (ts : List Nat) (fl : Nat) {e : Nat} (he : e < ts.length) : (gp ts fl).testBit e = decide (0 < gain ts fl e) := by
  unfold gp
  rw [testBit_nb, decide_eq_true he, Bool.true_and]
theorem lp_bit (ts : List Nat) (fl : Nat) {e : Nat} (he : e < ts.length) : (lp ts fl).testBit e = decide (gain ts fl e < 0) := by
  unfold lp
  rw [testBit_nb, decide_eq_true he, Bool.true_and]
theorem part_le (ts : List Nat) (fl e : Nat) (b : Bool) : part ts fl e b ≤ part ts fl e (decide (0 < gain ts fl e)) ∧ part ts fl e (decide (gain ts fl e < 0)) ≤ part ts fl e b := by
  have g := gain_part ts fl e
  constructor
  · by_cases c : 0 < gain ts fl e
    · rw [decide_eq_true c]
      cases b
      · omega
      · exact Int.le_refl _
    · rw [decide_eq_false c]
      cases b
      · exact Int.le_refl _
      · omega
  · by_cases c : gain ts fl e < 0
    · rw [decide_eq_true c]
      cases b
      · omega
      · exact Int.le_refl _
    · rw [decide_eq_false c]
      cases b
      · exact Int.le_refl _
      · omega
theorem wy_most (ts : List Nat) (fl : Nat) (b : Nat → Bool) : wy ts fl b ≤ wy ts fl (gp ts fl).testBit := im_le fun e he => by
  rw [gp_bit ts fl he]
  exact (part_le ts fl e (b e)).1
theorem wy_least (ts : List Nat) (fl : Nat) (b : Nat → Bool) : wy ts fl (lp ts fl).testBit ≤ wy ts fl b := im_le fun e he => by
  rw [lp_bit ts fl he]
  exact (part_le ts fl e (b e)).2
theorem wy_flip {ts : List Nat} {fl p e : Nat} (he : e < ts.length) : wy ts fl (p ^^^ 2 ^ e).testBit = wy ts fl p.testBit + (if p.testBit e then -(gain ts fl e) else gain ts fl e) := by
  have g := gain_part ts fl e
  have h := im_set (n := ts.length) (f := fun i => part ts fl i ((p ^^^ 2 ^ e).testBit i)) (g := fun i => part ts fl i (p.testBit i)) he fun i hi ne => by
    rw [Nat.testBit_xor, Nat.testBit_two_pow, decide_eq_false (Ne.symm ne), Bool.xor_false]
  rw [Nat.testBit_xor, Nat.testBit_two_pow_self, Bool.xor_true] at h
  unfold wy
  cases c : p.testBit e with
  | true =>
    rw [c] at h
    simp only [Bool.not_true] at h
    rw [if_pos rfl]
    omega
  | false =>
    rw [c] at h
    simp only [Bool.not_false] at h
    rw [if_neg Bool.false_ne_true]
    omega
theorem natAbs_gain (ts : List Nat) (fl e : Nat) : (gain ts fl e).natAbs ≤ 2 ^ tb ts e + 2 ^ e := by
  unfold gain
  generalize 2 ^ tb ts e = a
  generalize 2 ^ e = b
  split <;> omega
/-- the sum of the squares of all ways -/
def sq4 (ts : List Nat) (fl : Nat) : Nat := sm ts.length fun e => (gain ts fl e).natAbs * (gain ts fl e).natAbs
def sqs (ts : List Nat) (fl : Nat) : Nat := sq4 ts fl * 2 ^ ts.length / 4
theorem sq4_lt {ts : List Nat} (ok : Ts ts) (fl : Nat) : sq4 ts fl < 2 ^ 300 := by
  have hm := ok.most
  have one : ∀ (n m : Nat) (f : Nat → Nat), (∀ i, i < n → f i ≤ m) → sm n f ≤ n * m := fun n m f h => by
    induction n with
    | zero => exact Nat.zero_le _
    | succ n ih =>
      have := ih fun i hi => h i (by omega)
      have := h n (by omega)
      show sm n f + f n ≤ (n + 1) * m
      rw [Nat.succ_mul]
      omega
  have h := one ts.length ((2 ^ 100 + 2 ^ 100) * (2 ^ 100 + 2 ^ 100)) (fun e => (gain ts fl e).natAbs * (gain ts fl e).natAbs) fun e he => by
    have h1 := natAbs_gain ts fl e
    have h2 : 2 ^ tb ts e ≤ 2 ^ 100 := Nat.pow_le_pow_right (by decide) (by have := tb_lt ok he; omega)
    have h3 : 2 ^ e ≤ 2 ^ 100 := Nat.pow_le_pow_right (by decide) (by omega)
    exact Nat.mul_le_mul (by omega) (by omega)
  have h2 : ts.length * ((2 ^ 100 + 2 ^ 100) * (2 ^ 100 + 2 ^ 100)) ≤ 100 * ((2 ^ 100 + 2 ^ 100) * (2 ^ 100 + 2 ^ 100)) := Nat.mul_le_mul_right _ hm
  have h3 : 100 * ((2 ^ 100 + 2 ^ 100) * (2 ^ 100 + 2 ^ 100)) < 2 ^ 300 := by decide +kernel
  unfold sq4
  omega
theorem sqs_lt {ts : List Nat} (ok : Ts ts) (fl : Nat) : sqs ts fl < 2 ^ 1900 := by
  have h1 := sq4_lt ok fl
  have p : 2 ^ ts.length ≤ 2 ^ 100 := Nat.pow_le_pow_right (by decide) ok.most
  have m : sq4 ts fl * 2 ^ ts.length ≤ 2 ^ 300 * 2 ^ 100 := Nat.mul_le_mul (by omega) p
  have big : 2 ^ 300 * 2 ^ 100 < 2 ^ 1900 := by decide +kernel
  unfold sqs
  omega
/-- a list of ints as values -/
def iv (l : List Int) : List V := l.map V.int
theorem iv_len (l : List Int) : (iv l).length = l.length := List.length_map _
def gns (ts : List Nat) (fl : Nat) (k : Nat) : List Int := (List.range k).map (gain ts fl)
abbrev sp_gains (K : PySem.W.Frag) (C : Addr) : Sp := sp1 fun a H Q => ∃ ts fl, IsT C H a ts fl ∧ ∀ p H', Ext H H' → H p = none → H' p = some (.lst (iv (gns ts fl ts.length))) → Q (.ref p) H'
abbrev sp_greatest_way (K : PySem.W.Frag) (C : Addr) : Sp := sp1 fun a H Q => ∃ ts fl, IsT C H a ts fl ∧ ∀ p H', Ext H H' → H p = none → H' p = some (.tup [.int (wy ts fl (gp ts fl).testBit), .int (gp ts fl : Int)]) → Q (.ref p) H'
abbrev sp_least_way (K : PySem.W.Frag) (C : Addr) : Sp := sp1 fun a H Q => ∃ ts fl, IsT C H a ts fl ∧ ∀ p H', Ext H H' → H p = none → H' p = some (.tup [.int (wy ts fl (lp ts fl).testBit), .int (lp ts fl : Int)]) → Q (.ref p) H'
abbrev sp_square_sum (K : PySem.W.Frag) (C : Addr) : Sp := sp1 fun a H Q => ∃ ts fl, IsT C H a ts fl ∧ ∀ H', Ext H H' → Q (.int (sqs ts fl : Int)) H'
end G

/-! Pages: bits that go up; the draws of the laws on stretches, pages and seen items. -/
namespace G
open PySem PySem.Spec PyProof.Rows L2 M
section
variable {H : Hp} {Q : VK} {σ : L2.St} {ta tb : TE}
theorem g_lstRg2 (h : ta σ H fun x H1 => tb σ H1 fun y H2 => ∃ i j, x = .int i ∧ y = .int j ∧ RgOk i j ∧ ∀ q, H2 q = none → Q (.ref q) (upd H2 q (.lst (rgV i j)))) : tLstRg (tRg2 ta tb) σ H Q := h
end
section
variable {H : Hp} {Q : VK} {σ : L2.St} {te : TE} {tt : TT} {K : PySem.W.Frag} {a : Addr} {xs : List V} {vs : List Nat}
/-- [e for x in tuple]: slot c -/
theorem u_lct {c : Nat} (hx : SqT K H a xs) (Pv : Addr → Nat → Hp → Prop) (h0 : ∀ D, H D = none → Pv D 0 (upd H D (.lst []))) (hG : ∀ D i H', H D = none → i ≤ xs.length → Pv D i H' → SqT K H' a xs)
    (hs : ∀ D i x H', H D = none → xs[i]? = some x → Pv D i H' → te ((wipe σ vs).set c (some x)) H' fun y H4 => ∃ acc, H4 D = some (.lst acc) ∧ acc.length < sizeLine ∧ Pv D (i + 1) (upd H4 D (.lst (acc ++ [y]))))
    (hd : ∀ D H', H D = none → Pv D xs.length H' → Q (.ref D) H') (hw : ∀ x, wipe ((wipe σ vs).set c (some x)) vs = wipe σ vs := by intro x; rfl) :
    ∃ a', V.ref a = .ref a' ∧ (∃ xs, SqT K H a' xs) ∧ LcW (gName c) tYes te vs σ Q (Itt K a') H := by
  refine ⟨a, rfl, ⟨xs, hx⟩, fun D hD => lc_it walk_tup (Pv D) (h0 D hD) (fun i H' hi p => hG D i H' hD hi p) (fun i v H H' hi p y => ?_) (fun H' p => hd D H' hD p)⟩
  obtain ⟨rfl, e⟩ := y
  refine ⟨hw _, ?_⟩
  refine g_yes ?_
  exact iteT (hs D i v _ hD e p)
end
theorem rgV_cut {a b : Nat} (h : a ≤ b) : rgV (a : Int) (b : Int) = nv (List.range' a (b - a)) := by
  unfold rgV nv
  rw [show ((b : Int) - (a : Int)).toNat = b - a by omega, List.range_eq_range']
  refine List.ext_getElem (by simp) fun i h1 h2 => ?_
  simp
theorem range_cut {a b : Nat} (h : a ≤ b) : List.range a ++ List.range' a (b - a) = List.range b := by
  obtain ⟨k, rfl⟩ : ∃ k, b = a + k := ⟨b - a, by omega⟩
  rw [List.range_eq_range', List.range_eq_range', ← List.range'_append_1, Nat.zero_add, Nat.add_sub_cancel_left]
/-- the targets of the low bits that are not low -/
def ups (ts : List Nat) (low : Nat) : List Nat := (ts.take low).filter fun t => decide (low ≤ t)
theorem ups_len (ts : List Nat) (low : Nat) : (ups ts low).length ≤ low := by
  unfold ups
  refine Nat.le_trans (List.length_filter_le _ _) ?_
  rw [List.length_take]
  omega
abbrev sp_check_page_bits (K : PySem.W.Frag) : Sp := sp2 fun a b H Q => ∃ (p n : Nat), a = .int (p : Int) ∧ b = .int (n : Int) ∧ p ≤ n ∧ Q .non H
abbrev sp_climbs (K : PySem.W.Frag) (C : Addr) : Sp := sp2 fun a b H Q => ∃ ts fl low, IsT C H a ts fl ∧ b = .int (low : Nat) ∧ low ≤ ts.length ∧ ∀ H', Ext H H' → Q (.int ((ups ts low).length : Nat)) H'
abbrev sp_page_spread (K : PySem.W.Frag) (C : Addr) : Sp := sp2 fun a b H Q => ∃ ts fl low, IsT C H a ts fl ∧ b = .int (low : Nat) ∧ low ≤ ts.length ∧ ∀ H', Ext H H' → Q (.int ((2 ^ (ups ts low).length : Nat) : Int)) H'
abbrev sp_page_pairs (K : PySem.W.Frag) (C : Addr) : Sp := sp2 fun a b H Q => ∃ ts fl low, IsT C H a ts fl ∧ b = .int (low : Nat) ∧ low ≤ ts.length ∧ ∀ H', Ext H H' → Q (.int ((2 ^ (ts.length - low + (ups ts low).length) : Nat) : Int)) H'
/-! ### and with the opposites -/
theorem bitNot_nat (m : Nat) : (Builtin.bitNot (m : Int)) = -(m : Int) - 1 := rfl
theorem sub_and (x m : Nat) : x - (x &&& m) = x ^^^ (x &&& m) := by
  have h := or_parts x (x &&& m)
  have e1 : x ||| (x &&& m) = x := Nat.eq_of_testBit_eq fun j => by
    rw [Nat.testBit_or, Nat.testBit_and]
    cases x.testBit j <;> simp
  have e2 : x &&& (x &&& m) = x &&& m := Nat.eq_of_testBit_eq fun j => by
    rw [Nat.testBit_and, Nat.testBit_and]
    cases x.testBit j <;> simp
  rw [e1, e2] at h
  omega
theorem and_not (x m : Nat) : Builtin.bitAnd (x : Int) (Builtin.bitNot (m : Int)) = ((x ^^^ (x &&& m) : Nat) : Int) := by
  unfold Builtin.bitAnd
  rw [decide_eq_true (Int.natCast_nonneg x), decide_eq_false (show ¬ (0 : Int) ≤ Builtin.bitNot (m : Int) by unfold Builtin.bitNot; omega)]
  have e : Builtin.bitNot (Builtin.bitNot (m : Int)) = (m : Int) := by unfold Builtin.bitNot; omega
  dsimp only
  rw [e, Int.toNat_natCast, Int.toNat_natCast, ← sub_and]
  have : x &&& m ≤ x := Nat.and_le_left
  omega
theorem and_not_eq {x y m : Nat} (h : ∀ j, m.testBit j = false → x.testBit j = y.testBit j) : x ^^^ (x &&& m) = y ^^^ (y &&& m) := Nat.eq_of_testBit_eq fun j => by
  rw [Nat.testBit_xor, Nat.testBit_and, Nat.testBit_xor, Nat.testBit_and]
  cases c : m.testBit j with
  | true => simp
  | false =>
    rw [h j c]
/-- the bits of a list -/
def orl (low : Nat) : List Nat → Nat
  | [] => 0
  | t :: l => 2 ^ (t - low) ||| orl low l
theorem orl_snoc (low t : Nat) : ∀ l, orl low (l ++ [t]) = orl low l ||| 2 ^ (t - low)
  | [] => by simp [orl]
  | x :: l => by
    show 2 ^ (x - low) ||| orl low (l ++ [t]) = 2 ^ (x - low) ||| orl low l ||| 2 ^ (t - low)
    rw [orl_snoc low t l, Nat.or_assoc]
theorem orl_bit (low j : Nat) : ∀ l, (orl low l).testBit j = decide (∃ t ∈ l, t - low = j)
  | [] => by simp [orl]
  | x :: l => by
    show (2 ^ (x - low) ||| orl low l).testBit j = _
    rw [Nat.testBit_or, Nat.testBit_two_pow, orl_bit low j l]
    by_cases h : x - low = j
    · simp [h]
    · by_cases g : ∃ t ∈ l, t - low = j
      · rw [decide_eq_true g, decide_eq_true (show ∃ t ∈ x :: l, t - low = j from g.elim fun t ht => ⟨t, List.mem_cons_of_mem _ ht.1, ht.2⟩)]
        simp
      · rw [decide_eq_false g, decide_eq_false h, decide_eq_false]
        · rfl
        · rintro ⟨t, ht, e⟩
          rcases List.mem_cons.mp ht with rfl | ht
          · exact h e
          · exact g ⟨t, ht, e⟩
theorem orl_lt (low n : Nat) : ∀ l : List Nat, (∀ t ∈ l, t < n) → orl low l < 2 ^ n
  | [], _ => Nat.two_pow_pos _
  | x :: l, h => by
    have h1 := orl_lt low n l fun t ht => h t (List.mem_cons_of_mem _ ht)
    have h2 := h x List.mem_cons_self
    have h3 : 2 ^ (x - low) < 2 ^ n := Nat.pow_lt_pow_right (by decide) (by omega)
    exact Nat.or_lt_two_pow h3 h1
/-- the items of a page go to pages that differ only in the bits that go up -/
theorem page_same {ts : List Nat} (ok : Ts ts) {fl low b x : Nat} (hx : x < 2 ^ low) (hl : low ≤ ts.length) {j : Nat} (hj : (orl low (ups ts low)).testBit j = false) :
    (go ts fl (b * 2 ^ low + x) / 2 ^ low).testBit j = (go ts fl (b * 2 ^ low) / 2 ^ low).testBit j := by
  rw [Nat.testBit_div_two_pow, Nat.testBit_div_two_pow]
  by_cases hn : low + j < ts.length
  · have g := ok.get_idx hn
    rw [show j + low = low + j by omega, go_bit ok fl _ g, go_bit ok fl _ g]
    have hi : low ≤ ts.idxOf (low + j) := Nat.le_of_not_lt fun z => by
      rw [orl_bit] at hj
      have := of_decide_eq_false hj
      refine this ⟨low + j, ?_, by omega⟩
      unfold ups
      rw [List.mem_filter]
      refine ⟨List.mem_iff_getElem?.mpr ⟨ts.idxOf (low + j), by rw [List.getElem?_take_of_lt z]; exact g⟩, by simp⟩
    congr 1
    rw [show b * 2 ^ low + x = 2 ^ low * b + x by rw [Nat.mul_comm], Nat.testBit_two_pow_mul_add _ hx, if_neg (by omega), show b * 2 ^ low = 2 ^ low * b by rw [Nat.mul_comm], Nat.testBit_two_pow_mul]
    simp [hi]
  · have z : ∀ p, (go ts fl p).testBit (j + low) = false := fun p => Nat.testBit_lt_two_pow (Nat.lt_of_lt_of_le (go_lt _ _ _) (Nat.pow_le_pow_right (by decide) (by omega)))
    rw [z, z]
theorem ups_all {ts : List Nat} (ok : Ts ts) : ups ts ts.length = [] := by
  unfold ups
  rw [List.filter_eq_nil_iff]
  intro t ht
  have := ok.lt t (List.mem_of_mem_take ht)
  simp
  omega
theorem ups_none (ts : List Nat) : ups ts 0 = [] := rfl
theorem ups_snoc {ts : List Nat} {low i t : Nat} (h : ts[i]? = some t) : ((ts.take (i + 1)).filter fun t => decide (low ≤ t)) = ((ts.take i).filter fun t => decide (low ≤ t)) ++ (if low ≤ t then [t] else []) := by
  rw [List.take_add_one, h, List.filter_append]
  congr 1
  show List.filter _ [t] = _
  by_cases c : low ≤ t
  · rw [List.filter_cons, if_pos (decide_eq_true c), if_pos c]
    rfl
  · rw [List.filter_cons, if_neg (by simpa using c), if_neg c]
    rfl
/-! ### blocks -/
def hi (ts : List Nat) (i : Nat) : Nat := (ts.take i).foldl max 0
theorem foldl_max_le : ∀ (l : List Nat) (a : Nat), a ≤ l.foldl max a ∧ ∀ t ∈ l, t ≤ l.foldl max a
  | [], a => ⟨Nat.le_refl _, fun t h => by cases h⟩
  | x :: l, a => by
    obtain ⟨h1, h2⟩ := foldl_max_le l (max a x)
    refine ⟨Nat.le_trans (Nat.le_max_left a x) h1, fun t ht => ?_⟩
    rcases List.mem_cons.mp ht with rfl | ht
    · exact Nat.le_trans (Nat.le_max_right a t) h1
    · exact h2 t ht
theorem foldl_max_lt : ∀ (l : List Nat) (a n : Nat), a ≤ n → (∀ t ∈ l, t ≤ n) → l.foldl max a ≤ n
  | [], a, n, h, _ => h
  | x :: l, a, n, h, g => foldl_max_lt l (max a x) n (Nat.max_le.mpr ⟨h, g x List.mem_cons_self⟩) fun t ht => g t (List.mem_cons_of_mem _ ht)
theorem hi_succ {ts : List Nat} {i t : Nat} (h : ts[i]? = some t) : hi ts (i + 1) = max (hi ts i) t := by
  unfold hi
  rw [List.take_add_one, h, List.foldl_append]
  rfl
theorem ups_nil {ts : List Nat} {low : Nat} : ups ts low = [] ↔ ∀ t ∈ ts.take low, t < low := by
  unfold ups
  rw [List.filter_eq_nil_iff]
  refine forall_congr' fun t => forall_congr' fun _ => ?_
  rw [decide_eq_true_iff]
  exact Nat.not_le
theorem take_full {ts : List Nat} (ok : Ts ts) {low : Nat} (hl : low ≤ ts.length) (h : ups ts low = []) : (ts.take low).Perm (List.range low) := by
  have nd := (List.take_sublist low ts).nodup ok.nd
  have len : (ts.take low).length = low := by rw [List.length_take]; omega
  have p := perm_range_of nd fun x hx => by rw [len]; exact ups_nil.mp h x hx
  rw [len] at p
  exact p
theorem full_take {ts : List Nat} {low : Nat} (h : (ts.take low).Perm (List.range low)) : ups ts low = [] := ups_nil.mpr fun t ht => List.mem_range.mp (h.mem_iff.mp ht)
theorem blk_iff {ts : List Nat} (ok : Ts ts) {i : Nat} (hi' : i < ts.length) : hi ts (i + 1) = i ↔ ups ts (i + 1) = [] := by
  constructor
  · intro e
    refine ups_nil.mpr fun t ht => ?_
    have := (foldl_max_le (ts.take (i + 1)) 0).2 t ht
    unfold hi at e
    omega
  · intro e
    have p := take_full ok (by omega) e
    have m : i ∈ ts.take (i + 1) := p.mem_iff.mpr (List.mem_range.mpr (Nat.lt_succ_self _))
    have h1 := (foldl_max_le (ts.take (i + 1)) 0).2 i m
    have h2 := foldl_max_lt (ts.take (i + 1)) 0 i (Nat.zero_le _) fun t ht => by
      have := ups_nil.mp e t ht
      omega
    unfold hi
    omega
def blks (ts : List Nat) (k : Nat) : List Nat := (List.range k).filter fun low => decide (ups ts low = [])
theorem blks_succ (ts : List Nat) (k : Nat) : blks ts (k + 1) = blks ts k ++ (if ups ts k = [] then [k] else []) := by
  unfold blks
  rw [List.range_succ, List.filter_append]
  congr 1
  by_cases c : ups ts k = []
  · rw [List.filter_cons, if_pos (decide_eq_true c), if_pos c]
    rfl
  · rw [List.filter_cons, if_neg (by simpa using c), if_neg c]
    rfl
theorem blks_mem (ts : List Nat) (k low : Nat) : low ∈ blks ts k ↔ low < k ∧ ups ts low = [] := by
  unfold blks
  rw [List.mem_filter, List.mem_range, decide_eq_true_iff]
theorem blks_len (ts : List Nat) (k : Nat) : (blks ts k).length ≤ k := by
  unfold blks
  refine Nat.le_trans (List.length_filter_le _ _) ?_
  rw [List.length_range]
  exact Nat.le_refl _
abbrev sp_block_bits (K : PySem.W.Frag) (C : Addr) : Sp := sp1 fun a H Q => ∃ ts fl, IsT C H a ts fl ∧ ∀ p H', Ext H H' → H p = none → H' p = some (.lst (nv (blks ts (ts.length + 1)))) → Q (.ref p) H'
/-! ### dicts as sets of numbers -/
def dput1 (acc : List (Key × V)) (n : Nat) : List (Key × V) := putK acc (Sum.inl (n : Int)) (.bl true)
def dset (L : List Nat) : List (Key × V) := L.foldl dput1 []
theorem dset_snoc (L : List Nat) (n : Nat) : dset (L ++ [n]) = putK (dset L) (Sum.inl (n : Int)) (.bl true) := by
  unfold dset
  rw [List.foldl_append]
  rfl
theorem dset_key (L : List Nat) : ∀ n : Nat, n ∈ L → valV (dset L) (Sum.inl (n : Int)) = some (.bl true) := by
  have gen : ∀ (L : List Nat) (acc : List (Key × V)) (n : Nat), (n ∈ L ∨ valV acc (Sum.inl (n : Int)) = some (.bl true)) → valV (L.foldl dput1 acc) (Sum.inl (n : Int)) = some (.bl true) := by
    intro L
    induction L with
    | nil => intro acc n h; rcases h with h | h; cases h; exact h
    | cons x L ih =>
      intro acc n h
      refine ih _ n ?_
      unfold dput1
      rw [valV_put]
      rcases h with h | h
      · rcases List.mem_cons.mp h with rfl | h
        · rw [if_pos rfl]
          exact .inr rfl
        · exact .inl h
      · right
        by_cases e : (Sum.inl (n : Int) : Key) = Sum.inl (x : Int)
        · rw [if_pos e]
        · rw [if_neg e]
          exact h
  exact fun n h => gen L [] n (.inl h)
theorem putK_len_old {κ : Type} [DecidableEq κ] {kvs : List (κ × V)} {k : κ} {v w : V} (h : valV kvs k = some w) : (putK kvs k v).length = kvs.length := by
  unfold putK
  have : (kvs.any fun kv => decide (kv.1 = k)) = true := by rw [valV_any, h]; rfl
  rw [if_pos this, List.length_map]
theorem dset_same {x : Nat} : ∀ k : Nat, (dset (List.replicate (k + 1) x)).length = 1
  | 0 => rfl
  | k + 1 => by
    rw [List.replicate_succ', dset_snoc, putK_len_old (dset_key _ x (by simp))]
    exact dset_same k
theorem dset_one {L : List Nat} (h : (dset L).length = 1) {a b : Nat} (ha : a ∈ L) (hb : b ∈ L) : a = b := by
  have h1 := dset_key L a ha
  have h2 := dset_key L b hb
  match e : dset L, h with
  | [p], _ =>
    rw [e] at h1 h2
    have k1 := valV_in h1
    have k2 := valV_in h2
    have e1 : (Sum.inl (a : Int) : Key) = p.1 := by simpa using k1
    have e2 : (Sum.inl (b : Int) : Key) = p.1 := by simpa using k2
    have := Sum.inl.inj (e1.trans e2.symm)
    omega
theorem dset_len (L : List Nat) : (dset L).length ≤ L.length := by
  have gen : ∀ (L : List Nat) (acc : List (Key × V)), (L.foldl dput1 acc).length ≤ acc.length + L.length := by
    intro L
    induction L with
    | nil => intro acc; exact Nat.le_refl _
    | cons x L ih =>
      intro acc
      have h1 := ih (putK acc (Sum.inl (x : Int)) (.bl true))
      have h2 := length_putK acc (Sum.inl (x : Int)) (.bl true)
      rw [List.length_cons]
      show (L.foldl dput1 (putK acc (Sum.inl (x : Int)) (.bl true))).length ≤ _
      omega
  have := gen L []
  unfold dset
  simpa using this
theorem dset_all {L : List Nat} {x : Nat} (h : ∀ y ∈ L, y = x) (hl : L ≠ []) : (dset L).length = 1 := by
  have e : L = List.replicate L.length x := List.eq_replicate_of_mem h
  obtain ⟨k, hk⟩ : ∃ k, L.length = k + 1 := ⟨L.length - 1, by have := List.length_pos_iff.mpr hl; omega⟩
  rw [e, hk]
  exact dset_same k
theorem perm_bs {m k : Nat} {ts us : List Nat} (h1 : ts.Perm (List.range m)) (h2 : us.Perm (List.range k)) : (ts ++ us.map fun t => m + t).Perm (List.range (m + k)) := by
  rw [List.range_add]
  exact h1.append (h2.map _)
theorem perm_nat {ns : List Int} {l : List Nat} (h : ns.Perm (l.map fun (n : Nat) => (n : Int))) : ∃ us : List Nat, us.Perm l ∧ ns = us.map fun (n : Nat) => (n : Int) := by
  refine ⟨ns.map Int.toNat, ?_, ?_⟩
  · have := h.map Int.toNat
    rw [List.map_map, show (Int.toNat ∘ fun (n : Nat) => (n : Int)) = id from funext fun n => by simp, List.map_id] at this
    exact this
  · rw [List.map_map]
    refine (List.map_id ns).symm.trans (List.map_congr_left fun x hx => ?_)
    obtain ⟨n, _, rfl⟩ := List.mem_map.mp (h.mem_iff.mp hx)
    simp
theorem nv_inj {a b : List Nat} (h : nv a = nv b) : a = b := by
  refine List.ext_getElem? fun i => ?_
  have e : (nv a)[i]? = (nv b)[i]? := by rw [h]
  unfold nv at e
  rw [List.getElem?_map, List.getElem?_map] at e
  cases ha : a[i]? with
  | none =>
    cases hb : b[i]? with
    | none => rfl
    | some y => rw [ha, hb] at e; cases e
  | some x =>
    cases hb : b[i]? with
    | none => rw [ha, hb] at e; cases e
    | some y =>
      rw [ha, hb] at e
      have e1 := V.int.inj (Option.some.inj e)
      have : x = y := by omega
      rw [this]
end G

/-! More loops: comprehensions over enumerate, lists of ints. -/
namespace G
open PySem PySem.Spec PyProof.Rows L2 M
section
variable {H : Hp} {Q : VK} {σ : L2.St} {te : TE} {tt : TT} {K : PySem.W.Frag} {a : Addr} {xs : List V} {vs : List Nat}
/-- [e for i, x in enumerate(list) if t]: slots c and d -/
theorem u_lceIf {c d n : Nat} (hx : SqL K H a xs) (Pv : Addr → Nat → Hp → Prop) (h0 : ∀ D, H D = none → Pv D 0 (upd H D (.lst []))) (hG : ∀ D i H', H D = none → i ≤ xs.length → Pv D i H' → SqL K H' a xs)
    (hs : ∀ D i x H' H2, H D = none → xs[i]? = some x → Pv D i H' → Ext H' H2 → tt (((wipe σ vs).set c (some (.int (i : Int)))).set d (some x)) H2 fun b H3 => if b = true then te (((wipe σ vs).set c (some (.int (i : Int)))).set d (some x)) H3 fun y H4 => ∃ acc, H4 D = some (.lst acc) ∧ acc.length < sizeLine ∧ Pv D (i + 1) (upd H4 D (.lst (acc ++ [y]))) else Pv D (i + 1) H3)
    (hd : ∀ D H', H D = none → Pv D xs.length H' → Q (.ref D) H') (hw : ∀ x y, wipe (((wipe σ vs).set c (some x)).set d (some y)) vs = wipe σ vs := by intro x y; rfl) (hn : n = 2 := by rfl) :
    ∃ a' xs', [V.ref a] = [.ref a'] ∧ SqL K H a' xs' ∧ LcW (gTup K n (gCons (gName c) (gCons (gName d) gNil))) tt te vs σ Q (Ite K a') H := by
  subst hn
  refine ⟨a, xs, rfl, hx, fun D hD => lc_it walk_enum (Pv D) (h0 D hD) (fun i H' hi p => hG D i H' hD hi p) (fun i v H H' hi p y => ?_) (fun H' p => hd D H' hD p)⟩
  obtain ⟨T, x, z, rfl, hT, rfl, e1, e2⟩ := y
  cases e1
  exact ⟨T, _, rfl, SqT.of upd_same, rfl, _, _, rfl, _, _, rfl, rfl, hw _ _, hs D i z H _ hD e2 p (Ext.new hT)⟩
/-- [e for i, x in enumerate(list)]: slots c and d -/
theorem u_lce {c d n : Nat} (hx : SqL K H a xs) (Pv : Addr → Nat → Hp → Prop) (h0 : ∀ D, H D = none → Pv D 0 (upd H D (.lst []))) (hG : ∀ D i H', H D = none → i ≤ xs.length → Pv D i H' → SqL K H' a xs)
    (hs : ∀ D i x H' H2, H D = none → xs[i]? = some x → Pv D i H' → Ext H' H2 → te (((wipe σ vs).set c (some (.int (i : Int)))).set d (some x)) H2 fun y H4 => ∃ acc, H4 D = some (.lst acc) ∧ acc.length < sizeLine ∧ Pv D (i + 1) (upd H4 D (.lst (acc ++ [y]))))
    (hd : ∀ D H', H D = none → Pv D xs.length H' → Q (.ref D) H') (hw : ∀ x y, wipe (((wipe σ vs).set c (some x)).set d (some y)) vs = wipe σ vs := by intro x y; rfl) (hn : n = 2 := by rfl) :
    ∃ a' xs', [V.ref a] = [.ref a'] ∧ SqL K H a' xs' ∧ LcW (gTup K n (gCons (gName c) (gCons (gName d) gNil))) tYes te vs σ Q (Ite K a') H :=
  u_lceIf hx Pv h0 hG (fun D i x H' H2 hD hi p e => g_yes (iteT (hs D i x H' H2 hD hi p e))) hd hw hn
end
theorem iv_get {l : List Int} {i : Nat} {v : V} (h : (iv l)[i]? = some v) : ∃ n, l[i]? = some n ∧ v = .int n := by
  unfold iv at h
  rw [List.getElem?_map] at h
  cases e : l[i]? with
  | none => rw [e] at h; cases h
  | some n => rw [e] at h; exact ⟨n, rfl, (Option.some.inj h).symm⟩
theorem iv_at {l : List Int} {i : Nat} {n : Int} (h : l[i]? = some n) : (iv l)[i]? = some (.int n) := by
  unfold iv
  rw [List.getElem?_map, h]
  rfl
theorem gns_len (ts : List Nat) (fl k : Nat) : (gns ts fl k).length = k := by
  unfold gns
  rw [List.length_map, List.length_range]
theorem gns_at {ts : List Nat} {fl k i : Nat} (h : i < k) : (gns ts fl k)[i]? = some (gain ts fl i) := by
  unfold gns
  rw [List.getElem?_map, List.getElem?_range h]
  rfl
theorem gns_succ (ts : List Nat) (fl k : Nat) : iv (gns ts fl k) ++ [.int (gain ts fl k)] = iv (gns ts fl (k + 1)) := by
  unfold gns iv
  rw [List.range_succ, List.map_append, List.map_append]
  rfl
/-- the powers of the bits that are asked for -/
def pws (f : Nat → Bool) (k : Nat) : List Nat := ((List.range k).filter f).map fun e => 2 ^ e
theorem pws_succ (f : Nat → Bool) (k : Nat) : pws f (k + 1) = pws f k ++ (if f k then [2 ^ k] else []) := by
  unfold pws
  rw [List.range_succ, List.filter_append, List.map_append]
  congr 1
  by_cases c : f k = true
  · rw [List.filter_cons, if_pos c, if_pos c]
    rfl
  · rw [List.filter_cons, if_neg c, if_neg c]
    rfl
theorem pws_sum (f : Nat → Bool) : ∀ k, (pws f k).sum = nb k f
  | 0 => rfl
  | k + 1 => by
    rw [pws_succ, List.sum_append_nat, pws_sum f k]
    show _ = nb k f + (if f k then 2 ^ k else 0)
    cases f k <;> simp
theorem pws_len (f : Nat → Bool) (k : Nat) : (pws f k).length ≤ k := by
  unfold pws
  rw [List.length_map]
  refine Nat.le_trans (List.length_filter_le _ _) ?_
  rw [List.length_range]
  exact Nat.le_refl _
theorem nb_congr {n : Nat} {f g : Nat → Bool} (h : ∀ i, i < n → f i = g i) : nb n f = nb n g := nb_ext h
/-- squares -/
theorem sq_nat (i : Int) : i * i = ((i.natAbs * i.natAbs : Nat) : Int) := by
  rw [Int.natCast_mul]
  exact (Int.natAbs_mul_self' i).symm
theorem gain_sq (ts : List Nat) (fl e : Nat) : gain ts fl e * gain ts fl e = (((gain ts fl e).natAbs * (gain ts fl e).natAbs : Nat) : Int) := sq_nat _
def gsq (ts : List Nat) (fl k : Nat) : List Nat := (List.range k).map fun e => (gain ts fl e).natAbs * (gain ts fl e).natAbs
theorem gsq_sum (ts : List Nat) (fl : Nat) : (gsq ts fl ts.length).sum = sq4 ts fl := (sm_list _ _).symm
theorem mul_gain {ts : List Nat} (ok : Ts ts) {fl e : Nat} (he : e < ts.length) : CMulX (gain ts fl e) (gain ts fl e) := by
  have h1 := natAbs_gain ts fl e
  have h2 : 2 ^ tb ts e ≤ 2 ^ 100 := Nat.pow_le_pow_right (by decide) (by have := tb_lt ok he; have := ok.most; omega)
  have h3 : 2 ^ e ≤ 2 ^ 100 := Nat.pow_le_pow_right (by decide) (by have := ok.most; omega)
  have h4 : (2 : Nat) ^ 100 + 2 ^ 100 < 2 ^ 102 := by decide
  have h5 : (gain ts fl e).natAbs < 2 ^ 102 := by omega
  exact mulx_ok (a := 102) (b := 102) h5 h5 (by decide)
end G

/-! sum of a tuple. -/
namespace G
open PySem PySem.Spec PyProof.Rows L2 M
theorem sum_intTupG {prog : Program} {w : World} {A : Around} {E : Value → Shared → Prop} {s : Shared} {l : Addr} {xs : Array (Int × Tok)} {Q : Value → Shared → Prop} (hh : A.handled = none) (hl : IsTup s.heap l (intItems xs))
    (h : ∀ h' tk t', (∀ b o, s.heap.get? b = some o → h'.get? b = some o) → Q (.int (preSum (numAt xs) xs.size) t') { s with heap := h', toks := tk }) :
    wpAny (model prog w) A (call (.builtin "sum") [.ref l]) Q E s := by
  have hlt : l < s.heap.objs.size := hl.lt
  refine call_sum_walkG (iter_tuple hl ?_)
  have hl2 := hl.push { cls := .type "tuple_iterator", data := .fields #[.ref l, .int 0 0] }
  refine ⟨_, _, _, _, _, _, numAt xs, rfl, Walks.tuple (A := A.in1) hh _ l (Nat.ne_of_lt hlt) (intItems xs), ⟨⟨_, Heap.get?_push_size _ rfl, rfl, rfl⟩, hl2⟩, fun b hb => ?_, (fun _ _ => intItems_at), fun h' tk t' hk => ?_⟩
  · show b < (s.heap.push _).objs.size
    rw [Heap.size_push]
    rcases List.mem_cons.mp hb with rfl | hb
    · exact Nat.lt_succ_self _
    · rcases List.mem_cons.mp hb with rfl | hb
      · exact Nat.lt_succ_of_lt hlt
      · cases hb
  · have := h h' tk t' (fun b o e => hk b o (fun z => absurd (Heap.lt_size e) ((List.mem_singleton.mp z) ▸ Nat.lt_irrefl _)) (Heap.get?_push_of_some _ e))
    simpa [intItems] using this
theorem sumT_raw {prog : Program} {w : World} {A : Around} {E : Value → Shared → Prop} {s : Shared} {l : Addr} {its : List Value} {ns : List Int} {Q : Value → Shared → Prop} (hh : A.handled = none) (hl : IsTup s.heap l its.toArray) (hi : IntsAre its ns)
    (h : ∀ h' tk t', (∀ b o, s.heap.get? b = some o → h'.get? b = some o) → Q (.int ns.sum t') { s with heap := h', toks := tk }) : wpAny (model prog w) A (call (.builtin "sum") [.ref l]) Q E s := by
  obtain ⟨xs, e⟩ := hi.allInts.items
  have hn : numsOf (intItems xs).toList = ns := by rw [← e]; exact hi.numsOf
  rw [nums_intItems] at hn
  rw [e] at hl
  refine sum_intTupG hh hl fun h' tk t' hk => ?_
  have := h h' tk t' hk
  rw [preSum_eq, List.take_of_length_le (by simp), hn]; exact this
def rSumT (K : PySem.W.Frag) : List V → Hp → VK → Prop := fun vs H Q => ∃ (a : Addr) (ns : List Int), vs = [V.ref a] ∧ SqT K H a (ns.map V.int) ∧ Q (.int ns.sum) H
theorem cr_sumT {X : Cx} {K0 : PySem.W.Frag} (hc : X.calm = true) (hK : X.K = K0 := by rfl) : CallR X (.builtin "sum") (rSumT K0) := by
  subst hK
  intro pins s σ H vs us Q I r h
  obtain ⟨a, ns, rfl, hs, q⟩ := h
  obtain ⟨its, rv, hl, _⟩ := I.tuple hs
  rw [Vals.ref1 r]
  exact sumT_raw (I.ok.hd hc) hl rv.ints fun h' tk t' hk => ⟨.int _, H, I.kept hk, ⟨_, rfl⟩, q⟩
/-! ### squares of ways -/
theorem part_abs {ts : List Nat} (ok : Ts ts) {fl e : Nat} (he : e < ts.length) (b : Bool) : (G.part ts fl e b).natAbs ≤ 2 ^ 100 := by
  have h2 : 2 ^ tb ts e ≤ 2 ^ 100 := Nat.pow_le_pow_right (by decide) (by have := tb_lt ok he; have := ok.most; omega)
  have h3 : 2 ^ e ≤ 2 ^ 100 := Nat.pow_le_pow_right (by decide) (by have := ok.most; omega)
  unfold G.part
  revert h2 h3
  generalize 2 ^ tb ts e = A
  generalize 2 ^ e = B
  generalize (2 : Nat) ^ 100 = M
  intro h2 h3
  split <;> split <;> omega
theorem wy_abs {ts : List Nat} (ok : Ts ts) (fl : Nat) (b : Nat → Bool) : (wy ts fl b).natAbs < 2 ^ 110 := by
  have gen : ∀ n, n ≤ ts.length → (im n fun e => G.part ts fl e (b e)).natAbs ≤ n * 2 ^ 100 := fun n => by
    induction n with
    | zero => intro _; exact Nat.zero_le _
    | succ n ih =>
      intro hn
      have h1 := ih (by omega)
      have h2 := part_abs ok (fl := fl) (e := n) (by omega) (b n)
      show (im n (fun e => G.part ts fl e (b e)) + G.part ts fl n (b n)).natAbs ≤ (n + 1) * 2 ^ 100
      rw [Nat.succ_mul]
      omega
  have h := gen ts.length (Nat.le_refl _)
  have h2 : ts.length * 2 ^ 100 ≤ 100 * 2 ^ 100 := Nat.mul_le_mul_right _ ok.most
  have h3 : 100 * 2 ^ 100 < 2 ^ 110 := by decide
  unfold wy
  omega
theorem cpow2 {i : Int} {a : Nat} (h : i.natAbs < 2 ^ a) (ha : a ≤ 1000) : CPowW i 2 := by
  have b := PyProof.Rows.intBits_le h
  refine ⟨by decide, ?_⟩
  have e : ((2 : Int) ^ 27) = 134217728 := by decide
  omega
def psum (ts : List Nat) (fl e : Nat) : Int := G.part ts fl e false + G.part ts fl e true
theorem psum_is (ts : List Nat) (fl e : Nat) : psum ts fl e = ((2 ^ tb ts e : Nat) : Int) - ((2 ^ e : Nat) : Int) := by
  unfold psum G.part
  cases fl.testBit (tb ts e) <;> simp <;> omega
theorem psum_zero {ts : List Nat} (ok : Ts ts) (fl : Nat) : im ts.length (psum ts fl) = 0 := by
  rw [im_congr (g := fun e => ((2 ^ tb ts e : Nat) : Int) - ((2 ^ e : Nat) : Int)) fun i _ => psum_is ts fl i, im_sub, im_perm (ts_perm ok) (fun e => ((2 ^ e : Nat) : Int))]
  exact Int.sub_self _
/-- what the law sums -/
def sqrow (ts : List Nat) (fl e k : Nat) : Int := im k fun o => 2 * psum ts fl e * psum ts fl o
def sqlaw (ts : List Nat) (fl n : Nat) : Int := im n fun e => 2 * (G.part ts fl e false ^ 2 + G.part ts fl e true ^ 2) + sqrow ts fl e e
theorem sqlaw_is (ts : List Nat) (fl : Nat) : ∀ n, sqlaw ts fl n = im n (fun e => gain ts fl e * gain ts fl e) + im n (psum ts fl) * im n (psum ts fl)
  | 0 => rfl
  | n + 1 => by
    have ih := sqlaw_is ts fl n
    show sqlaw ts fl n + (2 * (G.part ts fl n false ^ 2 + G.part ts fl n true ^ 2) + sqrow ts fl n n) = im n (fun e => gain ts fl e * gain ts fl e) + gain ts fl n * gain ts fl n + (im n (psum ts fl) + psum ts fl n) * (im n (psum ts fl) + psum ts fl n)
    have r : sqrow ts fl n n = 2 * psum ts fl n * im n (psum ts fl) := im_mul n (2 * psum ts fl n) (psum ts fl)
    rw [ih, r, ← gain_part ts fl n]
    unfold psum
    generalize im n (fun e => gain ts fl e * gain ts fl e) = G0
    generalize im n (fun e => G.part ts fl e false + G.part ts fl e true) = S0
    grind
theorem sqlaw_sq4 {ts : List Nat} (ok : Ts ts) (fl : Nat) : sqlaw ts fl ts.length = ((sq4 ts fl : Nat) : Int) := by
  rw [sqlaw_is, psum_zero ok, Int.mul_zero, Int.add_zero]
  unfold sq4
  rw [← im_nat]
  exact im_congr fun i _ => gain_sq ts fl i
def pO (x : Int × Int) : HO := .tup [.int x.1, .int x.2]
def arow (ts : List Nat) (fl k : Nat) : List (Int × Int) := (List.range k).map fun e => (G.part ts fl e false, G.part ts fl e true)
theorem arow_succ (ts : List Nat) (fl k : Nat) : arow ts fl (k + 1) = arow ts fl k ++ [(G.part ts fl k false, G.part ts fl k true)] := by
  unfold arow
  rw [List.range_succ, List.map_append]
  rfl
theorem arow_len (ts : List Nat) (fl k : Nat) : (arow ts fl k).length = k := by
  unfold arow
  rw [List.length_map, List.length_range]
theorem arow_at {ts : List Nat} {fl k i : Nat} (h : i < k) : (arow ts fl k)[i]? = some (G.part ts fl i false, G.part ts fl i true) := by
  unfold arow
  rw [List.getElem?_map, List.getElem?_range h]
  rfl
/-! ### lists and tuples of ints as data -/
def iD (l : List Int) : List PyData := l.map PyData.int
theorem dpAll_iv {K : PySem.W.Frag} {H : Hp} : ∀ l : List Int, DpAll K H (iv l) (iD l)
  | [] => .nil
  | n :: l => .cons (.int _) (dpAll_iv l)
theorem dp_ivL {K : PySem.W.Frag} {H : Hp} {a : Addr} {l : List Int} (h : H a = some (.lst (iv l))) : Dp K H (.ref a) (.list (iD l)) := .lst (SqL.of h) (dpAll_iv l)
theorem dp_ivT {K : PySem.W.Frag} {H : Hp} {a : Addr} {l : List Int} (h : H a = some (.tup (iv l))) : Dp K H (.ref a) (.tuple (iD l)) := .tup (SqT.of h) (dpAll_iv l)
open PyData in
theorem iD_canLay : ∀ l : List Int, canLayAll0 (iD l) = true
  | [] => by simp only [iD, List.map_nil, canLayAll0]
  | n :: l => by
    have ih := iD_canLay l
    unfold iD at ih ⊢
    simp only [List.map_cons, canLayAll0, canLay0, Bool.true_and]
    exact ih
open PyData in
theorem iD_depth : ∀ l : List Int, depthAll (iD l) = 0
  | [] => by simp only [iD, List.map_nil, depthAll]
  | n :: l => by
    have ih := iD_depth l
    unfold iD at ih ⊢
    simp only [List.map_cons, depthAll, depth, Nat.zero_max]
    exact ih
open PyData in
theorem iD_eqvAll : ∀ l m : List Int, eqvAll (iD l) (iD m) = decide (l = m)
  | [], [] => by simp [iD, eqvAll]
  | [], b :: m => by simp [iD, eqvAll]
  | a :: l, [] => by simp [iD, eqvAll]
  | a :: l, b :: m => by
    have ih := iD_eqvAll l m
    show (eqv (.int a) (.int b) && eqvAll (iD l) (iD m)) = _
    rw [ih]
    have e : eqv (.int a) (.int b) = decide (a = b) := by
      unfold eqv
      by_cases h : a = b <;> simp [h]
    rw [e]
    by_cases h : a = b <;> by_cases g : l = m <;> simp [h, g]
theorem iD_shapedL (l : List Int) : SeqAt.shaped (.list (iD l)) = true := by
  unfold SeqAt.shaped
  rw [show PyData.canLay0 (.list (iD l)) = true by unfold PyData.canLay0; exact iD_canLay l]
  unfold PyData.depth
  rw [iD_depth]
  rfl
theorem iD_shapedT (l : List Int) : SeqAt.shaped (.tuple (iD l)) = true := by
  unfold SeqAt.shaped
  rw [show PyData.canLay0 (.tuple (iD l)) = true by unfold PyData.canLay0; exact iD_canLay l]
  unfold PyData.depth
  rw [iD_depth]
  rfl
theorem iD_eqL (l m : List Int) : PyData.eqv (.list (iD l)) (.list (iD m)) = decide (l = m) := by
  unfold PyData.eqv
  exact iD_eqvAll l m
theorem iD_eqT (l m : List Int) : PyData.eqv (.tuple (iD l)) (.tuple (iD m)) = decide (l = m) := by
  unfold PyData.eqv
  exact iD_eqvAll l m
section
variable {K : PySem.W.Frag} {H : Hp} {Q : VK} {a b : Addr} {l m : List Int}
theorem g_eqIT (ha : H a = some (.tup (iv l))) (hb : H b = some (.tup (iv m))) (q : Q (.bl (decide (l = m))) H) : rEqD K (.ref a) (.ref b) H Q :=
  ⟨_, _, dp_ivT ha, dp_ivT hb, iD_shapedT _, iD_shapedT _, by rw [iD_eqT]; exact q⟩
theorem g_eqIL (ha : H a = some (.lst (iv l))) (hb : H b = some (.lst (iv m))) (q : Q (.bl (decide (l = m))) H) : rEqD K (.ref a) (.ref b) H Q :=
  ⟨_, _, dp_ivL ha, dp_ivL hb, iD_shapedL _, iD_shapedL _, by rw [iD_eqL]; exact q⟩
theorem g_neIT (ha : H a = some (.tup (iv l))) (hb : H b = some (.tup (iv m))) (q : Q (.bl (!decide (l = m))) H) : rNeD K (.ref a) (.ref b) H Q :=
  ⟨_, _, dp_ivT ha, dp_ivT hb, iD_shapedT _, iD_shapedT _, by rw [iD_eqT]; exact q⟩
theorem g_neIL (ha : H a = some (.lst (iv l))) (hb : H b = some (.lst (iv m))) (q : Q (.bl (!decide (l = m))) H) : rNeD K (.ref a) (.ref b) H Q :=
  ⟨_, _, dp_ivL ha, dp_ivL hb, iD_shapedL _, iD_shapedL _, by rw [iD_eqL]; exact q⟩
end
end G

/-! How the laws on errors tell a class: the list of all classes with whether an error is one. -/
namespace G
open PySem PySem.Spec PyProof.Rows L2 M
def rowO (x y : Str) : HO := .tup [.str y, .bl (decide (x = y))]
section
variable {H : Hp} {Q : VK} {σ : L2.St} {te : TE} {tt : TT} {K : PySem.W.Frag} {a : Addr} {xs : List V} {vs : List Nat}
/-- [e for x, y in a list of pairs if t]: slots c and d -/
theorem u_lcl2If {c d n : Nat} (hx : SqL K H a xs) (Pv : Addr → Nat → Hp → Prop) (h0 : ∀ D, H D = none → Pv D 0 (upd H D (.lst []))) (hG : ∀ D i H', H D = none → i ≤ xs.length → Pv D i H' → SqL K H' a xs)
    (hs : ∀ D i x H', H D = none → xs[i]? = some x → Pv D i H' → ∃ (T : Addr) (u v : V), x = .ref T ∧ SqT K H' T [u, v] ∧ tt (((wipe σ vs).set c (some u)).set d (some v)) H' fun b H3 => if b = true then te (((wipe σ vs).set c (some u)).set d (some v)) H3 fun y H4 => ∃ acc, H4 D = some (.lst acc) ∧ acc.length < sizeLine ∧ Pv D (i + 1) (upd H4 D (.lst (acc ++ [y]))) else Pv D (i + 1) H3)
    (hd : ∀ D H', H D = none → Pv D xs.length H' → Q (.ref D) H') (hw : ∀ x y, wipe (((wipe σ vs).set c (some x)).set d (some y)) vs = wipe σ vs := by intro x y; rfl) (hn : n = 2 := by rfl) :
    ∃ a', V.ref a = .ref a' ∧ (∃ xs, SqL K H a' xs) ∧ LcW (gTup K n (gCons (gName c) (gCons (gName d) gNil))) tt te vs σ Q (Itl K a') H := by
  subst hn
  refine ⟨a, rfl, ⟨xs, hx⟩, fun D hD => lc_it walk_list (Pv D) (h0 D hD) (fun i H' hi p => hG D i H' hD hi p) (fun i v H H' hi p y => ?_) (fun H' p => hd D H' hD p)⟩
  obtain ⟨rfl, e⟩ := y
  obtain ⟨T, u, w, rfl, hT, q⟩ := hs D i v _ hD e p
  exact ⟨T, _, rfl, hT, rfl, _, _, rfl, _, _, rfl, rfl, hw _ _, q⟩
end
theorem plain_cls : ∀ x ∈ plainErrs, inV (.str x) [.str "InvalidTargets", .str "InvalidPlaces", .str "InvalidTurns", .str "InvalidSeen"] = false ∧ inV (.str x) [.str "InvalidTurns", .str "InvalidSeen", .str "InvalidPlaces"] = false ∧ x ≠ "InvalidText" ∧ x ≠ "OverBudget" ∧ x.length ≤ 100 := by decide +kernel
theorem item_cls : ∀ x ∈ (["InvalidTargets", "InvalidPlaces", "InvalidTurns", "InvalidSeen"] : List Str), inV (.str x) [.str "InvalidTargets", .str "InvalidPlaces", .str "InvalidTurns", .str "InvalidSeen"] = true ∧ x.length ≤ 100 ∧ x ∈ allErrs ∧ (x, ("item" : Str)) ∈ fieldErrs := by decide +kernel
/-- what is told of an error's field -/
def shV (v : V) (r : Str) : Prop := (v = .non ∧ r = "None") ∨ ∃ i : Int, v = .int i ∧ i.natAbs.log2 < 1920 ∧ r = ((toString i : String) : Str)
/-- what is told of an error of the class x with these fields -/
def ClsT (x : Str) (fs : List (Str × V)) (r : Str) : Prop := (x ∈ plainErrs ∧ r = x) ∨ (∃ v s, x ∈ (["InvalidTargets", "InvalidPlaces", "InvalidTurns", "InvalidSeen"] : List Str) ∧ fs = [(("item" : Str), v)] ∧ shV v s ∧ r = x ++ " " ++ s) ∨
  (∃ v s, x = "InvalidText" ∧ fs = [(("part" : Str), v)] ∧ shV v s ∧ r = ("InvalidText " : Str) ++ s) ∨ (∃ v s, x = "OverBudget" ∧ fs = [(("total" : Str), v)] ∧ shV v s ∧ r = x ++ ((" " : Str) ++ s))
abbrev sp_law_class (K : PySem.W.Frag) (mg : Str → Option Value) : Sp := sp1 fun v H Q => ∃ (a : Addr) (x : Str) (fs : List (Str × V)) (r : Str), v = .ref a ∧ x ∈ allErrs ∧ ExI H a (ec mg x) fs ∧ ClsT x fs r ∧ ∀ H', Ext H H' → Q (.str r) H'
theorem shV_len {v : V} {s : Str} (h : shV v s) : s.length ≤ 1921 := by
  rcases h with ⟨_, rfl⟩ | ⟨i, _, h, rfl⟩
  · decide +kernel
  · exact int_text_len_1921 h
abbrev spx_way (K : PySem.W.Frag) (mg : Str → Option Value) : Sp := se1 fun v H Q E => Other K H v ∧ E (.ref (ec mg "InvalidTurn")) none H
/-- rise_counts -/
abbrev sp_rise_counts (K : PySem.W.Frag) (C : Addr) : Sp := sp1 fun a H Q => ∃ ts fl, IsT C H a ts fl ∧
  ∀ (p : Addr) cs H', Ext H H' → H p = none → (∀ c ∈ cs, Cyc ts c ∧ c.length ≤ ts.length) → (∀ e, e < ts.length → ∃ c ∈ cs, e ∈ c) → cs.length ≤ ts.length → cs.flatten.Perm (List.range ts.length) →
    H' p = some (.tup [.int ((((2 ^ ts.length : Nat) : Int) - ((leftAll fl cs 1 : Nat) : Int)) / 2), .int ((leftAll fl cs 1 : Nat) : Int), .int ((((2 ^ ts.length : Nat) : Int) - ((leftAll fl cs 1 : Nat) : Int)) / 2)]) → Q (.ref p) H'
open PyData in
theorem pairL_eq (l m : List Nat) (a b : Nat) : eqv (.list [.list (nd l), .int (a : Int)]) (.list [.list (nd m), .int (b : Int)]) = decide (l = m ∧ a = b) := by
  rw [← pair_eq l m a b]
  simp only [eqv]
open PyData in
theorem pairL_shaped (l : List Nat) (a : Nat) : SeqAt.shaped (.list [.list (nd l), .int (a : Int)]) = true := by
  unfold SeqAt.shaped
  simp only [canLay0, canLayAll0, depth, depthAll, nd_canLay, nd_depth]
  rfl
theorem dp_pairL {K : PySem.W.Frag} {H : Hp} {p l : Addr} {ts : List Nat} {a : Nat} (hp : H p = some (.lst [.ref l, .int (a : Int)])) (hl : H l = some (.lst (nv ts))) : Dp K H (.ref p) (.list [.list (nd ts), .int (a : Int)]) :=
  .lst (SqL.of hp) (.cons (dp_nv hl) (.cons (.int _) .nil))
theorem g_disp1 {σ : L2.St} {H : Hp} {Q : VK} {k : Str} {n : Nat} {v : V} (e : σ[n]? = some (some v)) (h : ∀ p, H p = none → Q (.ref p) (upd (upd H p (.dK [])) p (.dK [(Sum.inr k, v)]))) : tDisp [(tC (.str k), tVar n)] σ H Q :=
  fun p hp => ⟨v, e, upd_same, [(Sum.inr k, v)], rfl, by show 1 ≤ 15; decide, h p hp⟩
theorem Ext.new2 {H : Hp} {p : Addr} {o u : HO} (h : H p = none) : Ext H (upd (upd H p o) p u) := (Ext.new h).mut h
end G

/-! Texts of turns. -/
namespace G
open PySem PySem.Spec PyProof.Rows L2 M
/-- a number's text -/
def nT (n : Nat) : Str := ((toString ((n : Nat) : Int) : String) : Str)
def joinT (ts : List Nat) : Str := Txt.join (Str.ofString " ") (ts.map nT)
def showT (ts : List Nat) (fl : Nat) : Str := joinT ts ++ Str.ofString "; " ++ nT fl
theorem nT_len {n : Nat} (h : n < 2 ^ 1900) : (nT n).length ≤ 1921 := int_text_len_1921 (log_small h)
theorem sum_le_mul {l : List Nat} {m : Nat} (h : ∀ x ∈ l, x ≤ m) : l.sum ≤ l.length * m := by
  induction l with
  | nil => exact Nat.zero_le _
  | cons x l ih =>
    have h1 := ih fun y hy => h y (List.mem_cons_of_mem _ hy)
    have h2 := h x List.mem_cons_self
    rw [List.sum_cons, List.length_cons, Nat.succ_mul]
    omega
theorem texts_len {ts : List Nat} (h : ∀ t ∈ ts, t < 2 ^ 1900) (l : ts.length ≤ 1000) : ((ts.map nT).map (·.length)).sum + (ts.map nT).length * (Str.ofString " ").length ≤ 16777216 := by
  have h1 : ((ts.map nT).map (·.length)).sum ≤ ((ts.map nT).map (·.length)).length * 1921 := sum_le_mul fun x hx => by
    obtain ⟨s, hs, rfl⟩ := List.mem_map.mp hx
    obtain ⟨t, ht, rfl⟩ := List.mem_map.mp hs
    exact nT_len (h t ht)
  rw [List.length_map, List.length_map] at h1
  rw [List.length_map, show (Str.ofString " ").length = 1 by decide +kernel]
  omega
theorem join_is (sep : Str) (l : List Str) : Txt.join sep l = Str.join sep l := PySem.StrLaws.glued_eq_join sep l
theorem sjoin_len (sep : Str) : ∀ ys : List Str, (Str.join sep ys).length ≤ (ys.map (·.length)).sum + ys.length * sep.length
  | [] => Nat.zero_le _
  | [x] => by
    show x.length ≤ _
    simp
  | x :: y :: r => by
    have ih := sjoin_len sep (y :: r)
    show (x ++ sep ++ Str.join sep (y :: r)).length ≤ _
    rw [Str.length_append, Str.length_append]
    simp only [List.map_cons, List.sum_cons, List.length_cons] at ih ⊢
    rw [Nat.succ_mul]
    omega
theorem join_len (sep : Str) (ys : List Str) : (Txt.join sep ys).length ≤ (ys.map (·.length)).sum + ys.length * sep.length := by
  rw [join_is]
  exact sjoin_len sep ys
theorem str_empty (s : Str) : Str.empty ++ s = s := by
  obtain ⟨c⟩ := s
  show (⟨#[] ++ c⟩ : Str) = ⟨c⟩
  rw [Array.empty_append]
abbrev sp_show_turn (K : PySem.W.Frag) (C : Addr) : Sp := sp1 fun a H Q => ∃ ts fl, IsT C H a ts fl ∧ ∀ H', Ext H H' → Q (.str (showT ts fl)) H'
section
variable {σ : L2.St} {H : Hp} {te t : TE} {ts : List TE} {acc : Str} {Q : VK} {R : Str → Hp → Prop}
theorem g_js (h : t σ H fun x H1 => ∃ y : Str, x = .str y ∧ (acc ++ y).length ≤ sizeLine ∧ tJs ts (acc ++ y) σ H1 R) : tJs (t :: ts) acc σ H R := h
theorem g_jsN (h : R acc H) : tJs [] acc σ H R := h
theorem g_fmt (h : te σ H fun x H1 => (∃ y : Str, x = .str y ∧ y.length ≤ sizeLine ∧ Q (.str y) H1) ∨ ∃ i : Int, x = .int i ∧ i.natAbs.log2 < 1920 ∧ Q (.str (toString i)) H1) : tFmt te σ H Q := h
end
/-! ### texts, by their codes -/
theorem nT_S (n : Nat) : nT n = SX.S (TL.numL n) := SX.num_S n
theorem joinT_S (ts : List Nat) : joinT ts = SX.S (TL.joinL [32] (ts.map TL.numL)) := by
  unfold joinT
  rw [show ts.map nT = (ts.map TL.numL).map SX.S by rw [List.map_map]; exact List.map_congr_left fun n _ => nT_S n]
  exact SX.join_S [32] _
theorem joinL_free {c : Nat} (hc : c < 48 ∨ 57 < c) (h32 : c ≠ 32) (ts : List Nat) : c ∉ TL.joinL [32] (ts.map TL.numL) := by
  have gen : ∀ ps : List (List Nat), (∀ p ∈ ps, c ∉ p) → c ∉ TL.joinL [32] ps := fun ps => by
    induction ps with
    | nil => intro _ h; cases h
    | cons p ps ih =>
      intro h
      cases ps with
      | nil => exact h p List.mem_cons_self
      | cons q qs =>
        intro z
        have z' : c ∈ p ++ ([32] ++ TL.joinL [32] (q :: qs)) := z
        rcases List.mem_append.mp z' with z | z
        · exact h p List.mem_cons_self z
        · rcases List.mem_append.mp z with z | z
          · exact h32 (List.mem_singleton.mp z)
          · exact ih (fun p hp => h p (List.mem_cons_of_mem _ hp)) z
  refine gen _ fun p hp => ?_
  obtain ⟨n, _, rfl⟩ := List.mem_map.mp hp
  exact TL.numL_free hc
theorem showT_S (ts : List Nat) (fl : Nat) : showT ts fl = SX.S (TL.joinL [32] (ts.map TL.numL) ++ (59 :: [32] ++ TL.numL fl)) := by
  unfold showT
  rw [joinT_S, nT_S, show Str.ofString "; " = SX.S [59, 32] by decide +kernel, SX.S_cat, SX.S_cat, List.append_assoc]
theorem show_part (ts : List Nat) (fl : Nat) : Txt.partition (showT ts fl) (Str.ofString "; ") = (joinT ts, Str.ofString "; ", nT fl) := by
  rw [showT_S, joinT_S, nT_S, show Str.ofString "; " = SX.S [59, 32] by decide +kernel]
  exact SX.partition_some (by decide) (SX.par_head _ (joinL_free (.inr (by decide)) (by decide) ts))
theorem show_split {ts : List Nat} (h : ts ≠ []) : Txt.split (joinT ts) (Str.ofString " ") = ts.map nT := by
  rw [joinT_S, show Str.ofString " " = SX.S [32] by decide +kernel, SX.split_S (by decide) (by decide), SX.spl_join (by simpa using h), List.map_map]
  · exact List.map_congr_left fun n _ => (nT_S n).symm
  · intro p hp
    obtain ⟨n, _, rfl⟩ := List.mem_map.mp hp
    exact TL.numL_free (.inl (by decide))
/-- whether a word is a number of texts -/
def isNum (z : Str) : Bool := Txt.isascii z && Txt.isdigit z && decide (z.length ≤ 100) && (decide (z = Str.ofString "0") || !Txt.startswith z (Str.ofString "0"))
theorem digit_is : ∀ c : Nat, 48 ≤ c → c ≤ 57 → PySem.Unicode.isDigit c = true := fun c h1 h2 => by
  have k : ∀ n : _root_.Fin 58, 48 ≤ n.val → PySem.Unicode.isDigit n.val = true := by decide +kernel
  exact k ⟨c, by omega⟩ h1
theorem numL_head : ∀ n : Nat, 0 < n → ∀ r, TL.numL n ≠ 48 :: r := by
  intro n
  induction n using Nat.strongRecOn with
  | _ n ih =>
    intro h r e
    by_cases c : n < 10
    · rw [TL.numL_lt c] at e
      have := (List.cons.inj e).1
      omega
    · rw [TL.numL_step (by omega)] at e
      cases q : TL.numL (n / 10) with
      | nil => exact TL.numL_ne _ q
      | cons a t =>
        rw [q] at e
        have := (List.cons.inj e).1
        exact ih (n / 10) (by omega) (by omega) t (by rw [q, this])
theorem isNum_nT {n : Nat} (h : n < 10 ^ 100) : isNum (nT n) = true := by
  have dg := TL.numL_digits n
  have ln := TL.numL_len (k := 100) (by decide) h
  have ne := TL.numL_ne n
  have all : ∀ c ∈ TL.numL n, 48 ≤ c ∧ c ≤ 57 := fun c hc => dg c hc
  rw [nT_S]
  unfold isNum
  have a1 : Txt.isascii (SX.S (TL.numL n)) = true := by
    unfold Txt.isascii
    rw [← Array.all_toList]
    exact List.all_eq_true.mpr fun c hc => decide_eq_true (by have := all c hc; omega)
  have a2 : Txt.isdigit (SX.S (TL.numL n)) = true := by
    unfold Txt.isdigit
    rw [SX.S_len, ← Array.all_toList, Bool.and_eq_true]
    refine ⟨decide_eq_true (List.length_pos_iff.mpr ne), List.all_eq_true.mpr fun c hc => digit_is c (all c hc).1 (all c hc).2⟩
  rw [a1, a2, SX.S_len, decide_eq_true ln]
  by_cases z : n = 0
  · subst z
    decide +kernel
  · have sw : Txt.startswith (SX.S (TL.numL n)) (Str.ofString "0") = false := by
      unfold Txt.startswith
      rw [PySem.StrLaws.subAt_eq, Bool.and_eq_false_iff]
      right
      refine beq_eq_false_iff_ne.mpr fun e => ?_
      cases q : TL.numL n with
      | nil => exact ne q
      | cons a r =>
        rw [show (SX.S (TL.numL n)).cps.toList = TL.numL n from rfl, q] at e
        have e2 : [a] = [48] := e
        have := (List.cons.inj e2).1
        exact numL_head n (by omega) r (by rw [q, this])
    rw [sw]
    simp
theorem nT_int {n : Nat} (h : n < 10 ^ 100) : PySem.intText? (nT n) = some (n : Int) ∧ (nT n).length ≤ 100 := by
  have ln := TL.numL_len (k := 100) (by decide) h
  refine ⟨TL.int_num (by omega), ?_⟩
  rw [nT_S, SX.S_len]
  exact ln
theorem cut_last (xs : List V) (v : V) : cutV (xs ++ [v]) none (some (-1)) = xs := by
  unfold cutV
  have e : HT.sIx (xs ++ [v]).length (xs ++ [v]).length (some (-1)) = xs.length := by
    unfold HT.sIx
    dsimp only
    rw [if_pos (by decide), List.length_append, List.length_singleton]
    omega
  rw [e]
  show ((xs ++ [v]).drop 0).take (xs.length - 0) = xs
  rw [List.drop_zero, Nat.sub_zero, List.take_left]
theorem g_bm0S {K : PySem.W.Frag} {r : V → List V → Hp → VK → Prop} {n : Nat} {σ : L2.St} {H : Hp} {Q : VK} {z : Str} (h : r (.str z) [] H Q) (e : σ[n]? = some (some (.str z)) := by rfl) : tBM0 K "str" r (tVar n) σ H Q := ⟨_, e, rfl, h⟩
abbrev sp_is_number (K : PySem.W.Frag) : Sp := sp1 fun a H Q => ∃ z : Str, a = .str z ∧ z.length ≤ 16000000 ∧ ∀ H', Ext H H' → Q (.bl (isNum z)) H'
abbrev sp_turn_of_numbers (K : PySem.W.Frag) (C : Addr) : Sp := sp1 fun a H Q => ∃ (l : Addr) (ts : List Nat) (fl : Nat), a = .ref l ∧ H l = some (.lst (nv (ts ++ [fl]))) ∧ Ts ts ∧ fl < 2 ^ ts.length ∧
  ∀ (x l' : Addr) (H' : Hp), Ext H H' → H x = none → H l' = none → TurnAt C H' x l' ts fl → Q (.ref x) H'
abbrev sp_read_turn (K : PySem.W.Frag) (C : Addr) : Sp := sp1 fun a H Q => ∃ (ts : List Nat) (fl : Nat), a = .str (showT ts fl) ∧ Ts ts ∧ fl < 2 ^ ts.length ∧
  ∀ (x l' : Addr) (H' : Hp), Ext H H' → H x = none → H l' = none → TurnAt C H' x l' ts fl → Q (.ref x) H'
/-! ### list(range(a, b, c)) -/
def rg3V (i c : Int) (n : Nat) : List V := (List.range n).map fun (k : Nat) => V.int (i + (k : Int) * c)
theorem rg3V_len (i c : Int) (n : Nat) : (rg3V i c n).length = n := by unfold rg3V; rw [List.length_map, List.length_range]
def tLstRg3 (ta : TA) : TE := fun σ H Q => ta σ H fun vs H1 => ∃ (i j c : Int) (n : Nat), vs = [.int i, .int j, .int c] ∧ RgC i j c n ∧ n ≤ 2 ^ 24 ∧ ∀ q, H1 q = none → Q (.ref q) (upd H1 q (.lst (rg3V i c n)))
theorem vals_rg3 {i c : Int} {n : Nat} {acc : Array Value} (h : ItemsOf (fun (k : Nat) v => ∃ t, v = .int (i + (k : Int) * c) t) acc n) : Vals (rg3V i c n) acc.toList := by
  have e : acc.toList.length = n := by rw [Array.length_toList]; exact h.1
  unfold rg3V
  rw [← e]
  refine vals_of_get acc.toList _ fun j u hj => ?_
  obtain ⟨t, rfl⟩ := h.2 j u (by rw [← hj, Array.getElem?_toList])
  exact ⟨t, rfl⟩
theorem pe_listRg3 {X : Cx} {a b c : Expr} {ta : TA} {p pos p1 pos1 : Pos} (hc : X.calm = true) (hgl : Gl X "list") (hml : X.mg "list" = none) (hg : Gl X "range") (hm : X.mg "range" = none) (ha : PA X [a, b, c] ta)
    (hs : starEach [a, b, c] X.env = (false, eval a X.env) :: starEach [b, c] X.env := by rfl) (hpl : (backTo pos (starEach [b, c] X.env)).any (·.1) = false := by rfl)
    (na : starEach [.Call (.Name "range" p) [a, b, c] [] pos] X.env = (false, eval (.Call (.Name "range" p) [a, b, c] [] pos) X.env) :: starEach [] X.env := by rfl) :
    PE X (.Call (.Name "list" p1) [.Call (.Name "range" p) [a, b, c] [] pos] [] pos1) (tLstRg3 ta) := by
  refine ⟨fun pins s σ H Q I h => ?_⟩
  have he : wpAny (model X.prog X.w) X.A (eval (.Call (.Name "range" p) [a, b, c] [] pos) X.env) (fun x s' => ∃ r i j k n t u v H', x = .ref r ∧ IsRange s'.heap r i j k t u v ∧ RgC i j k n ∧ n ≤ 2 ^ 24 ∧ Inv X pins σ H' s' ∧ ∀ q, H' q = none → Q (.ref q) (upd H' q (.lst (rg3V i k n)))) X.xe s := by
    refine Call_ (ld_blt I hg hm boot_range (PyProof.Rows.callWith_type1 (thn (ha.run pos pins s σ H _ I h) fun us s1 ⟨vs, H1, I1, r1, q1⟩ => ?_) hs hpl))
    obtain ⟨i, j, k, n, e, ⟨c0, c1, c2, c3⟩, hn, q⟩ := q1
    subst e
    cases r1 with
    | cons r rr =>
      cases rr with
      | cons r' rr =>
        cases rr with
        | cons r'' rr =>
          cases rr
          obtain ⟨t, rfl⟩ := r
          obtain ⟨t', rfl⟩ := r'
          obtain ⟨t'', rfl⟩ := r''
          refine call_range_3 c0 ?_ (.inl (PyProof.noPylong_small c1))
          exact ⟨_, i, j, k, n, _, _, _, H1, rfl, IsRange.new .., ⟨c0, c1, c2, c3⟩, hn, I1.kept fun b o e => Heap.get?_push_of_some _ e, q⟩
  refine Call_ (ld_blt I hgl hml boot_list (PyProof.Rows.callWith_type1 (args_cons (thn he fun x s1 ⟨r, i, j, k, n, t, u, v, H1, ex, hr, rc, hn, I1, q⟩ => args_nil ?_) na) na))
  subst ex
  obtain ⟨c0, c1, c2, c3⟩ := rc
  refine call_list_range (n := n) (I1.ok.hd hc) hr c2 c3 hn fun h' tk acc c' hk e' hi => ?_
  refine ⟨.ref s1.heap.objs.size, upd H1 s1.heap.objs.size (.lst (rg3V i k n)), I1.laid hk (Nat.le_refl _) (show ObjOk X.prog X.w _ _ _ (.lst (rg3V i k n)) from ⟨?_, acc.toList, c', vals_rg3 hi, ?_⟩), rfl, q _ (I1.hok.fresh (Nat.le_refl _))⟩
  · rw [rg3V_len, sizeLine_eq]; omega
  · rw [Array.toArray_toList]; exact e'
theorem rg3_down (n : Nat) (hn : n ≤ 1000) : rg3V ((n : Int) - 1) (-1) n = nv (List.range n).reverse := by
  unfold rg3V nv
  refine List.ext_getElem (by simp) fun i h1 h2 => ?_
  rw [List.length_map, List.length_range] at h1
  simp
  omega
open PyData in
theorem tripL_eq (l : List Nat) (a b : Nat) : eqv (.list [.list (nd l), .int (a : Int), .int (b : Int)]) (.list [.list (nd l), .int (a : Int), .int (b : Int)]) = true := by
  have e : eqv (.list [.list (nd l), .int (a : Int), .int (b : Int)]) (.list [.list (nd l), .int (a : Int), .int (b : Int)]) = (eqv (.list (nd l)) (.list (nd l)) && (eqv (.int (a : Int)) (.int (a : Int)) && (eqv (.int (b : Int)) (.int (b : Int)) && true))) := by
    simp only [eqv, eqvAll]
  have e2 : ∀ i : Int, eqv (.int i) (.int i) = true := fun i => by
    unfold eqv
    simp
  rw [e, nd_eq, e2, e2, decide_eq_true rfl]
  rfl
open PyData in
theorem tripL_shaped (l : List Nat) (a b : Nat) : SeqAt.shaped (.list [.list (nd l), .int (a : Int), .int (b : Int)]) = true := by
  unfold SeqAt.shaped
  simp only [canLay0, canLayAll0, depth, depthAll, nd_canLay, nd_depth]
  rfl
theorem dp_tripL {K : PySem.W.Frag} {H : Hp} {p l : Addr} {ts : List Nat} {a b : Nat} (hp : H p = some (.lst [.ref l, .int (a : Int), .int (b : Int)])) (hl : H l = some (.lst (nv ts))) : Dp K H (.ref p) (.list [.list (nd ts), .int (a : Int), .int (b : Int)]) :=
  .lst (SqL.of hp) (.cons (dp_nv hl) (.cons (.int _) (.cons (.int _) .nil)))
theorem g_lstRg3 {ta : TA} {σ : L2.St} {H : Hp} {Q : VK} (h : ta σ H fun vs H1 => ∃ (i j c : Int) (n : Nat), vs = [.int i, .int j, .int c] ∧ RgC i j c n ∧ n ≤ 2 ^ 24 ∧ ∀ q, H1 q = none → Q (.ref q) (upd H1 q (.lst (rg3V i c n)))) : tLstRg3 ta σ H Q := h
end G

/-! Sums over all places, bit by bit; inversions counted. -/
namespace G
open PySem PySem.Spec PyProof.Rows L2 M
theorem sm_split (a : Nat) (f : Nat → Nat) : ∀ b, sm (a + b) f = sm a f + sm b fun i => f (a + i)
  | 0 => rfl
  | b + 1 => by
    show sm (a + b) f + f (a + b) = sm a f + (sm b (fun i => f (a + i)) + f (a + b))
    rw [sm_split a f b, Nat.add_assoc]
theorem sm_pow (n : Nat) (f : Nat → Nat) : sm (2 ^ (n + 1)) f = sm (2 ^ n) f + sm (2 ^ n) fun i => f (2 ^ n + i) := by
  rw [Nat.pow_succ, Nat.mul_two, sm_split]
theorem sm_const (c : Nat) : ∀ n, sm n (fun _ => c) = n * c
  | 0 => (Nat.zero_mul c).symm
  | n + 1 => by
    show sm n (fun _ => c) + c = (n + 1) * c
    rw [sm_const c n, Nat.succ_mul]
/-- u with the word f of flips, its bit t at s t -/
def xs (s : Nat → Nat) (f n u : Nat) : Nat := sm n fun t => if (u.testBit t ^^ f.testBit t) then 2 ^ s t else 0
def cc (p : Prop) [Decidable p] : Nat := if p then 1 else 0
theorem cc_congr {p q : Prop} [Decidable p] [Decidable q] (h : p ↔ q) : cc p = cc q := by
  unfold cc
  by_cases c : p
  · rw [if_pos c, if_pos (h.mp c)]
  · rw [if_neg c, if_neg fun z => c (h.mpr z)]
theorem cc_no {p : Prop} [Decidable p] (h : ¬ p) : cc p = 0 := if_neg h
theorem cc_yes {p : Prop} [Decidable p] (h : p) : cc p = 1 := if_pos h
section
variable {s : Nat → Nat} {f : Nat}
theorem bit_low {n u t : Nat} (h : t < n) : (2 ^ n + u).testBit t = u.testBit t := Nat.testBit_two_pow_add_gt h u
theorem bit_top {n u : Nat} (h : u < 2 ^ n) : (2 ^ n + u).testBit n = true := by
  rw [Nat.testBit_two_pow_add_eq, Nat.testBit_lt_two_pow h]
  rfl
theorem xs_lo {n u : Nat} (h : u < 2 ^ n) : xs s f (n + 1) u = xs s f n u + (if f.testBit n then 2 ^ s n else 0) := by
  show xs s f n u + (if (u.testBit n ^^ f.testBit n) then 2 ^ s n else 0) = _
  rw [Nat.testBit_lt_two_pow h, Bool.false_xor]
theorem xs_hi {n u : Nat} (h : u < 2 ^ n) : xs s f (n + 1) (2 ^ n + u) = xs s f n u + (if f.testBit n then 0 else 2 ^ s n) := by
  show xs s f n (2 ^ n + u) + (if ((2 ^ n + u).testBit n ^^ f.testBit n) then 2 ^ s n else 0) = _
  rw [bit_top h]
  congr 1
  · refine sm_congr fun t ht => ?_
    rw [bit_low ht]
  · cases f.testBit n <;> rfl
/-- the bits of such a word -/
theorem xs_bits {n : Nat} (inj : ∀ a b, a < n → b < n → s a = s b → a = b) (u : Nat) : (∀ t, t < n → (xs s f n u).testBit (s t) = (u.testBit t ^^ f.testBit t)) ∧ ∀ j, (∀ t, t < n → s t ≠ j) → (xs s f n u).testBit j = false := by
  induction n with
  | zero => exact ⟨fun t h => absurd h (Nat.not_lt_zero _), fun j _ => Nat.zero_testBit j⟩
  | succ n ih =>
    obtain ⟨h1, h2⟩ := ih fun a b ha hb => inj a b (by omega) (by omega)
    have nz : (xs s f n u).testBit (s n) = false := h2 _ fun t ht e => by
      have := inj t n (by omega) (by omega) e
      omega
    have e : xs s f (n + 1) u = if (u.testBit n ^^ f.testBit n) then xs s f n u ||| 2 ^ s n else xs s f n u := by
      show xs s f n u + (if (u.testBit n ^^ f.testBit n) then 2 ^ s n else 0) = _
      split
      · exact add_or_pow nz
      · exact Nat.add_zero _
    have bit : ∀ j, (xs s f (n + 1) u).testBit j = ((xs s f n u).testBit j || ((u.testBit n ^^ f.testBit n) && decide (s n = j))) := fun j => by
      rw [e]
      cases (u.testBit n ^^ f.testBit n) with
      | true => rw [if_pos rfl, Nat.testBit_or, Nat.testBit_two_pow, Bool.true_and]
      | false => rw [if_neg Bool.false_ne_true, Bool.false_and, Bool.or_false]
    refine ⟨fun t ht => ?_, fun j hj => ?_⟩
    · rw [bit]
      by_cases c : t = n
      · subst c
        rw [nz, decide_eq_true rfl, Bool.false_or, Bool.and_true]
      · rw [h1 t (by omega), decide_eq_false (fun z => c (inj t n (by omega) (by omega) z.symm)), Bool.and_false, Bool.or_false]
    · rw [bit, h2 j fun t ht => hj t (by omega), decide_eq_false (hj n (Nat.lt_succ_self n)), Bool.and_false]
      rfl
/-- u and v have the same bits that are brought above p -/
def eqA (s : Nat → Nat) (p n u v : Nat) : Prop := ∀ t, t < n → p < s t → u.testBit t = v.testBit t
instance {p n u v : Nat} : Decidable (eqA s p n u v) := inferInstanceAs (Decidable (∀ t, t < n → p < s t → u.testBit t = v.testBit t))
theorem eqA_div {p n : Nat} (inj : ∀ a b, a < n → b < n → s a = s b → a = b) (u v : Nat) : eqA s p n u v ↔ xs s f n u / 2 ^ (p + 1) = xs s f n v / 2 ^ (p + 1) := by
  obtain ⟨u1, u2⟩ := xs_bits (f := f) inj u
  obtain ⟨v1, v2⟩ := xs_bits (f := f) inj v
  constructor
  · intro h
    refine Nat.eq_of_testBit_eq fun j => ?_
    rw [Nat.testBit_div_two_pow, Nat.testBit_div_two_pow]
    by_cases c : ∃ t, t < n ∧ s t = j + (p + 1)
    · obtain ⟨t, ht, e⟩ := c
      rw [← e, u1 t ht, v1 t ht, h t ht (by omega)]
    · rw [u2 _ fun t ht e => c ⟨t, ht, e⟩, v2 _ fun t ht e => c ⟨t, ht, e⟩]
  · intro h t ht hp
    have h3 : (xs s f n u / 2 ^ (p + 1)).testBit (s t - (p + 1)) = (xs s f n v / 2 ^ (p + 1)).testBit (s t - (p + 1)) := by rw [h]
    rw [Nat.testBit_div_two_pow, Nat.testBit_div_two_pow, show s t - (p + 1) + (p + 1) = s t by omega, u1 t ht, v1 t ht] at h3
    revert h3
    cases u.testBit t <;> cases v.testBit t <;> cases f.testBit t <;> decide
/-- a number without bit p is its part above and less than 2^p -/
theorem no_bit {a p : Nat} (h : a.testBit p = false) : a % 2 ^ (p + 1) < 2 ^ p := by
  have e1 : a / 2 ^ p % 2 = 0 := by
    rw [Nat.testBit_eq_decide_div_mod_eq] at h
    have : ¬ a / 2 ^ p % 2 = 1 := of_decide_eq_false h
    omega
  have e2 : a % 2 ^ (p + 1) = a % 2 ^ p + 2 ^ p * (a / 2 ^ p % 2) := by
    rw [Nat.pow_succ, Nat.mod_mul]
  rw [e2, e1, Nat.mul_zero, Nat.add_zero]
  exact Nat.mod_lt _ (Nat.two_pow_pos p)
theorem three_ways {a b p : Nat} (ha : a.testBit p = false) (hb : b.testBit p = false) : cc (a + 2 ^ p < b) + cc (b + 2 ^ p < a) + cc (a / 2 ^ (p + 1) = b / 2 ^ (p + 1)) = 1 ∧ a + 2 ^ p ≠ b := by
  have m1 := no_bit ha
  have m2 := no_bit hb
  have d1 := Nat.div_add_mod a (2 ^ (p + 1))
  have d2 := Nat.div_add_mod b (2 ^ (p + 1))
  have ps : 2 ^ (p + 1) = 2 ^ p * 2 := Nat.pow_succ 2 p
  revert m1 m2 d1 d2
  generalize a / 2 ^ (p + 1) = qa
  generalize b / 2 ^ (p + 1) = qb
  generalize a % 2 ^ (p + 1) = ra
  generalize b % 2 ^ (p + 1) = rb
  rw [ps]
  generalize 2 ^ p = w
  intro m1 m2 d1 d2
  rcases Nat.lt_trichotomy qa qb with c | c | c
  · have : w * 2 * (qa + 1) ≤ w * 2 * qb := Nat.mul_le_mul_left _ c
    rw [Nat.mul_add] at this
    rw [cc_yes (show a + w < b by omega), cc_no (show ¬ b + w < a by omega), cc_no (show ¬ qa = qb by omega)]
    exact ⟨rfl, by omega⟩
  · subst c
    rw [cc_no (show ¬ a + w < b by omega), cc_no (show ¬ b + w < a by omega), cc_yes rfl]
    exact ⟨rfl, by omega⟩
  · have : w * 2 * (qb + 1) ≤ w * 2 * qa := Nat.mul_le_mul_left _ c
    rw [Nat.mul_add] at this
    rw [cc_no (show ¬ a + w < b by omega), cc_yes (show b + w < a by omega), cc_no (show ¬ qa = qb by omega)]
    exact ⟨rfl, by omega⟩
/-- sum over all pairs -/
def s2 (n : Nat) (F : Nat → Nat → Nat) : Nat := sm (2 ^ n) fun u => sm (2 ^ n) fun v => F u v
theorem s2_congr {n : Nat} {F G : Nat → Nat → Nat} (h : ∀ u v, u < 2 ^ n → v < 2 ^ n → F u v = G u v) : s2 n F = s2 n G := sm_congr fun u hu => sm_congr fun v hv => h u v hu hv
theorem s2_add (n : Nat) (F G : Nat → Nat → Nat) : s2 n (fun u v => F u v + G u v) = s2 n F + s2 n G := by
  unfold s2
  rw [← sm_add]
  exact sm_congr fun u _ => sm_add _ _ _
theorem s2_swap (n : Nat) (F : Nat → Nat → Nat) : s2 n F = s2 n fun u v => F v u := sm_swap _ _ F
theorem s2_one (n : Nat) : s2 n (fun _ _ => 1) = 2 ^ n * 2 ^ n := by
  unfold s2
  rw [sm_congr (g := fun _ => 2 ^ n) fun u _ => sm_one _, sm_const]
theorem s2_succ (n : Nat) (F : Nat → Nat → Nat) : s2 (n + 1) F = s2 n F + s2 n (fun u v => F u (2 ^ n + v)) + s2 n (fun u v => F (2 ^ n + u) v) + s2 n (fun u v => F (2 ^ n + u) (2 ^ n + v)) := by
  have h : ∀ u, sm (2 ^ (n + 1)) (fun v => F u v) = sm (2 ^ n) (fun v => F u v) + sm (2 ^ n) (fun v => F u (2 ^ n + v)) := fun u => sm_pow n fun v => F u v
  unfold s2
  rw [sm_pow, sm_congr (n := 2 ^ n) fun u _ => h u, sm_add, sm_congr (n := 2 ^ n) (f := fun i => sm (2 ^ (n + 1)) fun v => F (2 ^ n + i) v) fun u _ => h (2 ^ n + u), sm_add]
  dsimp only
  omega
/-- how many bits from below t are brought above p -/
def abv (s : Nat → Nat) (p : Nat) (t : Nat) : Nat := sm t fun t' => cc (p < s t')
theorem eqA_count (p : Nat) : ∀ n, s2 n (fun u v => cc (eqA s p n u v)) * 2 ^ abv s p n = 2 ^ n * 2 ^ n
  | 0 => by
    show (0 + (0 + cc (eqA s p 0 0 0))) * 2 ^ 0 = 1
    rw [cc_yes (show eqA s p 0 0 0 from fun t ht => absurd ht (Nat.not_lt_zero _))]
  | n + 1 => by
    have ih := eqA_count p n
    have both : ∀ u v, u < 2 ^ n → v < 2 ^ n → cc (eqA s p (n + 1) u v) = cc (eqA s p n u v) := fun u v hu hv => cc_congr ⟨fun h t ht => h t (by omega), fun h t ht hp => by
      by_cases c : t < n
      · exact h t c hp
      · have : t = n := by omega
        subst this
        rw [Nat.testBit_lt_two_pow hu, Nat.testBit_lt_two_pow hv]⟩
    have both2 : ∀ u v, u < 2 ^ n → v < 2 ^ n → cc (eqA s p (n + 1) (2 ^ n + u) (2 ^ n + v)) = cc (eqA s p n u v) := fun u v hu hv => cc_congr ⟨fun h t ht hp => by
        have := h t (by omega) hp
        rw [bit_low ht, bit_low ht] at this
        exact this, fun h t ht hp => by
      by_cases c : t < n
      · rw [bit_low c, bit_low c]
        exact h t c hp
      · have : t = n := by omega
        subst this
        rw [bit_top hu, bit_top hv]⟩
    have ab : abv s p (n + 1) = abv s p n + cc (p < s n) := rfl
    rw [s2_succ, s2_congr both, s2_congr both2, ab]
    by_cases c : p < s n
    · have m1 : ∀ u v, u < 2 ^ n → v < 2 ^ n → cc (eqA s p (n + 1) u (2 ^ n + v)) = 0 := fun u v hu hv => cc_no fun h => by
        have := h n (Nat.lt_succ_self n) c
        rw [Nat.testBit_lt_two_pow hu, bit_top hv] at this
        cases this
      have m2 : ∀ u v, u < 2 ^ n → v < 2 ^ n → cc (eqA s p (n + 1) (2 ^ n + u) v) = 0 := fun u v hu hv => cc_no fun h => by
        have := h n (Nat.lt_succ_self n) c
        rw [Nat.testBit_lt_two_pow hv, bit_top hu] at this
        cases this
      have z : s2 n (fun _ _ => 0) = 0 := sm_zero fun _ _ => sm_zero fun _ _ => rfl
      rw [s2_congr m1, s2_congr m2, z, cc_yes c, Nat.pow_succ, Nat.pow_succ]
      revert ih
      generalize s2 n (fun u v => cc (eqA s p n u v)) = E
      generalize 2 ^ abv s p n = W
      generalize 2 ^ n = X
      intro ih
      grind
    · have m1 : ∀ u v, u < 2 ^ n → v < 2 ^ n → cc (eqA s p (n + 1) u (2 ^ n + v)) = cc (eqA s p n u v) := fun u v hu hv => cc_congr ⟨fun h t ht hp => by
          have := h t (by omega) hp
          rw [bit_low ht] at this
          exact this, fun h t ht hp => by
        by_cases d : t < n
        · rw [bit_low d]
          exact h t d hp
        · have : t = n := by omega
          subst this
          exact absurd hp c⟩
      have m2 : ∀ u v, u < 2 ^ n → v < 2 ^ n → cc (eqA s p (n + 1) (2 ^ n + u) v) = cc (eqA s p n u v) := fun u v hu hv => cc_congr ⟨fun h t ht hp => by
          have := h t (by omega) hp
          rw [bit_low ht] at this
          exact this, fun h t ht hp => by
        by_cases d : t < n
        · rw [bit_low d]
          exact h t d hp
        · have : t = n := by omega
          subst this
          exact absurd hp c⟩
      rw [s2_congr m1, s2_congr m2, cc_no c, Nat.pow_succ, Nat.add_zero]
      revert ih
      generalize s2 n (fun u v => cc (eqA s p n u v)) = E
      generalize 2 ^ abv s p n = W
      generalize 2 ^ n = X
      intro ih
      grind
/-- pairs that change their order -/
def cnt (s : Nat → Nat) (f n : Nat) : Nat := s2 n fun u v => cc (v < u ∧ xs s f n u < xs s f n v)
def val (s : Nat → Nat) (f t : Nat) : Nat := 2 ^ t - 2 ^ (t - abv s (s t) t) + (if f.testBit t then 2 * 2 ^ (t - abv s (s t) t) else 0)
theorem abv_le (p : Nat) : ∀ t, abv s p t ≤ t
  | 0 => Nat.le_refl _
  | t + 1 => by
    have := abv_le p t
    show abv s p t + cc (p < s t) ≤ t + 1
    unfold cc
    split <;> omega
theorem half_count {n : Nat} (inj : ∀ a b, a < n + 1 → b < n + 1 → s a = s b → a = b) :
    2 * s2 n (fun u v => cc (xs s f n u + 2 ^ s n < xs s f n v)) + s2 n (fun u v => cc (eqA s (s n) n u v)) = 2 ^ n * 2 ^ n := by
  have i2 : ∀ a b, a < n → b < n → s a = s b → a = b := fun a b ha hb => inj a b (by omega) (by omega)
  have nz : ∀ u, (xs s f n u).testBit (s n) = false := fun u => (xs_bits (f := f) i2 u).2 _ fun t ht e => by
    have := inj t n (by omega) (by omega) e
    omega
  have h := s2_congr (n := n) (F := fun u v => cc (xs s f n u + 2 ^ s n < xs s f n v) + cc (xs s f n v + 2 ^ s n < xs s f n u) + cc (eqA s (s n) n u v)) (G := fun _ _ => 1) fun u v _ _ => by
    rw [cc_congr (eqA_div (f := f) i2 u v)]
    exact (three_ways (nz u) (nz v)).1
  rw [s2_one, s2_add, s2_add, s2_swap n (fun u v => cc (xs s f n v + 2 ^ s n < xs s f n u))] at h
  omega
theorem cnt_val : ∀ n, (∀ a b, a < n → b < n → s a = s b → a = b) → 4 * cnt s f n = 2 ^ n * sm n (val s f)
  | 0, _ => by
    show 4 * (0 + (0 + cc (0 < 0 ∧ _))) = 1 * 0
    rw [cc_no (fun z => absurd z.1 (Nat.lt_irrefl 0))]
  | n + 1, inj => by
    have i2 : ∀ a b, a < n → b < n → s a = s b → a = b := fun a b ha hb => inj a b (by omega) (by omega)
    have ih := cnt_val n i2
    have hc := half_count (f := f) inj
    have ec := eqA_count (s := s) (s n) n
    have al := abv_le (s := s) (s n) n
    have nz : ∀ u, (xs s f n u).testBit (s n) = false := fun u => (xs_bits (f := f) i2 u).2 _ fun t ht e => by
      have := inj t n (by omega) (by omega) e
      omega
    have k1 : s2 n (fun u v => cc (v < u ∧ xs s f (n + 1) u < xs s f (n + 1) v)) = cnt s f n := s2_congr fun u v hu hv => cc_congr (by
      rw [xs_lo hu, xs_lo hv]
      constructor <;> intro z <;> omega)
    have k4 : s2 n (fun u v => cc (2 ^ n + v < 2 ^ n + u ∧ xs s f (n + 1) (2 ^ n + u) < xs s f (n + 1) (2 ^ n + v))) = cnt s f n := s2_congr fun u v hu hv => cc_congr (by
      rw [xs_hi hu, xs_hi hv]
      constructor <;> intro z <;> omega)
    have k2 : s2 n (fun u v => cc (2 ^ n + v < u ∧ xs s f (n + 1) u < xs s f (n + 1) (2 ^ n + v))) = 0 := sm_zero fun u hu => sm_zero fun v hv => cc_no fun z => by omega
    have vl : sm (n + 1) (val s f) = sm n (val s f) + val s f n := rfl
    have e0 : cnt s f (n + 1) = cnt s f n + 0 + s2 n (fun u v => cc (v < 2 ^ n + u ∧ xs s f (n + 1) (2 ^ n + u) < xs s f (n + 1) v)) + cnt s f n := by
      show s2 (n + 1) (fun u v => cc (v < u ∧ xs s f (n + 1) u < xs s f (n + 1) v)) = _
      rw [s2_succ, k1, k2, k4]
    have pw : 2 ^ n = 2 ^ (n - abv s (s n) n) * 2 ^ abv s (s n) n := by rw [← Nat.pow_add]; congr 1; omega
    have pp : 2 ^ (n - abv s (s n) n) ≤ 2 ^ n := Nat.pow_le_pow_right (by decide) (Nat.sub_le _ _)
    have pos : 0 < 2 ^ abv s (s n) n := Nat.two_pow_pos _
    -- E = 2^n * 2^(n - c)
    have eE : s2 n (fun u v => cc (eqA s (s n) n u v)) = 2 ^ n * 2 ^ (n - abv s (s n) n) := by
      refine Nat.eq_of_mul_eq_mul_right pos ?_
      rw [ec, Nat.mul_assoc, ← pw]
    rw [eE] at hc
    have vn : val s f n = 2 ^ n - 2 ^ (n - abv s (s n) n) + (if f.testBit n then 2 * 2 ^ (n - abv s (s n) n) else 0) := rfl
    rw [e0, vl, vn, Nat.pow_succ]
    clear e0 vl vn k1 k2 k4 eE ec pos pw
    cases fb : f.testBit n with
    | false =>
      have k3 : s2 n (fun u v => cc (v < 2 ^ n + u ∧ xs s f (n + 1) (2 ^ n + u) < xs s f (n + 1) v)) = s2 n (fun u v => cc (xs s f n u + 2 ^ s n < xs s f n v)) := s2_congr fun u v hu hv => cc_congr (by
        rw [xs_hi hu, xs_lo hv, fb]
        simp only [Bool.false_eq_true, if_false, Nat.add_zero]
        exact ⟨fun z => z.2, fun z => ⟨by omega, z⟩⟩)
      rw [k3, if_neg Bool.false_ne_true]
      revert ih hc pp
      generalize s2 n (fun u v => cc (xs s f n u + 2 ^ s n < xs s f n v)) = D
      generalize cnt s f n = C
      generalize sm n (val s f) = S
      generalize 2 ^ (n - abv s (s n) n) = Y
      generalize 2 ^ n = X
      intro ih hc pp
      obtain ⟨Z, rfl⟩ : ∃ Z, X = Y + Z := ⟨X - Y, by omega⟩
      rw [show Y + Z - Y = Z by omega]
      grind
    | true =>
      have k3 : s2 n (fun u v => cc (v < 2 ^ n + u ∧ xs s f (n + 1) (2 ^ n + u) < xs s f (n + 1) v)) + s2 n (fun u v => cc (xs s f n u + 2 ^ s n < xs s f n v)) = 2 ^ n * 2 ^ n := by
        rw [s2_swap n (fun u v => cc (xs s f n u + 2 ^ s n < xs s f n v)), ← s2_add, ← s2_one]
        refine s2_congr fun u v hu hv => ?_
        have h3 := (three_ways (nz v) (nz u)).2
        by_cases c : xs s f n v + 2 ^ s n < xs s f n u
        · rw [cc_yes c, cc_no fun z => by
            have z2 := z.2
            rw [xs_hi hu, xs_lo hv, fb] at z2
            simp only [if_true, Nat.add_zero] at z2
            omega]
        · rw [cc_no c, cc_yes ⟨by omega, by
            rw [xs_hi hu, xs_lo hv, fb]
            simp only [if_true, Nat.add_zero]
            omega⟩]
      rw [if_pos rfl]
      revert ih hc pp k3
      generalize s2 n (fun u v => cc (v < 2 ^ n + u ∧ xs s f (n + 1) (2 ^ n + u) < xs s f (n + 1) v)) = D2
      generalize s2 n (fun u v => cc (xs s f n u + 2 ^ s n < xs s f n v)) = D
      generalize cnt s f n = C
      generalize sm n (val s f) = S
      generalize 2 ^ (n - abv s (s n) n) = Y
      generalize 2 ^ n = X
      intro k3 ih hc pp
      obtain ⟨Z, rfl⟩ : ∃ Z, X = Y + Z := ⟨X - Y, by omega⟩
      rw [show Y + Z - Y = Z by omega]
      grind
end
/-- sums over the new places -/
theorem sm_go {ts : List Nat} (ok : Ts ts) (fl : Nat) (F : Nat → Nat) : sm (2 ^ ts.length) F = sm (2 ^ ts.length) fun i => F (go ts fl i) := by
  rw [sm_perm (go_all ok fl) F]
  refine sm_congr fun i hi => ?_
  congr 1
  rw [List.getD_eq_getElem?_getD, List.getElem?_map, List.getElem?_range hi]
  rfl
def sO (ts : List Nat) (t : Nat) : Nat := ts.idxOf t
theorem idx_inj {ts : List Nat} (ok : Ts ts) : ∀ a b, a < ts.length → b < ts.length → ts.idxOf a = ts.idxOf b → a = b := fun a b ha hb e => by
  have h1 := ok.get_idx ha
  have h2 := ok.get_idx hb
  rw [e, h2] at h1
  exact (Option.some.inj h1).symm
theorem xs_go {ts : List Nat} (ok : Ts ts) (fl : Nat) {p : Nat} (hp : p < 2 ^ ts.length) : xs (sO ts) fl ts.length (go ts fl p) = p := by
  obtain ⟨h1, h2⟩ := xs_bits (s := (sO ts)) (f := fl) (n := ts.length) (idx_inj ok) (go ts fl p)
  refine Nat.eq_of_testBit_eq fun j => ?_
  by_cases hj : j < ts.length
  · have tl := tb_lt ok hj
    have ix : ts.idxOf (tb ts j) = j := ok.idx_get (getD_some hj)
    have z := h1 (tb ts j) tl
    rw [show sO ts (tb ts j) = j from ix, go_bit ok fl p (show ts[j]? = some (tb ts j) from getD_some hj)] at z
    rw [z]
    cases p.testBit j <;> cases fl.testBit (tb ts j) <;> rfl
  · rw [h2 j fun t ht e => hj (e ▸ ok.idx_lt ht), Nat.testBit_lt_two_pow (Nat.lt_of_lt_of_le hp (Nat.pow_le_pow_right (by decide) (by omega)))]
/-- the pairs that change their order, counted -/
def invC (ts : List Nat) (fl : Nat) : Nat := sm (2 ^ ts.length) fun i => sm (2 ^ ts.length) fun j => cc (i < j ∧ go ts fl j < go ts fl i)
theorem val_qv {ts : List Nat} (ok : Ts ts) (fl : Nat) {e : Nat} (he : e < ts.length) : val (sO ts) fl (tb ts e) = qv ts fl e := by
  have ix : ts.idxOf (tb ts e) = e := ok.idx_get (getD_some he)
  have tl := tb_lt ok he
  have ab : abv (sO ts) e (tb ts e) = tb ts e - oth ts e e := by
    have h := sm_add (tb ts e) (fun t' => cc (e < sO ts t')) (fun x => if ts.idxOf x < e then 1 else 0)
    rw [oth_below ok he, sm_congr (g := fun _ => 1) fun i hi => by
      have ne : ts.idxOf i ≠ e := fun z => by
        have h1 := idx_inj ok i (tb ts e) (by omega) tl (by rw [z, ix])
        omega
      by_cases c : ts.idxOf i < e
      · rw [if_pos c, cc_no (by unfold sO; omega)]
      · rw [if_neg c, cc_yes (by unfold sO; omega)], sm_one] at h
    unfold abv
    omega
  have ol := oth_le_tb ok he
  unfold val qv
  rw [show sO ts (tb ts e) = e from ix, ab, show tb ts e - (tb ts e - oth ts e e) = oth ts e e by omega]
theorem inv_count {ts : List Nat} (ok : Ts ts) (fl : Nat) : inv ts fl = invC ts fl := by
  have h := cnt_val (s := (sO ts)) (f := fl) ts.length (idx_inj ok)
  have q : sm ts.length (val (sO ts) fl) = quarters ts fl := by
    rw [quarters_bits ok, sm_perm (ts_perm ok)]
    exact sm_congr fun e he => val_qv ok fl he
  have c : cnt (sO ts) fl ts.length = invC ts fl := by
    unfold cnt s2 invC
    rw [sm_go ok fl, sm_congr (g := fun i => sm (2 ^ ts.length) fun j => cc (i < j ∧ go ts fl j < go ts fl i)) fun i hi => ?_]
    rw [sm_go ok fl]
    exact sm_congr fun j hj => by
      dsimp only
      rw [xs_go ok fl hi, xs_go ok fl hj]
      exact cc_congr ⟨fun z => ⟨z.2, z.1⟩, fun z => ⟨z.2, z.1⟩⟩
  rw [q, c] at h
  unfold inv
  rw [Nat.mul_comm, ← h]
  exact Nat.mul_div_cancel_left _ (by decide)
end G

/-! Pairs in unlike orders. -/
namespace G
open PySem PySem.Spec PyProof.Rows L2 M
/-- sum over all i, j below N -/
def sq (N : Nat) (F : Nat → Nat → Nat) : Nat := sm N fun i => sm N fun j => F i j
theorem sq_congr {N : Nat} {F G : Nat → Nat → Nat} (h : ∀ u v, u < N → v < N → F u v = G u v) : sq N F = sq N G := sm_congr fun u hu => sm_congr fun v hv => h u v hu hv
theorem sq_add (N : Nat) (F G : Nat → Nat → Nat) : sq N (fun u v => F u v + G u v) = sq N F + sq N G := by
  unfold sq
  rw [← sm_add]
  exact sm_congr fun u _ => sm_add _ _ _
theorem sq_swap (N : Nat) (F : Nat → Nat → Nat) : sq N F = sq N fun u v => F v u := sm_swap _ _ F
theorem sm_le {n : Nat} {f g : Nat → Nat} (h : ∀ i, i < n → f i ≤ g i) : sm n f ≤ sm n g := by
  induction n with
  | zero => exact Nat.le_refl _
  | succ n ih =>
    have h1 := ih fun i hi => h i (by omega)
    have h2 := h n (by omega)
    show sm n f + f n ≤ sm n g + g n
    omega
theorem sq_le {N : Nat} {F G : Nat → Nat → Nat} (h : ∀ u v, u < N → v < N → F u v ≤ G u v) : sq N F ≤ sq N G := sm_le fun u hu => sm_le fun v hv => h u v hu hv
theorem sm_even {n : Nat} {f : Nat → Nat} (h : ∀ i, i < n → f i % 2 = 0) : sm n f % 2 = 0 := by
  induction n with
  | zero => rfl
  | succ n ih =>
    have h1 := ih fun i hi => h i (by omega)
    have h2 := h n (by omega)
    show (sm n f + f n) % 2 = 0
    omega
/-- ups: how many pairs, the lower one of a first, go the other way in b -/
def upd2 (N : Nat) (a b : Nat → Nat) : Nat := sq N fun i j => cc (a i < a j ∧ b j < b i)
/-- how many pairs i < j stand in unlike orders -/
def dsg (N : Nat) (a b : Nat → Nat) : Nat := sq N fun i j => cc (i < j ∧ ¬ (a i < a j ↔ b i < b j))
theorem dsg_sym (N : Nat) (a b : Nat → Nat) : dsg N a b = dsg N b a := sq_congr fun i j _ _ => cc_congr ⟨fun z => ⟨z.1, fun k => z.2 k.symm⟩, fun z => ⟨z.1, fun k => z.2 k.symm⟩⟩
theorem dsg_self (N : Nat) (a : Nat → Nat) : dsg N a a = 0 := sm_zero fun i _ => sm_zero fun j _ => cc_no fun z => z.2 Iff.rfl
def InjB (N : Nat) (a : Nat → Nat) : Prop := ∀ i j, i < N → j < N → a i = a j → i = j
theorem upd2_dsg {N : Nat} {a b : Nat → Nat} (ia : InjB N a) (ib : InjB N b) : upd2 N a b = dsg N a b := by
  -- each pair once as (i, j), once as (j, i)
  have h1 : upd2 N a b = sq N fun i j => cc (i < j ∧ a i < a j ∧ b j < b i) + cc (j < i ∧ a i < a j ∧ b j < b i) := sq_congr fun i j hi hj => by
    rcases Nat.lt_trichotomy i j with c | c | c
    · rw [cc_no (p := j < i ∧ _) (fun z => by omega), Nat.add_zero]
      exact cc_congr ⟨fun z => ⟨c, z⟩, fun z => z.2⟩
    · subst c
      rw [cc_no (p := a i < a i ∧ b i < b i) (fun z => by omega), cc_no (p := i < i ∧ _) (fun z => by omega)]
    · rw [cc_no (p := i < j ∧ _) (fun z => by omega), Nat.zero_add]
      exact cc_congr ⟨fun z => ⟨c, z⟩, fun z => z.2⟩
  rw [h1, sq_add, sq_swap N (fun i j => cc (j < i ∧ a i < a j ∧ b j < b i)), ← sq_add]
  refine sq_congr fun i j hi hj => ?_
  by_cases c : i < j
  · have na : a i ≠ a j := fun z => by have := ia i j hi hj z; omega
    have nb : b i ≠ b j := fun z => by have := ib i j hi hj z; omega
    by_cases x : a i < a j
    · by_cases y : b i < b j
      · rw [cc_no (fun z => by omega), cc_no (fun z => by omega), cc_no (fun z => z.2 ⟨fun _ => y, fun _ => x⟩)]
      · rw [cc_yes ⟨c, x, by omega⟩, cc_no (fun z => by omega), cc_yes ⟨c, fun z => y (z.mp x)⟩]
    · by_cases y : b i < b j
      · rw [cc_no (fun z => by omega), cc_yes ⟨c, by omega, y⟩, cc_yes ⟨c, fun z => x (z.mpr y)⟩]
      · rw [cc_no (fun z => by omega), cc_no (fun z => by omega), cc_no (fun z => z.2 ⟨fun k => absurd k x, fun k => absurd k y⟩)]
  · rw [cc_no (fun z => c z.1), cc_no (fun z => c z.1), cc_no (fun z => c z.1)]
/-- triangle, parity -/
theorem dsg_tri (N : Nat) (a b c : Nat → Nat) : dsg N a b ≤ dsg N a c + dsg N c b := by
  unfold dsg
  rw [← sq_add]
  refine sq_le fun i j hi hj => ?_
  by_cases x : i < j ∧ ¬ (a i < a j ↔ b i < b j)
  · rw [cc_yes x]
    by_cases y : a i < a j ↔ c i < c j
    · rw [cc_no (fun z => z.2 y), cc_yes ⟨x.1, fun z => x.2 (y.trans z)⟩]
      exact Nat.le_refl _
    · rw [cc_yes ⟨x.1, y⟩]
      omega
  · rw [cc_no x]
    exact Nat.zero_le _
theorem dsg_even (N : Nat) (a b c : Nat → Nat) : (dsg N a b + (dsg N a c + dsg N c b)) % 2 = 0 := by
  unfold dsg
  rw [← sq_add, ← sq_add]
  refine sm_even fun i hi => sm_even fun j hj => ?_
  dsimp only
  by_cases l : i < j
  · have k : ∀ (A B C : Prop) [Decidable A] [Decidable B] [Decidable C], (cc (i < j ∧ ¬ (A ↔ B)) + (cc (i < j ∧ ¬ (A ↔ C)) + cc (i < j ∧ ¬ (C ↔ B)))) % 2 = 0 := fun A B C _ _ _ => by
      unfold cc
      by_cases x : A <;> by_cases y : B <;> by_cases z : C <;> simp [l, x, y, z]
    exact k _ _ _
  · rw [cc_no (fun z => l z.1), cc_no (fun z => l z.1), cc_no (fun z => l z.1)]
theorem inj_go {ts : List Nat} (ok : Ts ts) (fl : Nat) : InjB (2 ^ ts.length) (go ts fl) := fun i j hi hj e => go_inj ok hi hj e
theorem inv_dsg {ts : List Nat} (ok : Ts ts) (fl : Nat) : inv ts fl = dsg (2 ^ ts.length) id (go ts fl) := by
  rw [inv_count ok, ← upd2_dsg (a := id) (fun i j _ _ e => e) (inj_go ok fl)]
  rfl
theorem sq_go {ts : List Nat} (ok : Ts ts) (fl : Nat) (F : Nat → Nat → Nat) : sq (2 ^ ts.length) F = sq (2 ^ ts.length) fun i j => F (go ts fl i) (go ts fl j) := by
  unfold sq
  rw [sm_go ok fl]
  exact sm_congr fun i _ => sm_go ok fl _
/-- the turn between two: where the one brings it to where the other does -/
theorem go_between {a b : List Nat} {fa fb : Nat} (oa : Ts a) (ob : Ts b) (e : a.length = b.length) (p : Nat) : go (bT a fa b) (bF a fa b fb) (go a fa p) = go b fb p := by
  obtain ⟨o1, l1⟩ := bT_ok (fa := fa) oa ob e
  refine bits_ext (n := b.length) (by rw [← e, ← l1]; exact go_lt _ _ _) (go_lt _ _ _) fun t ht => ?_
  have hx : b.idxOf t < a.length := by rw [e]; exact ob.idx_lt ht
  obtain ⟨h1, h2⟩ := bT_at (fa := fa) (fb := fb) oa ob e hx
  rw [tb_idx ob ht] at h1 h2
  have g1 : (bT a fa b)[tb a (b.idxOf t)]? = some t := by
    rw [show (bT a fa b)[tb a (b.idxOf t)]? = some (tb (bT a fa b) (tb a (b.idxOf t))) from getD_some (by have := tb_lt oa hx; omega), h1]
  rw [go_bit o1 _ _ g1, go_bit oa fa p (show a[b.idxOf t]? = some (tb a (b.idxOf t)) from getD_some hx), h2, go_bit ob fb p (ob.get_idx ht)]
  cases p.testBit (b.idxOf t) <;> cases fa.testBit (tb a (b.idxOf t)) <;> cases fb.testBit t <;> rfl
theorem unlike_dsg {a b : List Nat} {fa fb : Nat} (oa : Ts a) (ob : Ts b) (e : a.length = b.length) : inv (bT a fa b) (bF a fa b fb) = dsg (2 ^ a.length) (go a fa) (go b fb) := by
  obtain ⟨o1, l1⟩ := bT_ok (fa := fa) oa ob e
  rw [inv_count o1, ← upd2_dsg (inj_go oa fa) (e ▸ inj_go ob fb)]
  show sq (2 ^ (bT a fa b).length) (fun i j => cc (i < j ∧ go (bT a fa b) (bF a fa b fb) j < go (bT a fa b) (bF a fa b fb) i)) = _
  rw [l1, sq_go oa fa]
  exact sq_congr fun i j _ _ => by rw [go_between oa ob e, go_between oa ob e]
/-- the loops of the laws by listing -/
theorem sm_from (N : Nat) (i : Nat) (F : Nat → Nat) (h : i < N) : sm (N - (i + 1)) (fun k => F (i + 1 + k)) = sm N fun j => if i < j then F j else 0 := by
  obtain ⟨m, rfl⟩ : ∃ m, N = i + 1 + m := ⟨N - (i + 1), by omega⟩
  rw [sm_split, Nat.add_sub_cancel_left, sm_zero (n := i + 1) fun j hj => if_neg (by omega), Nat.zero_add]
  exact sm_congr fun k _ => by rw [if_pos (by omega)]
theorem sm_const_le {n m : Nat} {f : Nat → Nat} (h : ∀ i, i < n → f i ≤ m) : sm n f ≤ n * m := by
  have := sm_le (n := n) (f := f) (g := fun _ => m) h
  rw [sm_const] at this
  exact this
section
variable {D : Ends} {σ : L2.St} {H : Hp} {tb : TS}
/-- for i in range(a, b): slot c; Pv by how many turns are done -/
theorem u_range2 {c a b n : Nat} (hn : b ≤ 2 ^ 61) (ha : a ≤ 2 ^ 61) (e : n = b - a) (Pv : Nat → L2.St → Hp → Prop) (h0 : Pv 0 σ H) (hs : ∀ k σ H, k < n → Pv k σ H → tb { D with nx := Pv (k + 1), ct := Pv (k + 1), bk := D.nx } (σ.set c (some (.int ((a + k : Nat) : Int)))) H)
    (hd : ∀ σ H, Pv n σ H → D.nx σ H) : (-(2 ^ 62) ≤ (a : Int) ∧ (a : Int) < 2 ^ 62 ∧ -(2 ^ 62) ≤ (b : Int) ∧ (b : Int) < 2 ^ 62) ∧ ForW (gName c) tb D σ (Itr (a : Int) ((b : Int) - (a : Int)).toNat) H := by
  have h62 : ((2 : Int) ^ 62) = 4611686018427387904 := by decide
  have h61 : ((2 : Nat) ^ 61) = 2305843009213693952 := by decide
  refine ⟨⟨by omega, by omega, by omega, by omega⟩, ?_⟩
  rw [show ((b : Int) - (a : Int)).toNat = n by omega]
  refine for_it walk_range Pv h0 (fun _ _ _ _ _ => trivial) (fun i v σ H H' hi p y => ?_) hd
  obtain ⟨rfl, rfl⟩ := y
  have e : (a : Int) + (i : Int) = ((a + i : Nat) : Int) := by omega
  show tb _ (σ.set c (some (.int ((a : Int) + (i : Int))))) _
  rw [e]
  exact hs i σ _ hi p
end
/-- the same, row by row -/
def lw (N : Nat) (a b : Nat → Nat) (i k : Nat) : Nat := cc (¬ (a i < a (i + 1 + k) ↔ b i < b (i + 1 + k)))
theorem dsg_rows (N : Nat) (a b : Nat → Nat) : dsg N a b = sm N fun i => sm (N - (i + 1)) fun k => lw N a b i k := by
  refine sm_congr fun i hi => ?_
  have h := sm_from N i (fun j => cc (¬ (a i < a j ↔ b i < b j))) hi
  unfold lw
  rw [h]
  refine sm_congr fun j hj => ?_
  by_cases c : i < j
  · rw [if_pos c]
    exact cc_congr ⟨fun z => z.2, fun z => ⟨c, z⟩⟩
  · rw [if_neg c]
    exact cc_no fun z => c z.1
theorem g_irng2 {ta : TA} {σ : L2.St} {H : Hp} {R : It → Hp → Prop} (h : ta σ H fun vs H1 => ∃ i j : Int, vs = [.int i, .int j] ∧ (-(2 ^ 62) ≤ i ∧ i < 2 ^ 62 ∧ -(2 ^ 62) ≤ j ∧ j < 2 ^ 62) ∧ R (Itr i (j - i).toNat) H1) : iRng2 ta σ H R := h
section
variable {D : Ends} {σ : L2.St} {H : Hp} {tb : TS} {K : PySem.W.Frag} {xs : List V} {a : Addr}
/-- for x, y in a tuple of pairs: slots c and d -/
theorem u_tuple2 {c d n : Nat} (hx : SqT K H a xs) (Pv : Nat → L2.St → Hp → Prop) (h0 : Pv 0 σ H) (hG : ∀ i σ H, i ≤ xs.length → Pv i σ H → SqT K H a xs)
    (hs : ∀ i x σ H, xs[i]? = some x → Pv i σ H → ∃ (T : Addr) (u v : V), x = .ref T ∧ SqT K H T [u, v] ∧ tb { D with nx := Pv (i + 1), ct := Pv (i + 1), bk := D.nx } ((σ.set c (some u)).set d (some v)) H) (hd : ∀ σ H, Pv xs.length σ H → D.nx σ H) (hn : n = 2 := by rfl) :
    ∃ a', V.ref a = .ref a' ∧ (∃ xs, SqT K H a' xs) ∧ ForW (gTup K n (gCons (gName c) (gCons (gName d) gNil))) tb D σ (Itt K a') H := by
  subst hn
  refine ⟨a, rfl, ⟨xs, hx⟩, for_it walk_tup Pv h0 hG (fun i v σ H H' hi p y => ?_) hd⟩
  obtain ⟨rfl, e⟩ := y
  obtain ⟨T, u, w, rfl, hT, q⟩ := hs i v σ _ e p
  exact ⟨T, _, rfl, hT, rfl, _, _, rfl, _, _, rfl, rfl, q⟩
end
/-- the row of new places -/
def rowG (N : Nat) (x : List Nat × Nat) : HO := .lst (nv ((List.range N).map (go x.1 x.2)))
end G

/-! Inversions and unlike pairs of turns in relation to one another. -/
namespace G
open PySem PySem.Spec PyProof.Rows L2 M
theorem dsg_congr {N : Nat} {a b a' b' : Nat → Nat} (ha : ∀ i, i < N → a i = a' i) (hb : ∀ i, i < N → b i = b' i) : dsg N a b = dsg N a' b' := sq_congr fun i j hi hj => by rw [ha i hi, ha j hj, hb i hi, hb j hj]
theorem upd2_congr {N : Nat} {a b a' b' : Nat → Nat} (ha : ∀ i, i < N → a i = a' i) (hb : ∀ i, i < N → b i = b' i) : upd2 N a b = upd2 N a' b' := sq_congr fun i j hi hj => by rw [ha i hi, ha j hj, hb i hi, hb j hj]
theorem inj_id (N : Nat) : InjB N id := fun _ _ _ _ e => e
theorem inj_comp {N : Nat} {a b : Nat → Nat} (ia : InjB N a) (ib : InjB N b) (hb : ∀ i, i < N → b i < N) : InjB N fun i => a (b i) := fun i j hi hj e => ib i j hi hj (ia _ _ (hb i hi) (hb j hj) e)
section
variable {ts us vs : List Nat} {fl gl hl : Nat}
theorem go_fwd {ts : List Nat} (ok : Ts ts) (fl : Nat) {p : Nat} (hp : p < 2 ^ ts.length) : go (pT ts fl (-1)) (pF ts fl (-1)) (go ts fl p) = p := by
  have h := go_pT_neg (fl := fl) ok 1 (go_lt ts fl p)
  have e : go ts fl (go (pT ts fl (-1)) (pF ts fl (-1)) (go ts fl p)) = go ts fl p := h
  have lt : go (pT ts fl (-1)) (pF ts fl (-1)) (go ts fl p) < 2 ^ ts.length := by
    have := go_lt (pT ts fl (-1)) (pF ts fl (-1)) (go ts fl p)
    rwa [pT_len] at this
  exact go_inj ok lt hp e
/-- the inversions, counted at the turn's own going -/
theorem inv_u (ok : Ts ts) (fl : Nat) : inv ts fl = upd2 (2 ^ ts.length) id (go ts fl) := by rw [inv_dsg ok, upd2_dsg (inj_id _) (inj_go ok fl)]
theorem inv_bk (ok : Ts ts) (ok' : Ts (pT ts fl (-1))) : inv (pT ts fl (-1)) (pF ts fl (-1)) = inv ts fl := by
  rw [inv_u ok', pT_len, inv_dsg ok, dsg_sym, ← upd2_dsg (inj_go ok fl) (inj_id _)]
  unfold upd2
  rw [sq_go ok fl]
  exact sq_congr fun i j hi hj => by rw [go_fwd ok fl hi, go_fwd ok fl hj]; rfl
theorem dsg_plain (ok : Ts ts) (h1 : 1 ≤ n) (h2 : n ≤ 100) (e : ts.length = n) : dsg (2 ^ n) (go ts fl) (go (List.range n) 0) = inv ts fl := by
  rw [inv_dsg ok, dsg_sym, e]
  exact dsg_congr (fun i hi => go_range h1 h2 hi) fun _ _ => rfl
/-- pairs in order and pairs out of it -/
def asc (N : Nat) (g : Nat → Nat) : Nat := sq N fun i j => cc (i < j ∧ g i < g j)
theorem pairs_sq : ∀ N, 2 * (sq N fun i j => cc (i < j)) = N * (N - 1) := fun N => by
  have h : ((sq N fun i j => cc (i < j)) + (sq N fun i j => cc (j < i))) + (sq N fun i j => cc (i = j)) = N * N := by
    rw [← sq_add, ← sq_add]
    rw [sq_congr (G := fun _ _ => 1) fun i j _ _ => by
      show cc (i < j) + cc (j < i) + cc (i = j) = 1
      unfold cc
      rcases Nat.lt_trichotomy i j with c | c | c
      · rw [if_pos c, if_neg (by omega), if_neg (by omega)]
      · rw [if_pos c, if_neg (by omega), if_neg (by omega)]
      · rw [if_pos c, if_neg (by omega), if_neg (by omega)]]
    unfold sq
    rw [sm_const, sm_const, Nat.mul_one]
  have d : (sq N fun i j => cc (i = j)) = N := by
    have k : ∀ i, i < N → (sm N fun j => cc (i = j)) = 1 := fun i hi => by
      rw [sm_congr (g := fun j => if j = i then 1 else 0) fun j _ => cc_congr (q := j = i) ⟨Eq.symm, Eq.symm⟩, sm_at i 1 N, if_pos hi]
    unfold sq
    rw [sm_congr k, sm_one]
  have s := sq_swap N fun i j => cc (i < j)
  rw [d, ← s] at h
  generalize (sq N fun i j => cc (i < j)) = x at h ⊢
  rw [Nat.mul_sub_one]
  omega
theorem asc_inv (ok : Ts ts) : asc (2 ^ ts.length) (go ts fl) + inv ts fl = 2 ^ ts.length * (2 ^ ts.length - 1) / 2 := by
  have h : asc (2 ^ ts.length) (go ts fl) + inv ts fl = sq (2 ^ ts.length) fun i j => cc (i < j) := by
    rw [inv_u ok]
    unfold asc upd2
    rw [← sq_add]
    refine sq_congr fun i j hi hj => ?_
    by_cases c : i < j
    · have : go ts fl i ≠ go ts fl j := fun z => by have := go_inj ok hi hj z; omega
      rw [cc_yes c]
      by_cases d : go ts fl i < go ts fl j
      · rw [cc_yes ⟨c, d⟩, cc_no fun z => by omega]
      · rw [cc_no fun z => d z.2, cc_yes ⟨c, by omega⟩]
    · rw [cc_no c, cc_no fun z => c z.1, cc_no fun z => c z.1]
  have p := pairs_sq (2 ^ ts.length)
  rw [h]
  omega
theorem inv_lt2 (ok : Ts ts) : inv ts fl < 2 ^ (2 * ts.length) := by
  have h := asc_inv (fl := fl) ok
  have A0 := Nat.two_pow_pos ts.length
  rw [show (2 : Nat) ^ (2 * ts.length) = 2 ^ ts.length * 2 ^ ts.length by rw [Nat.two_mul, Nat.pow_add]]
  have m := Nat.mul_le_mul_left (2 ^ ts.length) (show 2 ^ ts.length - 1 ≤ 2 ^ ts.length by omega)
  have pp := Nat.mul_pos A0 A0
  generalize 2 ^ ts.length * (2 ^ ts.length - 1) = u at *
  generalize 2 ^ ts.length * 2 ^ ts.length = v at *
  omega
theorem go_rev {n p : Nat} (h1 : 1 ≤ n) (h2 : n ≤ 100) (hp : p < 2 ^ n) : go (List.range n) (2 ^ n - 1) p = 2 ^ n - 1 - p := by
  have l := go_lt (List.range n) (2 ^ n - 1) p
  rw [List.length_range] at l
  refine Nat.eq_of_testBit_eq fun i => ?_
  by_cases hi : i < n
  · have hr : (List.range n)[i]? = some i := List.getElem?_range hi
    rw [go_bit (ts_range h1 h2) _ _ hr, Nat.testBit_two_pow_sub_one, decide_eq_true hi, show 2 ^ n - 1 - p = 2 ^ n - (p + 1) by omega, Nat.testBit_two_pow_sub_succ hp, decide_eq_true hi]
    cases p.testBit i <;> rfl
  · rw [Nat.testBit_lt_two_pow (Nat.lt_of_lt_of_le l (Nat.pow_le_pow_right (by decide) (by omega))), Nat.testBit_lt_two_pow (Nat.lt_of_lt_of_le (show 2 ^ n - 1 - p < 2 ^ n by have := Nat.two_pow_pos n; omega) (Nat.pow_le_pow_right (by decide) (by omega)))]
theorem inv_then_back (ok : Ts ts) (oc : Ts (cT ts (List.range n))) (h1 : 1 ≤ n) (h2 : n ≤ 100) (e : ts.length = n) : inv (cT ts (List.range n)) (go (List.range n) (2 ^ n - 1) fl) = 2 ^ n * (2 ^ n - 1) / 2 - inv ts fl := by
  have a := asc_inv (fl := fl) ok
  have st : upd2 (2 ^ n) id (go (cT ts (List.range n)) (go (List.range n) (2 ^ n - 1) fl)) = asc (2 ^ n) (go ts fl) := sq_congr fun i j hi hj => by
    have p := go_lt ts fl i
    have r := go_lt ts fl j
    rw [e] at p r
    have gi : go (cT ts (List.range n)) (go (List.range n) (2 ^ n - 1) fl) i = 2 ^ n - 1 - go ts fl i := by rw [go_cT ok (ts_range h1 h2) (by rw [e, List.length_range]), go_rev h1 h2 p]
    have gj : go (cT ts (List.range n)) (go (List.range n) (2 ^ n - 1) fl) j = 2 ^ n - 1 - go ts fl j := by rw [go_cT ok (ts_range h1 h2) (by rw [e, List.length_range]), go_rev h1 h2 r]
    refine cc_congr ⟨fun z => ⟨z.1, ?_⟩, fun z => ⟨z.1, ?_⟩⟩
    · have := z.2
      omega
    · have := z.2
      omega
  rw [inv_u oc, cT_len, e, st]
  rw [e] at a
  omega
theorem inv_back_then (ok : Ts ts) (oc : Ts (cT (List.range n) ts)) (h1 : 1 ≤ n) (h2 : n ≤ 100) (e : ts.length = n) : inv (cT (List.range n) ts) (go ts fl (2 ^ n - 1)) = 2 ^ n * (2 ^ n - 1) / 2 - inv ts fl := by
  have a := asc_inv (fl := fl) ok
  have st : upd2 (2 ^ n) id (go (cT (List.range n) ts) (go ts fl (2 ^ n - 1))) = asc (2 ^ n) (go ts fl) := by
    have s := sq_go (ts_range h1 h2) (2 ^ n - 1) (fun i j => cc (j < i ∧ go ts fl j < go ts fl i))
    rw [List.length_range] at s
    unfold asc
    rw [sq_swap, s]
    refine sq_congr fun i j hi hj => ?_
    rw [go_cT (ts_range h1 h2) ok (by rw [e, List.length_range]), go_cT (ts_range h1 h2) ok (by rw [e, List.length_range])]
    have gi := go_rev h1 h2 hi
    have gj := go_rev h1 h2 hj
    refine cc_congr ⟨fun z => ⟨?_, z.2⟩, fun z => ⟨?_, z.2⟩⟩
    · have : i < j := z.1
      omega
    · show i < j
      have := z.1
      omega
  rw [inv_u oc, cT_len, List.length_range, st]
  rw [e] at a
  omega
theorem unlike_after (oa : Ts ts) (ob : Ts us) (oc : Ts vs) (e1 : vs.length = ts.length) (e2 : vs.length = us.length) : dsg (2 ^ vs.length) (fun p => go ts fl (go vs hl p)) (fun p => go us gl (go vs hl p)) = dsg (2 ^ vs.length) (go ts fl) (go us gl) := by
  have ia : InjB (2 ^ vs.length) (go ts fl) := e1 ▸ inj_go oa fl
  have ib : InjB (2 ^ vs.length) (go us gl) := e2 ▸ inj_go ob gl
  have hv : ∀ i, i < 2 ^ vs.length → go vs hl i < 2 ^ vs.length := fun i _ => go_lt _ _ _
  rw [← upd2_dsg (inj_comp ia (inj_go oc hl) hv) (inj_comp ib (inj_go oc hl) hv), ← upd2_dsg ia ib]
  exact (sq_go oc hl fun i j => cc (go ts fl i < go ts fl j ∧ go us gl j < go us gl i)).symm
theorem inv_between (oa : Ts ts) (ob : Ts us) (op : Ts (pT ts fl (-1))) (oc : Ts (cT (pT ts fl (-1)) us)) (e : ts.length = us.length) : inv (cT (pT ts fl (-1)) us) (go us gl (pF ts fl (-1))) = dsg (2 ^ ts.length) (go ts fl) (go us gl) := by
  rw [inv_u oc, cT_len, pT_len, ← upd2_dsg (inj_go oa fl) (e ▸ inj_go ob gl)]
  unfold upd2
  rw [sq_go oa fl]
  refine sq_congr fun i j hi hj => ?_
  rw [go_cT op ob (by rw [pT_len, e]), go_cT op ob (by rw [pT_len, e]), go_fwd oa fl hi, go_fwd oa fl hj]
  rfl
theorem unlike_then (oa : Ts ts) (ob : Ts us) (e : ts.length = us.length) : dsg (2 ^ ts.length) (go ts fl) (fun p => go us gl (go ts fl p)) = inv us gl := by
  have ib : InjB (2 ^ ts.length) (go us gl) := e ▸ inj_go ob gl
  rw [← upd2_dsg (inj_go oa fl) (inj_comp ib (inj_go oa fl) fun i _ => go_lt _ _ _), inv_u ob, ← e]
  exact (sq_go oa fl fun i j => cc (id i < id j ∧ go us gl j < go us gl i)).symm
end
theorem sm_blocks (A : Nat) (f : Nat → Nat) : ∀ B, sm (B * A) f = sm B fun x => sm A fun y => f (x * A + y)
  | 0 => by rw [Nat.zero_mul]; rfl
  | B + 1 => by
    show _ = (sm B fun x => sm A fun y => f (x * A + y)) + sm A fun y => f (B * A + y)
    rw [Nat.succ_mul, sm_split, sm_blocks A f B]
theorem inv_beside {ts us : List Nat} {fl gl : Nat} (ok : Ts ts) (g : Ts us) (hf : fl < 2 ^ ts.length) (h : ts.length + us.length ≤ 100) : inv (bs ts us) (bf ts fl gl) = inv ts fl * 2 ^ us.length + inv us gl * 2 ^ (2 * ts.length) := by
  rw [inv_u (bs_ok ok g h), inv_u ok, inv_u g, bs_len]
  have gb := fun p => go_bs (gl := gl) ok g hf h p
  have A0 := Nat.two_pow_pos ts.length
  have ij := inj_go g gl
  have tl := fun p => go_lt ts fl p
  rw [show (2 : Nat) ^ (ts.length + us.length) = 2 ^ us.length * 2 ^ ts.length by rw [Nat.pow_add, Nat.mul_comm], show (2 : Nat) ^ (2 * ts.length) = 2 ^ ts.length * 2 ^ ts.length by rw [Nat.two_mul, Nat.pow_add]]
  generalize 2 ^ ts.length = A at *
  generalize (2 : Nat) ^ us.length = B at *
  have key : ∀ x u y v, x < B → u < B → y < A → v < A → cc (x * A + y < u * A + v ∧ go (bs ts us) (bf ts fl gl) (u * A + v) < go (bs ts us) (bf ts fl gl) (x * A + y)) = cc (x < u ∧ go us gl u < go us gl x) + (if u = x then cc (y < v ∧ go ts fl v < go ts fl y) else 0) := fun x u y v hx hu hy hv => by
    have dx : (x * A + y) / A = x := by rw [Nat.mul_comm, Nat.mul_add_div A0, Nat.div_eq_of_lt hy]; omega
    have du : (u * A + v) / A = u := by rw [Nat.mul_comm, Nat.mul_add_div A0, Nat.div_eq_of_lt hv]; omega
    have mx : (x * A + y) % A = y := by rw [Nat.mul_comm, Nat.mul_add_mod, Nat.mod_eq_of_lt hy]
    have mu : (u * A + v) % A = v := by rw [Nat.mul_comm, Nat.mul_add_mod, Nat.mod_eq_of_lt hv]
    rw [gb, gb, dx, du, mx, mu]
    have l1 := tl y
    have l2 := tl v
    have lex : ∀ a b c d, c < A → d < A → (a * A + c < b * A + d ↔ a < b ∨ (a = b ∧ c < d)) := fun a b c d hc hd => by
      constructor
      · intro z
        rcases Nat.lt_trichotomy a b with k | k | k
        · exact .inl k
        · subst k; exact .inr ⟨rfl, by omega⟩
        · have := Nat.mul_le_mul_right A (show b + 1 ≤ a from k)
          rw [Nat.succ_mul] at this
          omega
      · rintro (k | ⟨rfl, k⟩)
        · have := Nat.mul_le_mul_right A (show a + 1 ≤ b from k)
          rw [Nat.succ_mul] at this
          omega
        · omega
    by_cases e : u = x
    · subst e
      rw [if_pos rfl, cc_no (p := u < u ∧ _) (fun z => by omega), Nat.zero_add]
      exact cc_congr ⟨fun z => ⟨by omega, by omega⟩, fun z => ⟨by omega, by omega⟩⟩
    · rw [if_neg e, Nat.add_zero]
      refine cc_congr ?_
      rw [lex _ _ _ _ hy hv, lex _ _ _ _ l2 l1]
      constructor
      · rintro ⟨z1, z2⟩
        refine ⟨by omega, ?_⟩
        rcases z2 with z2 | ⟨z2, z3⟩
        · exact z2
        · exfalso
          exact e (ij u x hu hx z2)
      · rintro ⟨z1, z2⟩
        exact ⟨.inl z1, .inl z2⟩
  unfold upd2 sq
  rw [sm_blocks]
  have st : ∀ x y, x < B → y < A → (sm (B * A) fun j => cc (id (x * A + y) < id j ∧ go (bs ts us) (bf ts fl gl) j < go (bs ts us) (bf ts fl gl) (x * A + y))) = A * (sm B fun u => cc (x < u ∧ go us gl u < go us gl x)) + sm A fun v => cc (y < v ∧ go ts fl v < go ts fl y) := fun x y hx hy => by
    rw [sm_blocks]
    rw [sm_congr (n := B) (g := fun u => A * cc (x < u ∧ go us gl u < go us gl x) + if u = x then (sm A fun v => cc (y < v ∧ go ts fl v < go ts fl y)) else 0) fun u hu => by
      show (sm A fun v => cc (x * A + y < u * A + v ∧ go (bs ts us) (bf ts fl gl) (u * A + v) < go (bs ts us) (bf ts fl gl) (x * A + y))) = _
      rw [sm_congr (n := A) (g := fun v => cc (x < u ∧ go us gl u < go us gl x) + if u = x then cc (y < v ∧ go ts fl v < go ts fl y) else 0) fun v hv => key x u y v hx hu hy hv, sm_add, sm_const]
      by_cases e : u = x
      · rw [if_pos e]
        rw [sm_congr (g := fun v => cc (y < v ∧ go ts fl v < go ts fl y)) fun v _ => if_pos e]
      · rw [if_neg e]
        rw [sm_zero fun v _ => if_neg e]]
    rw [sm_add, sm_mul, sm_at, if_pos hx]
  rw [sm_congr (n := B) (g := fun x => A * (A * (sm B fun u => cc (x < u ∧ go us gl u < go us gl x))) + sm A fun y => sm A fun v => cc (y < v ∧ go ts fl v < go ts fl y)) fun x hx => by
    rw [sm_congr (n := A) (g := fun y => A * (sm B fun u => cc (x < u ∧ go us gl u < go us gl x)) + sm A fun v => cc (y < v ∧ go ts fl v < go ts fl y)) fun y hy => st x y hx hy, sm_add, sm_const]]
  rw [sm_add, sm_mul, sm_mul, sm_const]
  show _ = (sm A fun i => sm A fun j => cc (i < j ∧ go ts fl j < go ts fl i)) * B + (sm B fun i => sm B fun j => cc (i < j ∧ go us gl j < go us gl i)) * (A * A)
  generalize (sm A fun i => sm A fun j => cc (i < j ∧ go ts fl j < go ts fl i)) = p
  generalize (sm B fun i => sm B fun j => cc (i < j ∧ go us gl j < go us gl i)) = r
  grind
section
variable {K : PySem.W.Frag} {H : Hp} {p : Addr} {Q : VK} {u v : Nat}
theorem two_nv (u v : Nat) : [V.int (u : Int), V.int (v : Int)] = ([(u : Int), (v : Int)] : List Int).map V.int := rfl
theorem g_max2 (h : H p = some (.lst [.int (u : Int), .int (v : Int)])) (q : Q (.int ((max u v : Nat) : Int)) H) : rMax K [.ref p] H Q := by
  refine ⟨p, [(u : Int), (v : Int)], rfl, SqL.of h, by show 0 < 2; decide, fun m hm all => ?_⟩
  have h1 := all u (by simp)
  have h2 := all v (by simp)
  rw [show m = ((max u v : Nat) : Int) by
    rcases List.mem_cons.mp hm with rfl | hm
    · omega
    · have e := List.mem_singleton.mp hm
      omega]
  exact q
theorem g_min2 (h : H p = some (.lst [.int (u : Int), .int (v : Int)])) (q : Q (.int ((min u v : Nat) : Int)) H) : rMin K [.ref p] H Q := by
  refine ⟨p, [(u : Int), (v : Int)], rfl, SqL.of h, by show 0 < 2; decide, fun m hm all => ?_⟩
  have h1 := all u (by simp)
  have h2 := all v (by simp)
  rw [show m = ((min u v : Nat) : Int) by
    rcases List.mem_cons.mp hm with rfl | hm
    · omega
    · have e := List.mem_singleton.mp hm
      omega]
  exact q
theorem g_sum2 (h : H p = some (.lst [.int (u : Int), .int (v : Int)])) (q : Q (.int ((u + v : Nat) : Int)) H) : rSum K [.ref p] H Q := by
  refine g_sum (l := [u, v]) h ?_
  rw [show [u, v].sum = u + v by simp]
  exact q
theorem and_one (a : Nat) : Builtin.bitAnd (a : Int) 1 = ((a % 2 : Nat) : Int) := by
  show Builtin.bitAnd (a : Int) ((1 : Nat) : Int) = _
  rw [bitAnd_nat, Nat.and_one_is_mod]
end
end G

/-! How many places stay: the words of the cycles. -/
namespace G
open PySem PySem.Spec PyProof.Rows L2 M
def st (a : Nat → Bool) (b : Nat) (v : Bool) : Nat → Bool := fun i => if i = b then v else a i
theorem st_same (a : Nat → Bool) (b : Nat) (v : Bool) : st a b v b = v := if_pos rfl
theorem st_ne {a : Nat → Bool} {b i : Nat} {v : Bool} (h : i ≠ b) : st a b v i = a i := if_neg h
/-- the sum over all values of the bits of a list -/
def SA : List Nat → ((Nat → Bool) → Nat) → (Nat → Bool) → Nat
  | [], F, a => F a
  | b :: L, F, a => SA L F (st a b false) + SA L F (st a b true)
theorem SA_append (F : (Nat → Bool) → Nat) : ∀ (c L : List Nat) (a : Nat → Bool), SA (c ++ L) F a = SA c (fun a' => SA L F a') a
  | [], L, a => rfl
  | b :: c, L, a => by
    show SA (c ++ L) F (st a b false) + SA (c ++ L) F (st a b true) = _
    rw [SA_append F c, SA_append F c]
    rfl
theorem SA_congr {F G : (Nat → Bool) → Nat} (h : ∀ a, F a = G a) (L : List Nat) (a : Nat → Bool) : SA L F a = SA L G a := by rw [show F = G from funext h]
theorem SA_agree {M : List Nat} {F : (Nat → Bool) → Nat} (dep : ∀ a a', (∀ i, i ∈ M → a i = a' i) → F a = F a') : ∀ (L : List Nat) (a a' : Nat → Bool), (∀ i, i ∈ M → i ∉ L → a i = a' i) → SA L F a = SA L F a'
  | [], a, a', h => dep a a' fun i hi => h i hi (by simp)
  | b :: L, a, a', h => by
    have k : ∀ v i, i ∈ M → i ∉ L → st a b v i = st a' b v i := fun v i hi hl => by
      by_cases e : i = b
      · subst e; rw [st_same, st_same]
      · rw [st_ne e, st_ne e]
        exact h i hi (by simp [e, hl])
    show _ + _ = _ + _
    rw [SA_agree dep L _ _ (k false), SA_agree dep L _ _ (k true)]
theorem SA_mul {M : List Nat} {G F : (Nat → Bool) → Nat} (dep : ∀ a a', (∀ i, i ∈ M → a i = a' i) → G a = G a') : ∀ (L : List Nat) (a : Nat → Bool), (∀ i, i ∈ M → i ∉ L) → SA L (fun a => G a * F a) a = G a * SA L F a
  | [], a, h => rfl
  | b :: L, a, h => by
    have k : ∀ v, G (st a b v) = G a := fun v => dep _ _ fun i hi => st_ne fun e => h i hi (by simp [e])
    have hl : ∀ i, i ∈ M → i ∉ L := fun i hi z => h i hi (by simp [z])
    show SA L _ _ + SA L _ _ = G a * (SA L F _ + SA L F _)
    rw [SA_mul dep L _ hl, SA_mul dep L _ hl, k, k, Nat.mul_add]
theorem st_comm {a : Nat → Bool} {x y : Nat} {u v : Bool} (h : x ≠ y) : st (st a x u) y v = st (st a y v) x u := funext fun i => by
  by_cases e : i = x
  · subst e; rw [st_ne h, st_same, st_same]
  · by_cases e2 : i = y
    · subst e2; rw [st_same, st_ne e, st_same]
    · rw [st_ne e2, st_ne e, st_ne e, st_ne e2]
theorem SA_perm {L M : List Nat} (p : L.Perm M) : L.Nodup → ∀ (F : (Nat → Bool) → Nat) (a : Nat → Bool), SA L F a = SA M F a := by
  induction p with
  | nil => intro _ F a; rfl
  | cons x _ ih =>
    intro nd F a
    have h := ih (List.nodup_cons.mp nd).2
    show _ + _ = _ + _
    rw [h, h]
  | swap x y l =>
    intro nd F a
    have ne : y ≠ x := fun e => (List.nodup_cons.mp nd).1 (by simp [e])
    show (SA l F _ + SA l F _) + (SA l F _ + SA l F _) = (SA l F _ + SA l F _) + (SA l F _ + SA l F _)
    rw [st_comm ne, st_comm ne (u := false) (v := true), st_comm ne (u := true) (v := false), st_comm ne (u := true) (v := true)]
    omega
  | trans p1 _ h1 h2 =>
    intro nd F a
    rw [h1 nd, h2 (p1.nodup_iff.mp nd)]
/-- all numbers below 2 ^ n -/
def dn : Nat → List Nat
  | 0 => []
  | n + 1 => n :: dn n
theorem SA_dn (F : (Nat → Bool) → Nat) : ∀ (n : Nat) (a : Nat → Bool), SA (dn n) F a = sm (2 ^ n) fun p => F fun i => if i < n then p.testBit i else a i
  | 0, a => by
    show F a = 0 + F _
    rw [Nat.zero_add]
    congr 1
  | n + 1, a => by
    show SA (dn n) F _ + SA (dn n) F _ = _
    rw [SA_dn F n, SA_dn F n, sm_pow]
    congr 1
    · refine sm_congr fun p hp => ?_
      congr 1
      refine funext fun i => ?_
      by_cases h : i < n
      · rw [if_pos h, if_pos (by omega)]
      · rw [if_neg h]
        by_cases e : i = n
        · subst e
          rw [st_same, if_pos (by omega), Nat.testBit_lt_two_pow hp]
        · rw [st_ne e, if_neg (by omega)]
    · refine sm_congr fun p hp => ?_
      congr 1
      refine funext fun i => ?_
      by_cases h : i < n
      · rw [if_pos h, if_pos (by omega), bit_low h]
      · rw [if_neg h]
        by_cases e : i = n
        · subst e
          rw [st_same, if_pos (by omega), bit_top hp]
        · rw [st_ne e, if_neg (by omega)]
theorem dn_perm : ∀ n, (dn n).Perm (List.range n)
  | 0 => List.Perm.refl _
  | n + 1 => by
    rw [List.range_succ]
    exact ((dn_perm n).cons n).trans (List.perm_append_singleton n _).symm
section
variable {ts : List Nat} {fl : Nat}
/-- what a bit asks of the one that it goes to -/
def bq (ts : List Nat) (fl : Nat) (a : Nat → Bool) (b : Nat) : Prop := a (tb ts b) = (a b ^^ fl.testBit (tb ts b))
instance (ts : List Nat) (fl : Nat) (a : Nat → Bool) (b : Nat) : Decidable (bq ts fl a b) := inferInstanceAs (Decidable (_ = _))
def cq (ts : List Nat) (fl : Nat) (c : List Nat) (a : Nat → Bool) : Prop := ∀ b, b ∈ c → bq ts fl a b
instance (ts : List Nat) (fl : Nat) (c : List Nat) (a : Nat → Bool) : Decidable (cq ts fl c a) := inferInstanceAs (Decidable (∀ b, b ∈ c → bq ts fl a b))
def nx (ts : List Nat) : Nat → List Nat → Nat → Prop
  | p, [], z => tb ts p = z
  | p, b :: r, z => tb ts p = b ∧ nx ts b r z
def ch (fl : Nat) : Nat → List Nat → Nat → (Nat → Bool) → Prop
  | p, [], z, a => a z = (a p ^^ fl.testBit z)
  | p, b :: r, z, a => a b = (a p ^^ fl.testBit b) ∧ ch fl b r z a
instance chD (fl : Nat) : ∀ (p : Nat) (r : List Nat) (z : Nat) (a : Nat → Bool), Decidable (ch fl p r z a)
  | p, [], z, a => inferInstanceAs (Decidable (_ = _))
  | p, b :: r, z, a => @instDecidableAnd _ _ _ (chD fl b r z a)
theorem nx_ch : ∀ (r : List Nat) (p z : Nat), nx ts p r z → ∀ a, cq ts fl (p :: r) a ↔ ch fl p r z a
  | [], p, z, h, a => by
    have e : tb ts p = z := h
    constructor
    · intro k
      have := k p (by simp)
      unfold bq at this
      rw [e] at this
      exact this
    · intro k b hb
      rw [List.mem_singleton.mp hb]
      unfold bq
      rw [e]
      exact k
  | b :: r, p, z, h, a => by
    obtain ⟨e, h2⟩ := h
    have ih := nx_ch r b z h2 a
    constructor
    · intro k
      have k1 := k p (by simp)
      unfold bq at k1
      rw [e] at k1
      exact ⟨k1, ih.mp fun x hx => k x (List.mem_cons_of_mem _ hx)⟩
    · rintro ⟨k1, k2⟩ x hx
      rcases List.mem_cons.mp hx with rfl | hx
      · unfold bq
        rw [e]
        exact k1
      · exact ih.mpr k2 x hx
theorem nx_of : ∀ (r : List Nat) (p z : Nat), (∀ (i b : Nat), (p :: r)[i]? = some b → some (tb ts b) = (r ++ [z])[i]?) → nx ts p r z
  | [], p, z, h => Option.some.inj (h 0 p rfl)
  | b :: r, p, z, h => ⟨Option.some.inj (h 0 p rfl), nx_of r b z fun i x hx => h (i + 1) x hx⟩
theorem cyc_nx {b0 : Nat} {r : List Nat} (h : Cyc ts (b0 :: r)) : nx ts b0 r b0 := nx_of r b0 b0 fun i b hb => by
  have s := h.step i b hb
  have hi := (List.getElem?_eq_some_iff.mp hb).1
  have hi' : i < r.length + 1 := hi
  have lt := h.lt (List.mem_of_getElem? hb)
  rw [show ts[b]? = some (tb ts b) from getD_some lt] at s
  rw [s]
  show (b0 :: r)[(i + 1) % (r.length + 1)]? = _
  by_cases e : i = r.length
  · subst e
    rw [Nat.mod_self, List.getElem?_append_right (Nat.le_refl _), Nat.sub_self]
    rfl
  · rw [Nat.mod_eq_of_lt (by omega), List.getElem?_append_left (by omega)]
    rfl
def par (fl : Nat) : List Nat → Bool
  | [] => false
  | b :: r => fl.testBit b ^^ par fl r
theorem par_odd (fl : Nat) : ∀ c, odd fl c = par fl c
  | [] => rfl
  | b :: c => by
    have ih := par_odd fl c
    unfold odd fls at ih ⊢
    show decide (((fl.testBit b).toNat :: c.map fun e => (fl.testBit e).toNat).sum % 2 = 1) = (fl.testBit b ^^ par fl c)
    rw [← ih, List.sum_cons]
    generalize (c.map fun e => (fl.testBit e).toNat).sum = s
    cases fl.testBit b
    · show decide ((0 + s) % 2 = 1) = (false ^^ decide (s % 2 = 1))
      rw [Nat.zero_add, Bool.false_xor]
    · show decide ((1 + s) % 2 = 1) = (true ^^ decide (s % 2 = 1))
      rcases (by omega : s % 2 = 0 ∨ s % 2 = 1) with h | h
      · rw [decide_eq_true (by omega), decide_eq_false (by omega)]
        rfl
      · rw [decide_eq_false (by omega), decide_eq_true h]
        rfl
theorem SA_chain : ∀ (r : List Nat) (p z : Nat) (a : Nat → Bool), r.Nodup → p ∉ r → z ∉ r → SA r (fun a => cc (ch fl p r z a)) a = cc (a z = (a p ^^ par fl r ^^ fl.testBit z))
  | [], p, z, a, nd, hp, hz => by
    show cc (ch fl p [] z a) = cc (a z = ((a p ^^ false) ^^ fl.testBit z))
    exact cc_congr (by rw [Bool.xor_false]; exact Iff.rfl)
  | b :: r, p, z, a, nd, hp, hz => by
    obtain ⟨n1, n2⟩ := List.nodup_cons.mp nd
    have pb : p ≠ b := fun e => hp (by simp [e])
    have pr : p ∉ r := fun e => hp (by simp [e])
    have zb : z ≠ b := fun e => hz (by simp [e])
    have zr : z ∉ r := fun e => hz (by simp [e])
    have k : ∀ v, SA r (fun a => cc (ch fl p (b :: r) z a)) (st a b v) = cc (v = (a p ^^ fl.testBit b)) * cc (a z = (v ^^ par fl r ^^ fl.testBit z)) := fun v => by
      rw [SA_congr (G := fun a => cc (a b = (a p ^^ fl.testBit b)) * cc (ch fl b r z a)) fun a => by
        show cc (a b = (a p ^^ fl.testBit b) ∧ ch fl b r z a) = _
        unfold cc
        by_cases x : a b = (a p ^^ fl.testBit b)
        · by_cases y : ch fl b r z a
          · rw [if_pos ⟨x, y⟩, if_pos x, if_pos y]
          · rw [if_neg fun q => y q.2, if_pos x, if_neg y]
        · rw [if_neg fun q => x q.1, if_neg x, Nat.zero_mul]]
      rw [SA_mul (M := [b, p]) (fun a a' h => by rw [h b (by simp), h p (by simp)]) r _ (fun i hi => by
        rcases List.mem_cons.mp hi with rfl | hi
        · exact n1
        · rw [List.mem_singleton.mp hi]
          exact pr)]
      rw [SA_chain r b z _ n2 n1 zr, st_same, st_ne pb, st_ne zb]
    show SA r _ (st a b false) + SA r _ (st a b true) = _
    rw [k, k]
    show _ = cc (a z = ((a p ^^ (fl.testBit b ^^ par fl r)) ^^ fl.testBit z))
    unfold cc
    cases a p <;> cases fl.testBit b <;> cases par fl r <;> cases fl.testBit z <;> cases a z <;> rfl
theorem SA_cycle {c : List Nat} (h : Cyc ts c) (nd : c.Nodup) (a : Nat → Bool) : SA c (fun a => cc (cq ts fl c a)) a = left c.length (odd fl c) 1 := by
  obtain ⟨b0, r, rfl⟩ : ∃ b0 r, c = b0 :: r := by
    cases c with
    | nil => have := h.one; simp at this
    | cons b r => exact ⟨b, r, rfl⟩
  obtain ⟨n1, n2⟩ := List.nodup_cons.mp nd
  rw [SA_congr (G := fun a => cc (ch fl b0 r b0 a)) fun a => cc_congr (nx_ch r b0 b0 (cyc_nx h) a), par_odd]
  show SA r _ _ + SA r _ _ = _
  rw [SA_chain r b0 b0 _ n2 n1 n1, SA_chain r b0 b0 _ n2 n1 n1, st_same, st_same]
  show _ = left (b0 :: r).length (fl.testBit b0 ^^ par fl r) 1
  unfold left cc
  rw [show (1 : Int).natAbs = 1 from rfl, Nat.gcd_one_right]
  cases par fl r <;> cases fl.testBit b0 <;> rfl
theorem foldl_mul (x : Nat) : ∀ l : List Nat, l.foldl (· * ·) x = x * l.foldl (· * ·) 1
  | [] => (Nat.mul_one x).symm
  | y :: l => by
    show l.foldl (· * ·) (x * y) = x * l.foldl (· * ·) (1 * y)
    rw [foldl_mul (x * y) l, foldl_mul (1 * y) l, Nat.one_mul, Nat.mul_assoc]
theorem leftAll_cons {c : List Nat} {cs : List (List Nat)} {n : Int} : leftAll fl (c :: cs) n = left c.length (odd fl c) n * leftAll fl cs n := by
  unfold leftAll
  rw [List.map_cons, List.foldl_cons, foldl_mul, Nat.one_mul]
def aq (ts : List Nat) (fl : Nat) (cs : List (List Nat)) (a : Nat → Bool) : Prop := ∀ c, c ∈ cs → cq ts fl c a
instance (ts : List Nat) (fl : Nat) (cs : List (List Nat)) (a : Nat → Bool) : Decidable (aq ts fl cs a) := inferInstanceAs (Decidable (∀ c, c ∈ cs → cq ts fl c a))
theorem cyc_next {c : List Nat} (h : Cyc ts c) {b : Nat} (hb : b ∈ c) : tb ts b ∈ c := by
  obtain ⟨i, hi⟩ := List.mem_iff_getElem?.mp hb
  have s := h.step i b hi
  rw [show ts[b]? = some (tb ts b) from getD_some (h.lt hb)] at s
  exact List.mem_of_getElem? s.symm
theorem cq_dep {c : List Nat} (h : Cyc ts c) (a a' : Nat → Bool) (e : ∀ i, i ∈ c → a i = a' i) : cc (cq ts fl c a) = cc (cq ts fl c a') := by
  have k : ∀ b, b ∈ c → (bq ts fl a b ↔ bq ts fl a' b) := fun b hb => by
    unfold bq
    rw [e _ hb, e _ (cyc_next h hb)]
  exact cc_congr ⟨fun z b hb => (k b hb).mp (z b hb), fun z b hb => (k b hb).mpr (z b hb)⟩
theorem SA_cycles : ∀ (cs : List (List Nat)), (∀ c ∈ cs, Cyc ts c) → cs.flatten.Nodup → ∀ a, SA cs.flatten (fun a => cc (aq ts fl cs a)) a = leftAll fl cs 1
  | [], _, _, a => by
    show cc _ = 1
    exact cc_yes fun c hc => by cases hc
  | c :: cs, hc, nd, a => by
    rw [List.flatten_cons] at nd ⊢
    obtain ⟨n1, n2, n3⟩ := List.nodup_append.mp nd
    have cy : Cyc ts c := hc c (by simp)
    have cy' : ∀ d ∈ cs, Cyc ts d := fun d hd => hc d (List.mem_cons_of_mem _ hd)
    rw [SA_append, leftAll_cons]
    have ih := SA_cycles cs cy' n2
    have st1 : ∀ a, SA cs.flatten (fun a => cc (aq ts fl (c :: cs) a)) a = leftAll fl cs 1 * cc (cq ts fl c a) := fun a => by
      rw [SA_congr (G := fun a => cc (cq ts fl c a) * cc (aq ts fl cs a)) fun a => by
        have e : aq ts fl (c :: cs) a ↔ cq ts fl c a ∧ aq ts fl cs a := ⟨fun z => ⟨z c (by simp), fun d hd => z d (List.mem_cons_of_mem _ hd)⟩, fun z d hd => by
          rcases List.mem_cons.mp hd with rfl | hd
          · exact z.1
          · exact z.2 d hd⟩
        rw [cc_congr e]
        unfold cc
        by_cases x : cq ts fl c a
        · by_cases y : aq ts fl cs a
          · rw [if_pos ⟨x, y⟩, if_pos x, if_pos y]
          · rw [if_neg fun q => y q.2, if_pos x, if_neg y]
        · rw [if_neg fun q => x q.1, if_neg x, Nat.zero_mul]]
      rw [SA_mul (M := c) (fun a a' e => cq_dep cy a a' e) _ _ fun i hi z => n3 i hi i z rfl, ih, Nat.mul_comm]
    rw [SA_congr st1, SA_mul (M := []) (G := fun _ => leftAll fl cs 1) (fun _ _ _ => rfl) _ _ (fun i hi => by cases hi), SA_cycle cy n1, Nat.mul_comm]
theorem fix_bits (ok : Ts ts) (fl : Nat) {p : Nat} (hp : p < 2 ^ ts.length) : go ts fl p = p ↔ ∀ b, b < ts.length → bq ts fl p.testBit b := by
  constructor
  · intro e b hb
    have g := go_bit ok fl p (show ts[b]? = some (tb ts b) from getD_some hb)
    rw [e] at g
    exact g
  · intro h
    refine bits_ext (go_lt ts fl p) hp fun t ht => ?_
    have g := go_bit ok fl p (ok.get_idx ht)
    have q := h (ts.idxOf t) (ok.idx_lt ht)
    unfold bq at q
    rw [tb_idx ok ht] at q
    rw [g, q]
theorem fix_count (ok : Ts ts) (fl : Nat) {cs : List (List Nat)} (cy : ∀ c ∈ cs, Cyc ts c) (pm : cs.flatten.Perm (List.range ts.length)) : (sm (2 ^ ts.length) fun p => cc (go ts fl p = p)) = leftAll fl cs 1 := by
  have nd : cs.flatten.Nodup := pm.nodup_iff.mpr List.nodup_range
  rw [← SA_cycles cs cy nd (fun _ => false), SA_perm (pm.trans (dn_perm _).symm) nd, SA_dn]
  refine sm_congr fun p hp => cc_congr ?_
  have e : (fun i => if i < ts.length then p.testBit i else false) = p.testBit := funext fun i => by
    by_cases h : i < ts.length
    · rw [if_pos h]
    · rw [if_neg h, Nat.testBit_lt_two_pow (Nat.lt_of_lt_of_le hp (Nat.pow_le_pow_right (by decide) (by omega)))]
  rw [fix_bits ok fl hp, e]
  constructor
  · intro z c hc b hb
    exact z b ((cy c hc).lt hb)
  · intro z b hb
    obtain ⟨c, hc, hbc⟩ := List.mem_flatten.mp (pm.mem_iff.mpr (List.mem_range.mpr hb))
    exact z c hc b hbc
/-- as many rise as fall -/
theorem rises_falls (ok : Ts ts) (fl : Nat) : (sm (2 ^ ts.length) fun p => cc (p < go ts fl p)) = sm (2 ^ ts.length) fun p => cc (go ts fl p < p) := by
  have h1 := ok.one
  have h2 := ok.most
  have s := sm_go (ts_range h1 h2) (2 ^ ts.length - 1) (fun p => cc (p < go ts fl p))
  rw [List.length_range] at s
  rw [s]
  refine sm_congr fun p hp => ?_
  have gr := go_rev h1 h2 hp
  have gg := go_lt ts fl p
  have gn : go ts fl (2 ^ ts.length - 1 - p) = 2 ^ ts.length - 1 - go ts fl p := by
    refine bits_ext (go_lt _ _ _) (by have := Nat.two_pow_pos ts.length; omega) fun t ht => ?_
    rw [go_bit ok fl _ (ok.get_idx ht), show 2 ^ ts.length - 1 - p = 2 ^ ts.length - (p + 1) by omega, show 2 ^ ts.length - 1 - go ts fl p = 2 ^ ts.length - (go ts fl p + 1) by omega, Nat.testBit_two_pow_sub_succ hp, Nat.testBit_two_pow_sub_succ gg, decide_eq_true (ok.idx_lt ht), decide_eq_true ht, go_bit ok fl p (ok.get_idx ht)]
    cases p.testBit (ts.idxOf t) <;> cases fl.testBit t <;> rfl
  rw [gr, gn]
  exact cc_congr ⟨fun z => by omega, fun z => by omega⟩
theorem three_counts (ok : Ts ts) (fl : Nat) : (sm (2 ^ ts.length) fun p => cc (p < go ts fl p)) + (sm (2 ^ ts.length) fun p => cc (go ts fl p = p)) + (sm (2 ^ ts.length) fun p => cc (go ts fl p < p)) = 2 ^ ts.length := by
  rw [← sm_add, ← sm_add, sm_congr (g := fun _ => 1) fun p _ => by
    unfold cc
    rcases Nat.lt_trichotomy p (go ts fl p) with c | c | c
    · rw [if_pos c, if_neg (by omega), if_neg (by omega)]
    · rw [if_neg (by omega), if_pos c.symm, if_neg (by omega)]
    · rw [if_neg (by omega), if_neg (by omega), if_pos c], sm_one]
theorem nx_map : ∀ (r : List Nat) (p z : Nat), nx ts p r z → (p :: r).map (tb ts) = r ++ [z]
  | [], p, z, h => by
    have e : tb ts p = z := h
    rw [← e]
    rfl
  | b :: r, p, z, h => by
    rw [List.map_cons, nx_map r b z h.2, h.1]
    rfl
/-- the flips that a cycle's bits go to -/
def fts (ts : List Nat) (fl : Nat) (c : List Nat) : Nat := (c.map fun e => (fl.testBit (tb ts e)).toNat).sum
theorem fts_cyc {c : List Nat} (h : Cyc ts c) : fts ts fl c = (fls fl c).sum := by
  obtain ⟨b0, r, rfl⟩ : ∃ b0 r, c = b0 :: r := by
    cases c with
    | nil => have := h.one; simp at this
    | cons b r => exact ⟨b, r, rfl⟩
  have m := nx_map r b0 b0 (cyc_nx h)
  unfold fts fls
  rw [show ((b0 :: r).map fun e => (fl.testBit (tb ts e)).toNat) = ((b0 :: r).map (tb ts)).map fun e => (fl.testBit e).toNat by rw [List.map_map]; rfl, m, List.map_append, List.sum_append_nat, List.map_cons, List.sum_cons]
  simp
  omega
theorem left_one {c : List Nat} : left c.length (odd fl c) 1 = 2 * (decide ((fls fl c).sum % 2 = 0)).toNat := by
  unfold left odd
  rw [show (1 : Int).natAbs = 1 from rfl, Nat.gcd_one_right]
  rcases (by omega : (fls fl c).sum % 2 = 0 ∨ (fls fl c).sum % 2 = 1) with h | h
  · rw [h]
    rfl
  · rw [h]
    rfl
theorem cov_mem {cs : List (List Nat)} {vs : List Bool} {i : Nat} (h : Cov ts cs vs i) (e : Nat) : vs[e]? = some true ↔ e ∈ cs.flatten := by
  rw [List.mem_flatten]
  exact ⟨h.sub e, fun ⟨c, hc, hb⟩ => h.sup c hc e hb⟩
theorem cov_len {cs : List (List Nat)} {vs : List Bool} {i : Nat} (h : Cov ts cs vs i) : cs.flatten.length ≤ ts.length := nodup_lt_length h.nd fun e he => by
  have := (List.getElem?_eq_some_iff.mp ((cov_mem h e).mpr he)).1
  rw [h.len] at this
  exact this
theorem leftAll_le (fl : Nat) : ∀ (cs : List (List Nat)), leftAll fl cs 1 ≤ 2 ^ cs.length
  | [] => Nat.le_refl _
  | c :: cs => by
    rw [leftAll_cons, left_one, List.length_cons, Nat.pow_succ, Nat.mul_comm (2 ^ cs.length) 2]
    refine Nat.mul_le_mul ?_ (leftAll_le fl cs)
    cases decide ((fls fl c).sum % 2 = 0) <;> decide
theorem leftAll_uniq (ok : Ts ts) {cs ds : List (List Nat)} (cy : ∀ c ∈ cs, Cyc ts c) (pm : cs.flatten.Perm (List.range ts.length)) (dy : ∀ c ∈ ds, Cyc ts c) (dm : ds.flatten.Perm (List.range ts.length)) : leftAll fl cs 1 = leftAll fl ds 1 := by
  rw [← fix_count ok fl cy pm, fix_count ok fl dy dm]
end
end G

/-! The texts of small data. -/
namespace G
open PySem PySem.Spec PyProof.Rows L2 M PyData
structure Tm (k n : Nat) (d : PyData) : Prop where
  s : d.showable = true
  h : d.hasDict = false
  k : d.depth ≤ k
  l : d.shown.length ≤ n
structure TmA (k n : Nat) (ds : List PyData) : Prop where
  s : showableAll ds = true
  h : hasDictAll ds = false
  k : depthAll ds ≤ k
  l : piled (shownAll ds) ≤ n
theorem Tm.mono {k n k' n' : Nat} {d : PyData} (t : Tm k n d) (hk : k ≤ k') (hn : n ≤ n') : Tm k' n' d := ⟨t.s, t.h, Nat.le_trans t.k hk, Nat.le_trans t.l hn⟩
theorem log_int {i : Int} (h : i.natAbs < 2 ^ 1900) : i.natAbs.log2 < 1920 := by
  by_cases h0 : i.natAbs = 0
  · rw [h0]
    decide
  · rw [Nat.log2_lt h0]
    exact Nat.lt_trans h (Nat.pow_lt_pow_right (by decide) (by decide))
theorem tm_int {i : Int} (h : i.natAbs < 2 ^ 1900) : Tm 0 1921 (.int i) := ⟨by simp only [showable, decide_eq_true (log_int h)], by simp only [hasDict], by simp only [depth]; exact Nat.le_refl _, int_show_le (log_int h)⟩
theorem tm_nat {i : Nat} (h : i < 2 ^ 1900) : Tm 0 1921 (.int (i : Int)) := tm_int (by rw [Int.natAbs_natCast]; exact h)
theorem tmA_nil : TmA 0 0 [] := ⟨by simp only [showableAll], by simp only [hasDictAll], by simp only [depthAll]; exact Nat.le_refl _, by simp only [shownAll, piled_nil]; exact Nat.le_refl _⟩
theorem tmA_cons {k n k' n' : Nat} {d : PyData} {ds : List PyData} (t : Tm k n d) (u : TmA k' n' ds) : TmA (max k k') (n + n' + 2) (d :: ds) := by
  refine ⟨by simp only [showableAll, t.s, u.s, Bool.and_self], by simp only [hasDictAll, t.h, u.h, Bool.or_self], ?_, ?_⟩
  · have := t.k
    have := u.k
    simp only [depthAll]
    omega
  · have := t.l
    have := u.l
    simp only [shownAll, piled_cons]
    omega
theorem piled_sum : ∀ ts : List Str, piled ts = (ts.map (·.length)).sum + 2 * ts.length
  | [] => by rw [piled_nil]; rfl
  | t :: r => by
    rw [piled_cons, piled_sum r, List.map_cons, List.sum_cons, List.length_cons]
    omega
theorem tupleText_le (ts : List Str) : (tupleText ts).length ≤ piled ts + 3 := by
  have e1 : ((("(" : String) : Str)).length = 1 := rfl
  have e2 : ((("," : String) : Str)).length = 1 := rfl
  have e3 : (((", " : String) : Str)).length = 2 := rfl
  have e4 : (((",)" : String) : Str)).length = 2 := rfl
  have e5 : (((")" : String) : Str)).length = 1 := rfl
  have j := sjoin_len (Str.ofString ", ") ts
  have ps := piled_sum ts
  have e3' : (Str.ofString ", ").length = 2 := rfl
  rw [e3'] at j
  unfold tupleText
  split
  · rw [strLen_append, strLen_append]
    have : (Str.ofString "(").length = 1 := rfl
    have : (Str.ofString ",)").length = 2 := rfl
    omega
  · rw [strLen_append, strLen_append]
    have : (Str.ofString "(").length = 1 := rfl
    have : (Str.ofString ")").length = 1 := rfl
    omega
theorem tm_list {k n : Nat} {ds : List PyData} (t : TmA k n ds) : Tm (k + 1) (n + 2) (.list ds) := by
  have := t.l
  have := t.k
  refine ⟨by simp only [showable, t.s], by simp only [hasDict, t.h], by simp only [depth]; omega, ?_⟩
  simp only [PyData.shown]
  exact Nat.le_trans (listText_le _) (by omega)
theorem tm_tuple {k n : Nat} {ds : List PyData} (t : TmA k n ds) : Tm (k + 1) (n + 3) (.tuple ds) := by
  have := t.l
  have := t.k
  refine ⟨by simp only [showable, t.s], by simp only [hasDict, t.h], by simp only [depth]; omega, ?_⟩
  simp only [PyData.shown]
  exact Nat.le_trans (tupleText_le _) (by omega)
/-- repr of what is such -/
theorem repr_tm {K : PySem.W.Frag} {H : Hp} {a : Addr} {d : PyData} {k n : Nat} {Q : VK} (hd : Dp K H (.ref a) d) (t : Tm k n d) (hk : k ≤ 40) (hn : n ≤ 16000000) (q : Q (.str d.shown) H) : rReprD K [.ref a] H Q := by
  have e : sizeLine = 16777216 := by decide
  have := t.l
  have := t.k
  exact ⟨_, d, rfl, hd, t.s, t.h, by omega, by omega, ⟨a, rfl⟩, q⟩
theorem repr_t3 {K : PySem.W.Frag} {H : Hp} {a : Addr} {i j k : Int} {Q : VK} (h : H a = some (.tup [.int i, .int j, .int k])) (hi : i.natAbs < 2 ^ 1900) (hj : j.natAbs < 2 ^ 1900) (hk : k.natAbs < 2 ^ 1900) (q : Q (.str (PyData.tuple [.int i, .int j, .int k]).shown) H) : rReprD K [.ref a] H Q :=
  repr_tm (d := .tuple [.int i, .int j, .int k]) (.tup (SqT.of h) (.cons (.int _) (.cons (.int _) (.cons (.int _) .nil)))) (tm_tuple (tmA_cons (tm_int hi) (tmA_cons (tm_int hj) (tmA_cons (tm_int hk) tmA_nil)))) (by decide) (by decide) q
theorem leftAll_most {ts : List Nat} (ok : Ts ts) (fl : Nat) {cs : List (List Nat)} (cy : ∀ c ∈ cs, Cyc ts c) (pm : cs.flatten.Perm (List.range ts.length)) : leftAll fl cs 1 ≤ 2 ^ ts.length := by
  rw [← fix_count ok fl cy pm]
  have := three_counts ok fl
  omega
end G

/-! Ways by listing. -/
namespace G
open PySem PySem.Spec PyProof.Rows L2 M
def wI (ts : List Nat) (fl p : Nat) : Int := (go ts fl p : Int) - (p : Int)
def upN (ts : List Nat) (fl n : Nat) : Nat := sm n fun p => cc (0 < wI ts fl p)
def stN (ts : List Nat) (fl n : Nat) : Nat := sm n fun p => cc (wI ts fl p = 0)
def loN (ts : List Nat) (fl n : Nat) : Nat := sm n fun p => cc (wI ts fl p < 0)
theorem count_sm (f : Nat → Int) (k : Int) : ∀ n, ((List.range n).map f).count k = sm n fun p => cc (f p = k)
  | 0 => rfl
  | n + 1 => by
    rw [List.range_succ, List.map_append, List.count_append, count_sm f k n]
    show _ + [f n].count k = (sm n fun p => cc (f p = k)) + cc (f n = k)
    unfold cc
    by_cases h : f n = k
    · rw [if_pos h, h]
      simp
    · rw [if_neg h, List.count_eq_zero.mpr (by simp; exact fun z => h z.symm)]
theorem sm_le_n {n : Nat} {f : Nat → Nat} (h : ∀ i, f i ≤ 1) : sm n f ≤ n := by
  have := sm_const_le (n := n) (m := 1) (f := f) fun i _ => h i
  omega
theorem cc_le (p : Prop) [Decidable p] : cc p ≤ 1 := by
  unfold cc
  split <;> omega
section
variable {ts : List Nat} {fl : Nat}
theorem stN_fix (ok : Ts ts) (fl : Nat) {cs : List (List Nat)} (cy : ∀ c ∈ cs, Cyc ts c) (pm : cs.flatten.Perm (List.range ts.length)) : stN ts fl (2 ^ ts.length) = leftAll fl cs 1 := by
  rw [← fix_count ok fl cy pm]
  exact sm_congr fun p _ => cc_congr (by unfold wI; omega)
theorem up_lo (ok : Ts ts) (fl : Nat) : upN ts fl (2 ^ ts.length) = loN ts fl (2 ^ ts.length) := by
  have h := rises_falls ok fl
  have e1 : upN ts fl (2 ^ ts.length) = sm (2 ^ ts.length) fun p => cc (p < go ts fl p) := sm_congr fun p _ => cc_congr (by unfold wI; omega)
  have e2 : loN ts fl (2 ^ ts.length) = sm (2 ^ ts.length) fun p => cc (go ts fl p < p) := sm_congr fun p _ => cc_congr (by unfold wI; omega)
  rw [e1, e2, h]
theorem three_way (ok : Ts ts) (fl : Nat) : upN ts fl (2 ^ ts.length) + stN ts fl (2 ^ ts.length) + upN ts fl (2 ^ ts.length) = 2 ^ ts.length := by
  have h := three_counts ok fl
  have e1 : upN ts fl (2 ^ ts.length) = sm (2 ^ ts.length) fun p => cc (p < go ts fl p) := sm_congr fun p _ => cc_congr (by unfold wI; omega)
  have e3 : stN ts fl (2 ^ ts.length) = sm (2 ^ ts.length) fun p => cc (go ts fl p = p) := sm_congr fun p _ => cc_congr (by unfold wI; omega)
  rw [← rises_falls ok fl] at h
  rw [e1, e3]
  exact h
theorem count_stN (ts : List Nat) (fl n : Nat) : ((List.range n).map (wI ts fl)).count 0 = stN ts fl n := count_sm _ _ _
/-- the counts that the program tells -/
theorem rise_is (ok : Ts ts) (fl : Nat) {cs : List (List Nat)} (cy : ∀ c ∈ cs, Cyc ts c) (pm : cs.flatten.Perm (List.range ts.length)) : (((2 ^ ts.length : Nat) : Int) - ((leftAll fl cs 1 : Nat) : Int)) / 2 = ((upN ts fl (2 ^ ts.length) : Nat) : Int) := by
  have h := three_way ok fl
  rw [stN_fix ok fl cy pm] at h
  generalize 2 ^ ts.length = A at *
  omega
theorem fix_ext {m : Nat} (ok : Ts ts) (hf : fl < 2 ^ ts.length) (h1 : 1 ≤ m) (h : ts.length + m ≤ 100) : stN (bs ts (List.range m)) fl (2 ^ (ts.length + m)) = 2 ^ m * stN ts fl (2 ^ ts.length) := by
  have okr : Ts (List.range m) := ts_range h1 (by omega)
  have ef : bf ts fl 0 = fl := by
    unfold bf
    rw [Nat.zero_mul, Nat.or_zero]
  have gb : ∀ p, go (bs ts (List.range m)) fl p = go (List.range m) 0 (p / 2 ^ ts.length) * 2 ^ ts.length + go ts fl (p % 2 ^ ts.length) := fun p => by
    have g := go_bs (gl := 0) ok okr hf (by rw [List.length_range]; exact h) p
    rw [ef] at g
    exact g
  have A0 := Nat.two_pow_pos ts.length
  have rm : ∀ x, x < 2 ^ m → go (List.range m) 0 x = x := fun x hx => go_range h1 (by omega) hx
  rw [show (2 : Nat) ^ (ts.length + m) = 2 ^ m * 2 ^ ts.length by rw [Nat.pow_add, Nat.mul_comm]]
  unfold stN
  rw [sm_blocks]
  generalize 2 ^ ts.length = A at *
  generalize (2 : Nat) ^ m = B at *
  rw [sm_congr (n := B) (g := fun _ => sm A fun p => cc (wI ts fl p = 0)) fun x hx => sm_congr fun y hy => ?_, sm_const]
  have dx : (x * A + y) / A = x := by rw [Nat.mul_comm, Nat.mul_add_div A0, Nat.div_eq_of_lt hy]; omega
  have mx : (x * A + y) % A = y := by rw [Nat.mul_comm, Nat.mul_add_mod, Nat.mod_eq_of_lt hy]
  refine cc_congr ?_
  unfold wI
  rw [gb, dx, mx, rm x hx]
  omega
/-- the turn with more bits that stay -/
def tx (ts : List Nat) (m : Nat) : List Nat := ts ++ List.range' ts.length m
theorem tx_zero (ts : List Nat) : tx ts 0 = ts := by
  unfold tx
  rw [List.range'_zero, List.append_nil]
theorem tx_bs (ts : List Nat) (m : Nat) : tx ts m = bs ts (List.range m) := by
  unfold tx bs
  rw [List.range'_eq_map_range]
theorem tx_len (ts : List Nat) (m : Nat) : (tx ts m).length = ts.length + m := by
  unfold tx
  rw [List.length_append, List.length_range']
theorem tx_ok {m : Nat} (ok : Ts ts) (h : ts.length + m ≤ 100) : Ts (tx ts m) := by
  by_cases h0 : m = 0
  · subst h0
    rw [tx_zero]
    exact ok
  · rw [tx_bs]
    exact bs_ok ok (ts_range (by omega) (by omega)) (by rw [List.length_range]; exact h)
theorem tx_st {m : Nat} (ok : Ts ts) (hf : fl < 2 ^ ts.length) (h : ts.length + m ≤ 100) : stN (tx ts m) fl (2 ^ (ts.length + m)) = stN ts fl (2 ^ ts.length) * 2 ^ m := by
  by_cases h0 : m = 0
  · subst h0
    rw [tx_zero, Nat.add_zero, Nat.pow_zero, Nat.mul_one]
  · rw [tx_bs, fix_ext ok hf (by omega) h, Nat.mul_comm]
theorem tx_up {m : Nat} (ok : Ts ts) (hf : fl < 2 ^ ts.length) (h : ts.length + m ≤ 100) : upN (tx ts m) fl (2 ^ (ts.length + m)) = upN ts fl (2 ^ ts.length) * 2 ^ m := by
  have h1 := three_way (tx_ok ok h) fl
  have h2 := three_way ok fl
  rw [tx_len, tx_st ok hf h] at h1
  have hp : (2 : Nat) ^ (ts.length + m) = 2 ^ ts.length * 2 ^ m := Nat.pow_add _ _ _
  generalize upN (tx ts m) fl (2 ^ (ts.length + m)) = U at *
  rw [hp] at h1
  generalize upN ts fl (2 ^ ts.length) = A at *
  generalize stN ts fl (2 ^ ts.length) = B at *
  generalize 2 ^ ts.length = N at *
  generalize (2 : Nat) ^ m = M at *
  subst h2
  rw [Nat.add_mul, Nat.add_mul] at h1
  omega
end
end G

/-! The best ways, by listing. -/
namespace G
open PySem PySem.Spec PyProof.Rows L2 M
theorem im_split (a : Nat) (f : Nat → Int) : ∀ b, im (a + b) f = im a f + im b fun i => f (a + i)
  | 0 => (Int.add_zero _).symm
  | b + 1 => by
    show im (a + b) f + f (a + b) = im a f + (im b (fun i => f (a + i)) + f (a + b))
    rw [im_split a f b, Int.add_assoc]
theorem im_pow (n : Nat) (f : Nat → Int) : im (2 ^ (n + 1)) f = im (2 ^ n) f + im (2 ^ n) fun i => f (2 ^ n + i) := by
  rw [Nat.pow_succ, Nat.mul_two]
  exact im_split _ _ _
theorem im_const (c : Int) : ∀ n : Nat, im n (fun _ => c) = (n : Int) * c
  | 0 => by
    show (0 : Int) = _
    simp
  | n + 1 => by
    show im n (fun _ => c) + c = _
    rw [im_const c n]
    grind
theorem im_sum : ∀ (n : Nat) (f : Nat → Int), ((List.range n).map f).sum = im n f := fun n f => by
  induction n with
  | zero => rfl
  | succ n ih =>
    rw [List.range_succ, List.map_append, List.sum_append_int, ih]
    show _ = im n f + f n
    simp
section
variable {ts : List Nat} {fl : Nat}
/-- the way of a place's first n bits -/
def wn (ts : List Nat) (fl n p : Nat) : Int := im n fun e => G.part ts fl e (p.testBit e)
theorem wn_lo {n p : Nat} (hp : p < 2 ^ n) : wn ts fl (n + 1) p = wn ts fl n p + G.part ts fl n false := by
  show wn ts fl n p + G.part ts fl n (p.testBit n) = _
  rw [Nat.testBit_lt_two_pow hp]
theorem wn_hi {n p : Nat} (hp : p < 2 ^ n) : wn ts fl (n + 1) (2 ^ n + p) = wn ts fl n p + G.part ts fl n true := by
  show wn ts fl n (2 ^ n + p) + G.part ts fl n ((2 ^ n + p).testBit n) = _
  rw [bit_top hp]
  congr 1
  exact im_congr fun e he => by rw [bit_low he]
theorem sum_one (ts : List Nat) (fl : Nat) : ∀ n, 2 * im (2 ^ n) (fun p => wn ts fl n p) = ((2 ^ n : Nat) : Int) * im n (psum ts fl)
  | 0 => by
    show 2 * (0 + 0) = _ * (0 : Int)
    simp
  | n + 1 => by
    have ih := sum_one ts fl n
    rw [im_pow, im_congr (n := 2 ^ n) (g := fun p => wn ts fl n p + G.part ts fl n false) fun p hp => wn_lo hp, im_congr (n := 2 ^ n) (f := fun p => wn ts fl (n + 1) (2 ^ n + p)) (g := fun p => wn ts fl n p + G.part ts fl n true) fun p hp => wn_hi hp, im_add, im_add, im_const, im_const]
    show _ = _ * (im n (psum ts fl) + (G.part ts fl n false + G.part ts fl n true))
    rw [show ((2 ^ (n + 1) : Nat) : Int) = ((2 ^ n : Nat) : Int) * 2 by rw [Nat.pow_succ]; simp]
    generalize im (2 ^ n) (fun p => wn ts fl n p) = S at *
    generalize im n (psum ts fl) = P at *
    generalize ((2 ^ n : Nat) : Int) = N at *
    grind
theorem sum_two (ts : List Nat) (fl : Nat) : ∀ n, 4 * im (2 ^ n) (fun p => wn ts fl n p * wn ts fl n p) = ((2 ^ n : Nat) : Int) * sqlaw ts fl n
  | 0 => by
    show 4 * (0 + 0 * 0) = _ * (0 : Int)
    simp
  | n + 1 => by
    have ih := sum_two ts fl n
    have one := sum_one ts fl n
    have r : sqrow ts fl n n = 2 * psum ts fl n * im n (psum ts fl) := im_mul n (2 * psum ts fl n) (psum ts fl)
    rw [im_pow, im_congr (n := 2 ^ n) (g := fun p => (wn ts fl n p * wn ts fl n p + (2 * G.part ts fl n false) * wn ts fl n p) + G.part ts fl n false * G.part ts fl n false) fun p hp => by
      rw [wn_lo hp]
      grind, im_congr (n := 2 ^ n) (f := fun p => wn ts fl (n + 1) (2 ^ n + p) * wn ts fl (n + 1) (2 ^ n + p)) (g := fun p => (wn ts fl n p * wn ts fl n p + (2 * G.part ts fl n true) * wn ts fl n p) + G.part ts fl n true * G.part ts fl n true) fun p hp => by
      rw [wn_hi hp]
      grind, im_add, im_add, im_add, im_add, im_const, im_const, im_mul, im_mul]
    show _ = _ * (sqlaw ts fl n + (2 * (G.part ts fl n false ^ 2 + G.part ts fl n true ^ 2) + sqrow ts fl n n))
    rw [r, show ((2 ^ (n + 1) : Nat) : Int) = ((2 ^ n : Nat) : Int) * 2 by rw [Nat.pow_succ]; simp]
    unfold psum at *
    generalize im (2 ^ n) (fun p => wn ts fl n p * wn ts fl n p) = S2 at *
    generalize im (2 ^ n) (fun p => wn ts fl n p) = S at *
    generalize im n (fun e => G.part ts fl e false + G.part ts fl e true) = P at *
    generalize sqlaw ts fl n = L at *
    generalize ((2 ^ n : Nat) : Int) = N at *
    grind
theorem wI_wy (ok : Ts ts) (fl : Nat) {p : Nat} (hp : p < 2 ^ ts.length) : wI ts fl p = wy ts fl p.testBit := wy_go ok fl hp
theorem squares (ok : Ts ts) (fl : Nat) : im (2 ^ ts.length) (fun p => wI ts fl p ^ 2) = ((sqs ts fl : Nat) : Int) := by
  have h := sum_two ts fl ts.length
  rw [sqlaw_sq4 ok] at h
  rw [im_congr (g := fun p => wn ts fl ts.length p * wn ts fl ts.length p) fun p hp => by
    rw [wI_wy ok fl hp]
    show wn ts fl ts.length p ^ 2 = _
    grind]
  unfold sqs
  rw [← Int.natCast_mul] at h
  rw [Nat.mul_comm]
  generalize 2 ^ ts.length * sq4 ts fl = z at *
  omega
theorem w_most (ok : Ts ts) (fl : Nat) {p : Nat} (hp : p < 2 ^ ts.length) : wI ts fl p ≤ wI ts fl (gp ts fl) := by
  rw [wI_wy ok fl hp, wI_wy ok fl (gp_lt ts fl)]
  exact wy_most ts fl _
theorem w_least (ok : Ts ts) (fl : Nat) {p : Nat} (hp : p < 2 ^ ts.length) : wI ts fl (lp ts fl) ≤ wI ts fl p := by
  rw [wI_wy ok fl hp, wI_wy ok fl (lp_lt ts fl)]
  exact wy_least ts fl _
theorem missing_bit {p g n : Nat} (hg : g < 2 ^ n) (h : p < g) : ∃ e, e < n ∧ g.testBit e = true ∧ p.testBit e = false := by
  refine Classical.byContradiction fun z => ?_
  have all : g &&& p = g := by
    refine Nat.eq_of_testBit_eq fun e => ?_
    rw [Nat.testBit_and]
    by_cases he : e < n
    · cases hb : g.testBit e
      · rfl
      · cases hp : p.testBit e
        · exact absurd ⟨e, he, hb, hp⟩ z
        · rfl
    · rw [Nat.testBit_lt_two_pow (Nat.lt_of_lt_of_le hg (Nat.pow_le_pow_right (by decide) (by omega)))]
      rfl
  have : g &&& p ≤ p := Nat.and_le_right
  omega
theorem w_first (ok : Ts ts) (fl : Nat) {p : Nat} (h : p < gp ts fl) : wI ts fl p < wI ts fl (gp ts fl) := by
  have hp := Nat.lt_trans h (gp_lt ts fl)
  obtain ⟨e, he, hb, hn⟩ := missing_bit (gp_lt ts fl) h
  rw [wI_wy ok fl hp, wI_wy ok fl (gp_lt ts fl)]
  refine im_lt (fun i hi => ?_) he ?_
  · rw [gp_bit ts fl hi]
    exact (part_le ts fl i _).1
  · rw [gp_bit ts fl he] at hb ⊢
    have g := gain_part ts fl e
    have := of_decide_eq_true hb
    rw [hb, hn]
    omega
theorem w_firstl (ok : Ts ts) (fl : Nat) {p : Nat} (h : p < lp ts fl) : wI ts fl (lp ts fl) < wI ts fl p := by
  have hp := Nat.lt_trans h (lp_lt ts fl)
  obtain ⟨e, he, hb, hn⟩ := missing_bit (lp_lt ts fl) h
  rw [wI_wy ok fl hp, wI_wy ok fl (lp_lt ts fl)]
  refine im_lt (fun i hi => ?_) he ?_
  · rw [lp_bit ts fl hi]
    exact (part_le ts fl i _).2
  · rw [lp_bit ts fl he] at hb ⊢
    have g := gain_part ts fl e
    have := of_decide_eq_true hb
    rw [hb, hn]
    omega
/-- the two best ways, the sum of squares, the counts -/
def wD (a b c d e i j k : Int) : List PyData := [.tuple [.int a, .int b], .tuple [.int c, .int d], .int e, .tuple [.int i, .int j, .int k]]
theorem wD_dp {K : PySem.W.Frag} {H : Hp} {p q r : Addr} {a b c d e i j k : Int} (hp : H p = some (.tup [.int a, .int b])) (hq : H q = some (.tup [.int c, .int d])) (hr : H r = some (.tup [.int i, .int j, .int k])) : DpAll K H [.ref p, .ref q, .int e, .ref r] (wD a b c d e i j k) :=
  .cons (.tup (SqT.of hp) (.cons (.int _) (.cons (.int _) .nil))) (.cons (.tup (SqT.of hq) (.cons (.int _) (.cons (.int _) .nil))) (.cons (.int _) (.cons (.tup (SqT.of hr) (.cons (.int _) (.cons (.int _) (.cons (.int _) .nil)))) .nil)))
theorem repr_wD {K : PySem.W.Frag} {H : Hp} {l p q r : Addr} {a b c d e i j k : Int} {Q : VK} (hl : H l = some (.lst [.ref p, .ref q, .int e, .ref r])) (hp : H p = some (.tup [.int a, .int b])) (hq : H q = some (.tup [.int c, .int d])) (hr : H r = some (.tup [.int i, .int j, .int k]))
    (h : ∀ z ∈ [a, b, c, d, e, i, j, k], z.natAbs < 2 ^ 1900) (g : Q (.str (PyData.list (wD a b c d e i j k)).shown) H) : rReprD K [.ref l] H Q :=
  repr_tm (.lst (SqL.of hl) (wD_dp hp hq hr)) (tm_list (tmA_cons (tm_tuple (tmA_cons (tm_int (h a (by simp))) (tmA_cons (tm_int (h b (by simp))) tmA_nil))) (tmA_cons (tm_tuple (tmA_cons (tm_int (h c (by simp))) (tmA_cons (tm_int (h d (by simp))) tmA_nil))) (tmA_cons (tm_int (h e (by simp))) (tmA_cons (tm_tuple (tmA_cons (tm_int (h i (by simp))) (tmA_cons (tm_int (h j (by simp))) (tmA_cons (tm_int (h k (by simp))) tmA_nil)))) tmA_nil))))) (by decide) (by decide) g
theorem dpA {K : PySem.W.Frag} {H : Hp} {ys : List V} {es : List PyData} (b : DpAll K H ys es) : ∀ {xs : List V} {ds : List PyData}, DpAll K H xs ds → DpAll K H (xs ++ ys) (ds ++ es)
  | _, _, .nil => b
  | _, _, .cons d r => .cons d (dpA b r)
end
end G

/-! Ways of inverses and of turns beside one another. -/
namespace G
open PySem PySem.Spec PyProof.Rows L2 M
section
variable {ts us : List Nat} {fl gl : Nat}
theorem im_go (ok : Ts ts) (fl : Nat) (F : Nat → Int) : im (2 ^ ts.length) F = im (2 ^ ts.length) fun i => F (go ts fl i) := by
  rw [im_perm (go_all ok fl) F]
  refine im_congr fun i hi => ?_
  congr 1
  rw [List.getD_eq_getElem?_getD, List.getElem?_map, List.getElem?_range hi]
  rfl
abbrev bkT (ts : List Nat) (fl : Nat) : List Nat := pT ts fl (-1)
abbrev bkF (ts : List Nat) (fl : Nat) : Nat := pF ts fl (-1)
theorem bk_way (ok : Ts ts) (fl : Nat) {p : Nat} (hp : p < 2 ^ ts.length) : wI (bkT ts fl) (bkF ts fl) (go ts fl p) = - wI ts fl p := by
  unfold wI
  rw [go_fwd ok fl hp]
  omega
theorem go_onto (ok : Ts ts) (fl : Nat) {q : Nat} (hq : q < 2 ^ ts.length) : ∃ p, p < 2 ^ ts.length ∧ go ts fl p = q := ⟨go (bkT ts fl) (bkF ts fl) q, by have := go_lt (bkT ts fl) (bkF ts fl) q; rwa [pT_len] at this, go_pT_neg (fl := fl) ok 1 hq⟩
theorem bk_most (ok : Ts ts) (fl : Nat) : wI (bkT ts fl) (bkF ts fl) (gp (bkT ts fl) (bkF ts fl)) = - wI ts fl (lp ts fl) := by
  have okb : Ts (bkT ts fl) := pT_ok ok (-1)
  have gl := gp_lt (bkT ts fl) (bkF ts fl)
  have lb : (bkT ts fl).length = ts.length := pT_len _
  rw [lb] at gl
  obtain ⟨p, hp, e⟩ := go_onto ok fl gl
  have h1 := w_most okb (bkF ts fl) (p := go ts fl (lp ts fl)) (by rw [lb]; exact go_lt _ _ _)
  rw [bk_way ok fl (lp_lt ts fl)] at h1
  have h2 := bk_way ok fl hp
  rw [e] at h2
  have h3 := w_least ok fl hp
  omega
theorem bk_least (ok : Ts ts) (fl : Nat) : wI (bkT ts fl) (bkF ts fl) (lp (bkT ts fl) (bkF ts fl)) = - wI ts fl (gp ts fl) := by
  have okb : Ts (bkT ts fl) := pT_ok ok (-1)
  have gl := lp_lt (bkT ts fl) (bkF ts fl)
  have lb : (bkT ts fl).length = ts.length := pT_len _
  rw [lb] at gl
  obtain ⟨p, hp, e⟩ := go_onto ok fl gl
  have h1 := w_least okb (bkF ts fl) (p := go ts fl (gp ts fl)) (by rw [lb]; exact go_lt _ _ _)
  rw [bk_way ok fl (gp_lt ts fl)] at h1
  have h2 := bk_way ok fl hp
  rw [e] at h2
  have h3 := w_most ok fl hp
  omega
theorem bk_lp (ok : Ts ts) (fl : Nat) : lp (bkT ts fl) (bkF ts fl) ≤ go ts fl (gp ts fl) := by
  have okb : Ts (bkT ts fl) := pT_ok ok (-1)
  refine Nat.le_of_not_lt fun h => ?_
  have h1 := w_firstl okb (bkF ts fl) h
  rw [bk_least ok fl, bk_way ok fl (gp_lt ts fl)] at h1
  omega
theorem bk_gp (ok : Ts ts) (fl : Nat) : gp (bkT ts fl) (bkF ts fl) ≤ go ts fl (lp ts fl) := by
  have okb : Ts (bkT ts fl) := pT_ok ok (-1)
  refine Nat.le_of_not_lt fun h => ?_
  have h1 := w_first okb (bkF ts fl) h
  rw [bk_most ok fl, bk_way ok fl (lp_lt ts fl)] at h1
  omega
theorem bk_st (ok : Ts ts) (fl : Nat) : stN (bkT ts fl) (bkF ts fl) (2 ^ ts.length) = stN ts fl (2 ^ ts.length) := by
  unfold stN
  rw [sm_go ok fl]
  exact sm_congr fun p hp => cc_congr (by rw [bk_way ok fl hp]; omega)
theorem bk_up (ok : Ts ts) (fl : Nat) : upN (bkT ts fl) (bkF ts fl) (2 ^ ts.length) = upN ts fl (2 ^ ts.length) := by
  have okb : Ts (bkT ts fl) := pT_ok ok (-1)
  have h1 := three_way ok fl
  have h2 := three_way okb (bkF ts fl)
  rw [pT_len, bk_st ok fl] at h2
  omega
theorem bk_sq (ok : Ts ts) (fl : Nat) : sqs (bkT ts fl) (bkF ts fl) = sqs ts fl := by
  have okb : Ts (bkT ts fl) := pT_ok ok (-1)
  have h1 := squares ok fl
  have h2 := squares okb (bkF ts fl)
  rw [pT_len, im_go ok fl] at h2
  rw [im_congr (g := fun p => wI ts fl p ^ 2) fun p hp => by
    rw [bk_way ok fl hp]
    grind] at h2
  omega
/-- who stays throughout is the identity -/
theorem all_stay (ok : Ts ts) (hf : fl < 2 ^ ts.length) (h : ∀ p, p < 2 ^ ts.length → go ts fl p = p) : ts = List.range ts.length ∧ fl = 0 := by
  have f0 : fl = 0 := by
    have h0 := h 0 (Nat.two_pow_pos _)
    refine bits_ext (n := ts.length) hf (Nat.two_pow_pos _) fun t ht => ?_
    have g := go_bit ok fl 0 (ok.get_idx ht)
    rw [h0, Nat.zero_testBit, Nat.zero_testBit, Bool.false_xor] at g
    rw [← g, Nat.zero_testBit]
  refine ⟨List.ext_getElem? fun e => ?_, f0⟩
  by_cases he : e < ts.length
  · rw [List.getElem?_range he, getD_some he]
    congr 1
    have g := go_bit ok fl (2 ^ e) (show ts[e]? = some (tb ts e) from getD_some he)
    rw [h (2 ^ e) (Nat.pow_lt_pow_right (by decide) he), f0, Nat.zero_testBit, Nat.testBit_two_pow_self, Nat.testBit_two_pow] at g
    have := of_decide_eq_true g
    exact this.symm
  · rw [List.getElem?_eq_none (by omega), List.getElem?_eq_none (by rw [List.length_range]; omega)]
theorem stay_all (h1 : 1 ≤ ts.length) (h2 : ts.length ≤ 100) (h : ts = List.range ts.length ∧ fl = 0) {p : Nat} (hp : p < 2 ^ ts.length) : wI ts fl p = 0 := by
  unfold wI
  rw [h.1, h.2, go_range h1 h2 hp]
  omega
theorem sm_all {n : Nat} {f : Nat → Nat} (h1 : ∀ i, f i ≤ 1) (h : sm n f = n) : ∀ i, i < n → f i = 1 := by
  induction n with
  | zero => intro i hi; omega
  | succ n ih =>
    have hh : sm n f + f n = n + 1 := h
    have a := sm_le_n (n := n) h1
    have b := h1 n
    intro i hi
    by_cases e : i = n
    · subst e; omega
    · exact ih (by omega) i (by omega)
theorem sm_none {n : Nat} {f : Nat → Nat} (h : sm n f = 0) : ∀ i, i < n → f i = 0 := by
  induction n with
  | zero => intro i hi; omega
  | succ n ih =>
    have hh : sm n f + f n = 0 := h
    intro i hi
    by_cases e : i = n
    · subst e; omega
    · exact ih (by omega) i (by omega)
theorem up_zero (ok : Ts ts) (hf : fl < 2 ^ ts.length) : upN ts fl (2 ^ ts.length) = 0 ↔ ts = List.range ts.length ∧ fl = 0 := by
  constructor
  · intro h
    have t := three_way ok fl
    refine all_stay ok hf fun p hp => ?_
    have := sm_all (fun i => cc_le _) (show stN ts fl (2 ^ ts.length) = 2 ^ ts.length by omega) p hp
    unfold cc wI at this
    split at this
    · omega
    · cases this
  · intro h
    exact sm_zero fun p hp => cc_no (by rw [stay_all ok.one ok.most h hp]; omega)
theorem most_zero (ok : Ts ts) (hf : fl < 2 ^ ts.length) : wI ts fl (gp ts fl) = 0 ↔ ts = List.range ts.length ∧ fl = 0 := by
  constructor
  · intro h
    refine (up_zero ok hf).mp (sm_zero fun p hp => cc_no ?_)
    have := w_most ok fl hp
    omega
  · intro h
    exact stay_all ok.one ok.most h (gp_lt ts fl)
theorem least_zero (ok : Ts ts) (hf : fl < 2 ^ ts.length) : wI ts fl (lp ts fl) = 0 ↔ ts = List.range ts.length ∧ fl = 0 := by
  constructor
  · intro h
    refine (up_zero ok hf).mp ?_
    rw [up_lo ok fl]
    refine sm_zero fun p hp => cc_no ?_
    have := w_least ok fl hp
    omega
  · intro h
    exact stay_all ok.one ok.most h (lp_lt ts fl)
theorem im_none {n : Nat} {f : Nat → Int} (h0 : ∀ i, i < n → 0 ≤ f i) (h : im n f = 0) : ∀ i, i < n → f i = 0 := by
  have nn : ∀ m, m ≤ n → 0 ≤ im m f := fun m => by
    induction m with
    | zero => intro _; exact Int.le_refl _
    | succ m ih =>
      intro hm
      have := ih (by omega)
      have := h0 m (by omega)
      show 0 ≤ im m f + f m
      omega
  induction n with
  | zero => intro i hi; omega
  | succ n ih =>
    have hh : im n f + f n = 0 := h
    have a := nn n (by omega)
    have b := h0 n (by omega)
    intro i hi
    by_cases e : i = n
    · subst e; omega
    · exact ih (fun i hi => h0 i (by omega)) (by omega) (fun m hm => nn m (by omega)) i (by omega)
theorem sq_pos (x : Int) : 0 ≤ x ^ 2 := by
  rw [show x ^ 2 = x * x by grind, ← Int.natAbs_mul_self' x]
  exact Int.mul_nonneg (Int.natCast_nonneg _) (Int.natCast_nonneg _)
theorem sq_zero (ok : Ts ts) (hf : fl < 2 ^ ts.length) : sqs ts fl = 0 ↔ ts = List.range ts.length ∧ fl = 0 := by
  have s := squares ok fl
  constructor
  · intro h
    rw [h] at s
    have z := im_none (fun i _ => sq_pos (wI ts fl i)) s
    refine all_stay ok hf fun p hp => ?_
    have k := z p hp
    have k2 : wI ts fl p = 0 := by
      have : wI ts fl p * wI ts fl p = 0 := by grind
      rcases Int.mul_eq_zero.mp this with q | q <;> exact q
    unfold wI at k2
    omega
  · intro h
    rw [im_zero fun p hp => by rw [stay_all ok.one ok.most h hp]; rfl] at s
    omega
theorem bs_way (ok : Ts ts) (g : Ts us) (hf : fl < 2 ^ ts.length) (h : ts.length + us.length ≤ 100) (x : Nat) {y : Nat} (hy : y < 2 ^ ts.length) : wI (bs ts us) (bf ts fl gl) (x * 2 ^ ts.length + y) = wI us gl x * ((2 ^ ts.length : Nat) : Int) + wI ts fl y := by
  have gb := go_bs (gl := gl) ok g hf h (x * 2 ^ ts.length + y)
  have A0 := Nat.two_pow_pos ts.length
  unfold wI
  rw [gb]
  generalize 2 ^ ts.length = A at *
  have dx : (x * A + y) / A = x := by rw [Nat.mul_comm, Nat.mul_add_div A0, Nat.div_eq_of_lt hy]; omega
  have mx : (x * A + y) % A = y := by rw [Nat.mul_comm, Nat.mul_add_mod, Nat.mod_eq_of_lt hy]
  rw [dx, mx]
  simp only [Int.natCast_add, Int.natCast_mul]
  grind
theorem parts_of (p A : Nat) (h : 0 < A) : p = (p / A) * A + p % A ∧ p % A < A := ⟨by have := Nat.div_add_mod p A; rw [Nat.mul_comm] at this; omega, Nat.mod_lt _ h⟩
theorem top_lt {p n m : Nat} (h : p < 2 ^ (n + m)) : p / 2 ^ n < 2 ^ m := by
  rw [Nat.pow_add] at h
  exact Nat.div_lt_of_lt_mul h
theorem low_lt {x y n m : Nat} (hx : x < 2 ^ m) (hy : y < 2 ^ n) : x * 2 ^ n + y < 2 ^ (n + m) := by
  rw [Nat.pow_add, Nat.mul_comm (2 ^ n)]
  have := Nat.mul_le_mul_right (2 ^ n) (show x + 1 ≤ 2 ^ m from hx)
  rw [Nat.succ_mul] at this
  omega
theorem bs_gp (ok : Ts ts) (g : Ts us) (hf : fl < 2 ^ ts.length) (h : ts.length + us.length ≤ 100) : gp (bs ts us) (bf ts fl gl) = gp us gl * 2 ^ ts.length + gp ts fl := by
  have okb := bs_ok ok g h
  have lb := bs_len ts us
  have A0 := Nat.two_pow_pos ts.length
  have g1 := gp_lt ts fl
  have g2 := gp_lt us gl
  have g3 := gp_lt (bs ts us) (bf ts fl gl)
  rw [lb] at g3
  obtain ⟨e, my⟩ := parts_of (gp (bs ts us) (bf ts fl gl)) (2 ^ ts.length) A0
  have tx := top_lt g3
  have w1 := bs_way (gl := gl) ok g hf h (gp us gl) g1
  have w2 := bs_way (gl := gl) ok g hf h (gp (bs ts us) (bf ts fl gl) / 2 ^ ts.length) my
  rw [← e] at w2
  have cl := low_lt g2 g1
  have m1 := w_most okb (bf ts fl gl) (by rw [lb]; exact cl)
  have m2 := w_most ok fl my
  have m3 := w_most g gl tx
  have f1 : ¬ gp us gl * 2 ^ ts.length + gp ts fl < gp (bs ts us) (bf ts fl gl) := fun z => by
    have := w_first okb (bf ts fl gl) z
    rw [w1, w2] at this
    have k := Int.mul_le_mul_of_nonneg_right m3 (Int.natCast_nonneg (2 ^ ts.length))
    omega
  rw [w1, w2] at m1
  have k := Int.mul_le_mul_of_nonneg_right m3 (Int.natCast_nonneg (2 ^ ts.length))
  have eh : wI us gl (gp (bs ts us) (bf ts fl gl) / 2 ^ ts.length) = wI us gl (gp us gl) := by
    have ke : wI us gl (gp (bs ts us) (bf ts fl gl) / 2 ^ ts.length) * ((2 ^ ts.length : Nat) : Int) = wI us gl (gp us gl) * ((2 ^ ts.length : Nat) : Int) := by omega
    exact Int.eq_of_mul_eq_mul_right (by omega) ke
  have el : wI ts fl (gp (bs ts us) (bf ts fl gl) % 2 ^ ts.length) = wI ts fl (gp ts fl) := by
    rw [eh] at m1
    omega
  have h1 : gp us gl ≤ gp (bs ts us) (bf ts fl gl) / 2 ^ ts.length := Nat.le_of_not_lt fun z => by have := w_first g gl z; omega
  have h2 : gp ts fl ≤ gp (bs ts us) (bf ts fl gl) % 2 ^ ts.length := Nat.le_of_not_lt fun z => by have := w_first ok fl z; omega
  have h3 := Nat.mul_le_mul_right (2 ^ ts.length) h1
  omega
theorem bs_lp (ok : Ts ts) (g : Ts us) (hf : fl < 2 ^ ts.length) (h : ts.length + us.length ≤ 100) : lp (bs ts us) (bf ts fl gl) = lp us gl * 2 ^ ts.length + lp ts fl := by
  have okb := bs_ok ok g h
  have lb := bs_len ts us
  have A0 := Nat.two_pow_pos ts.length
  have g1 := lp_lt ts fl
  have g2 := lp_lt us gl
  have g3 := lp_lt (bs ts us) (bf ts fl gl)
  rw [lb] at g3
  obtain ⟨e, my⟩ := parts_of (lp (bs ts us) (bf ts fl gl)) (2 ^ ts.length) A0
  have tx := top_lt g3
  have w1 := bs_way (gl := gl) ok g hf h (lp us gl) g1
  have w2 := bs_way (gl := gl) ok g hf h (lp (bs ts us) (bf ts fl gl) / 2 ^ ts.length) my
  rw [← e] at w2
  have cl := low_lt g2 g1
  have m1 := w_least okb (bf ts fl gl) (by rw [lb]; exact cl)
  have m2 := w_least ok fl my
  have m3 := w_least g gl tx
  have f1 : ¬ lp us gl * 2 ^ ts.length + lp ts fl < lp (bs ts us) (bf ts fl gl) := fun z => by
    have := w_firstl okb (bf ts fl gl) z
    rw [w1, w2] at this
    have k := Int.mul_le_mul_of_nonneg_right m3 (Int.natCast_nonneg (2 ^ ts.length))
    omega
  rw [w1, w2] at m1
  have k := Int.mul_le_mul_of_nonneg_right m3 (Int.natCast_nonneg (2 ^ ts.length))
  have eh : wI us gl (lp (bs ts us) (bf ts fl gl) / 2 ^ ts.length) = wI us gl (lp us gl) := by
    have ke : wI us gl (lp (bs ts us) (bf ts fl gl) / 2 ^ ts.length) * ((2 ^ ts.length : Nat) : Int) = wI us gl (lp us gl) * ((2 ^ ts.length : Nat) : Int) := by omega
    exact Int.eq_of_mul_eq_mul_right (by omega) ke
  have el : wI ts fl (lp (bs ts us) (bf ts fl gl) % 2 ^ ts.length) = wI ts fl (lp ts fl) := by
    rw [eh] at m1
    omega
  have h1 : lp us gl ≤ lp (bs ts us) (bf ts fl gl) / 2 ^ ts.length := Nat.le_of_not_lt fun z => by have := w_firstl g gl z; omega
  have h2 : lp ts fl ≤ lp (bs ts us) (bf ts fl gl) % 2 ^ ts.length := Nat.le_of_not_lt fun z => by have := w_firstl ok fl z; omega
  have h3 := Nat.mul_le_mul_right (2 ^ ts.length) h1
  omega
theorem ways_none (ok : Ts ts) (fl : Nat) : im (2 ^ ts.length) (wI ts fl) = 0 := by
  unfold wI
  rw [im_sub, im_go ok fl (fun p => (p : Int))]
  exact Int.sub_self _
theorem im_blocks (A : Nat) (f : Nat → Int) : ∀ B, im (B * A) f = im B fun x => im A fun y => f (x * A + y)
  | 0 => by rw [Nat.zero_mul]; rfl
  | B + 1 => by
    show _ = (im B fun x => im A fun y => f (x * A + y)) + im A fun y => f (B * A + y)
    rw [Nat.succ_mul, im_split, im_blocks A f B]
theorem bs_sq (ok : Ts ts) (g : Ts us) (hf : fl < 2 ^ ts.length) (h : ts.length + us.length ≤ 100) : sqs (bs ts us) (bf ts fl gl) = sqs ts fl * 2 ^ us.length + sqs us gl * 2 ^ (3 * ts.length) := by
  have okb := bs_ok ok g h
  have s := squares okb (bf ts fl gl)
  have s1 := squares ok fl
  have s2 := squares g gl
  have z1 := ways_none ok fl
  have bw := fun x y hy => bs_way (gl := gl) ok g hf h x (y := y) hy
  rw [bs_len, Nat.pow_add, Nat.mul_comm (2 ^ ts.length), im_blocks] at s
  rw [show (2 : Nat) ^ (3 * ts.length) = 2 ^ ts.length * 2 ^ ts.length * 2 ^ ts.length by rw [← Nat.pow_add, ← Nat.pow_add]; congr 1; omega]
  generalize (2 : Nat) ^ us.length = B at *
  generalize 2 ^ ts.length = A at *
  rw [im_congr (n := B) (g := fun x => ((A : Int) * (A : Int) * (A : Int)) * (wI us gl x ^ 2) + ((sqs ts fl : Nat) : Int)) fun x hx => by
    rw [im_congr (n := A) (g := fun y => ((wI us gl x * (A : Int)) * (wI us gl x * (A : Int)) + (2 * (wI us gl x * (A : Int))) * wI ts fl y) + wI ts fl y ^ 2) fun y hy => by
      rw [bw x y hy]
      grind, im_add, im_add, im_const, im_mul, z1, s1]
    grind, im_add, im_mul, s2, im_const] at s
  have e : ((sqs (bs ts us) (bf ts fl gl) : Nat) : Int) = ((sqs ts fl * B + sqs us gl * (A * A * A) : Nat) : Int) := by
    rw [← s]
    simp only [Int.natCast_add, Int.natCast_mul]
    grind
  omega
theorem bs_st (ok : Ts ts) (g : Ts us) (hf : fl < 2 ^ ts.length) (h : ts.length + us.length ≤ 100) : stN (bs ts us) (bf ts fl gl) (2 ^ (ts.length + us.length)) = stN us gl (2 ^ us.length) * stN ts fl (2 ^ ts.length) ∧ upN (bs ts us) (bf ts fl gl) (2 ^ (ts.length + us.length)) = upN us gl (2 ^ us.length) * 2 ^ ts.length + stN us gl (2 ^ us.length) * upN ts fl (2 ^ ts.length) := by
  have bw := fun x y hy => bs_way (gl := gl) ok g hf h x (y := y) hy
  have gy := fun y => go_lt ts fl y
  have A0 := Nat.two_pow_pos ts.length
  rw [Nat.pow_add, Nat.mul_comm (2 ^ ts.length)]
  have small : ∀ y, y < 2 ^ ts.length → -((2 ^ ts.length : Nat) : Int) < wI ts fl y ∧ wI ts fl y < ((2 ^ ts.length : Nat) : Int) := fun y hy => by
    have := gy y
    unfold wI
    omega
  generalize (2 : Nat) ^ us.length = B at *
  generalize 2 ^ ts.length = A at *
  have sg : ∀ x y, y < A → ((wI us gl x * (A : Int) + wI ts fl y = 0 ↔ wI us gl x = 0 ∧ wI ts fl y = 0) ∧ (0 < wI us gl x * (A : Int) + wI ts fl y ↔ 0 < wI us gl x ∨ wI us gl x = 0 ∧ 0 < wI ts fl y)) := fun x y hy => by
    have sm := small y hy
    generalize wI us gl x = u
    generalize wI ts fl y = v at *
    rcases Int.lt_trichotomy u 0 with c | c | c
    · have k := Int.mul_le_mul_of_nonneg_right (show u ≤ -1 by omega) (Int.natCast_nonneg A)
      have k2 : (-1 : Int) * (A : Int) = -(A : Int) := by omega
      rw [k2] at k
      constructor
      · constructor
        · intro z; omega
        · intro z; omega
      · constructor
        · intro z; omega
        · intro z; omega
    · rw [c]
      constructor
      · constructor
        · intro z; omega
        · intro z; omega
      · constructor
        · intro z; omega
        · intro z; omega
    · have k := Int.mul_le_mul_of_nonneg_right (show 1 ≤ u by omega) (Int.natCast_nonneg A)
      rw [Int.one_mul] at k
      constructor
      · constructor
        · intro z; omega
        · intro z; omega
      · constructor
        · intro z; omega
        · intro z; omega
  constructor
  · unfold stN
    rw [sm_blocks, sm_congr (n := B) (g := fun x => (sm A fun y => cc (wI ts fl y = 0)) * cc (wI us gl x = 0)) fun x hx => ?_, sm_mul, Nat.mul_comm]
    by_cases c : wI us gl x = 0
    · rw [cc_yes c, Nat.mul_one]
      exact sm_congr fun y hy => cc_congr (by rw [bw x y hy, (sg x y hy).1]; exact ⟨fun z => z.2, fun z => ⟨c, z⟩⟩)
    · rw [cc_no c, Nat.mul_zero]
      exact sm_zero fun y hy => cc_no (by rw [bw x y hy, (sg x y hy).1]; exact fun z => c z.1)
  · unfold upN stN
    rw [sm_blocks, sm_congr (n := B) (g := fun x => A * cc (0 < wI us gl x) + (sm A fun y => cc (0 < wI ts fl y)) * cc (wI us gl x = 0)) fun x hx => ?_, sm_add, sm_mul, sm_mul, Nat.mul_comm A, Nat.mul_comm (sm A fun y => cc (0 < wI ts fl y))]
    rcases Int.lt_trichotomy (wI us gl x) 0 with c | c | c
    · rw [cc_no (p := wI us gl x = 0) (by omega), cc_no (p := 0 < wI us gl x) (by omega)]
      exact sm_zero fun y hy => cc_no (by rw [bw x y hy, (sg x y hy).2]; omega)
    · rw [cc_yes (p := wI us gl x = 0) c, cc_no (p := 0 < wI us gl x) (by omega), Nat.mul_zero, Nat.zero_add, Nat.mul_one]
      exact sm_congr fun y hy => cc_congr (by rw [bw x y hy, (sg x y hy).2]; omega)
    · rw [cc_no (p := wI us gl x = 0) (by omega), cc_yes (p := 0 < wI us gl x) c, Nat.mul_zero, Nat.add_zero]
      rw [sm_congr (g := fun _ => 1) fun y hy => cc_yes (by rw [bw x y hy, (sg x y hy).2]; omega), sm_one, Nat.mul_one]
end
end G

/-! tuple[::-1]. -/
namespace G
open PySem PySem.Spec PyProof.Rows L2 M
theorem adjust_rev (n : Nat) : Builtin.Slice.sliceAdjust none none (-1) (n : Int) = ((n : Int) - 1, -1) := by
  unfold Builtin.Slice.sliceAdjust
  simp
theorem places_rev (n : Nat) : Builtin.Slice.slicePlaces ((n : Int) - 1) (-1) (-1) = n := by
  unfold Builtin.Slice.slicePlaces
  simp
  omega
theorem sliceApplied_rev {prog : Program} {w : World} {A : Around} {E : Value → Shared → Prop} {s : Shared} {sl : Addr} {vs : Value} {n : Nat} {Q : Int × Int × Nat → Shared → Prop} (hs : s.heap.IsSliceOf sl .none .none vs) (ps : IsPart vs (some (-1)))
    (h : Q ((n : Int) - 1, -1, n) s) : wpAny (model prog w) A (Builtin.Slice.sliceApplied (.ref sl) (pure (n : Int))) Q E s := by
  obtain ⟨os, hos, hcs, hds⟩ := hs
  unfold Builtin.Slice.sliceApplied
  refine wpAny_bind ?_
  unfold Builtin.Slice.sliceFields
  refine wpAny_bind (wpAny_field hos hds rfl (wpAny_bind (wpAny_field hos hds rfl (wpAny_bind (wpAny_field hos hds rfl (wpAny_pure (wpAny_bind (HT.slicePart_ ps ?_))))))))
  show wpAny (model prog w) A (if ((-1 : Int) == 0) = true then _ else _) Q E s
  rw [if_neg (by decide)]
  refine wpAny_bind (HT.slicePart_ IsPart.none (wpAny_bind (HT.slicePart_ IsPart.none (wpAny_bind (wpAny_pure ?_)))))
  show wpAny (model prog w) A (match Builtin.Slice.sliceAdjust none none (-1) (n : Int) with | (lo, hi) => pure (lo, -1, Builtin.Slice.slicePlaces lo hi (-1))) Q E s
  rw [adjust_rev]
  show wpAny (model prog w) A (pure (((n : Int) - 1, -1, Builtin.Slice.slicePlaces ((n : Int) - 1) (-1) (-1)))) Q E s
  rw [places_rev]
  exact wpAny_pure h
theorem pick_revT (xs : Array Value) : (List.filterMap (fun k : Nat => xs[(((xs.size : Int) - 1) + (k : Int) * -1).toNat]?) (List.range xs.size)) = xs.toList.reverse := by
  have e : ∀ k, k ≤ xs.size → (List.range k).filterMap (fun k : Nat => xs[(((xs.size : Int) - 1) + (k : Int) * -1).toNat]?) = xs.toList.reverse.take k := fun k => by
    induction k with
    | zero => exact fun _ => rfl
    | succ k ih =>
      intro hk
      rw [List.range_succ, List.filterMap_append, ih (by omega), List.take_succ, List.getElem?_reverse (by rw [Array.length_toList]; omega)]
      congr 1
      have one : ∀ (f : Nat → Option Value), [k].filterMap f = (f k).toList := fun f => by
        rw [List.filterMap_cons]
        cases f k <;> rfl
      rw [one, Array.length_toList, Array.getElem?_toList]
      show (xs[(((xs.size : Int) - 1) + (k : Int) * -1).toNat]?).toList = _
      rw [show (((xs.size : Int) - 1) + (k : Int) * -1).toNat = xs.size - 1 - k by omega]
  rw [e _ (Nat.le_refl _), List.take_of_length_le (by rw [List.length_reverse, Array.length_toList]; exact Nat.le_refl _)]
theorem getItem_tuple_rev {prog : Program} {w : World} {A : Around} {E : Value → Shared → Prop} {s : Shared} {t sl : Addr} {items : Array Value} {vs : Value} {Q : Value → Shared → Prop} (ht : IsTup s.heap t items) (hs : s.heap.IsSliceOf sl .none .none vs) (ps : IsPart vs (some (-1)))
    (h : Q (.ref s.heap.objs.size) { s with heap := s.heap.push { cls := .type "tuple", data := .seq items.toList.reverse.toArray } }) (hsz : items.size ≤ sizeLine) : wpAny (model prog w) A (getItem (.ref t) (.ref sl)) Q E s := by
  have htake : items.toList.reverse.toArray.size ≤ sizeLine := by simp; exact hsz
  obtain ⟨os, hos, hcs, hds⟩ := hs
  have hTs : s.TypeIs (.ref sl) "slice" := ⟨os, hos, hcs⟩
  unfold getItem
  refine wpAny_holding (wpAny_bind (wpAny_sequenceKey (IsTup.typeIs ht) (by decide) (wpAny_bind (wpAny_callSpecial?_slot (IsTup.typeIs ht) slot_tuple_getitem (wpAny_call_entry slot_tuple_getitem (IsTup.typeIs ht) entry_tuple_getitem ?_ (args_tuple_getitem (.ref t) (.ref sl)))))))
  show wpAny (model prog w) A.in1 (do
      let xs ← Builtin.Tuple.tupleItemsOf (.ref t)
      _) _ E s
  refine wpAny_bind (tupleItemsOf_ ht (wpAny_bind (wpAny_typeOf hTs ?_)))
  rw [if_pos (by decide)]
  refine wpAny_bind (sliceApplied_rev ⟨os, hos, hcs, hds⟩ ps ?_)
  dsimp only
  rw [if_neg (by simp)]
  rw [pick_revT]
  refine wpAny_bind (wpAny_newObj_type (wpAny_pure ⟨_, rfl, wpAny_pure h⟩) htake)
/-- text of a tuple, backwards -/
def tRevT (K : PySem.W.Frag) (te : TE) : TE := fun σ H Q => te σ H fun x H1 => ∃ a xs, x = V.ref a ∧ SqT K H1 a xs ∧ xs.length ≤ sizeLine ∧ ∀ p, H1 p = none → Q (.ref p) (upd H1 p (.tup xs.reverse))
theorem pe_revT {X : Cx} {K0 : PySem.W.Frag} {e : Expr} {te : TE} {k : Nat} {p1 p2 p3 pos : Pos} (he : PE X e te) (hK : X.K = K0 := by rfl) : PE X (.Subscript e (.Slice none none (some (.UnaryOp .USub (.Constant (.int 1) k p1) p2)) p3) pos) (tRevT K0 te) := by
  subst hK
  refine ⟨fun pins s σ H Q I h => ?_⟩
  refine Subscript_ (thn (he.run pins s σ H _ I h) fun v s1 hh => ?_)
  obtain ⟨x, H1, I1, r1, a, xs, rfl, hx, hsz, q⟩ := hh
  cases (show v = Value.ref a from r1)
  have hst : PO X (some (.UnaryOp .USub (.Constant (.int 1) k p1) p2)) (tPart (tUn (rU fun i => .int (-i)) (tC (.int 1)))) := po_some (pe_un un_neg pe_int)
  refine wpAny_Slice (thn (po_none.run pins s1 σ H1 (fun o H2 => o = none ∧ H2 = H1) I1 ⟨rfl, rfl⟩) fun vl s2 h2 => ?_)
  obtain ⟨l, H2, I2, pl, rfl, rfl⟩ := h2
  refine thn (po_none.run pins s2 σ H2 (fun o H3 => o = none ∧ H3 = H2) I2 ⟨rfl, rfl⟩) fun vu s3 h3 => ?_
  obtain ⟨u, H3, I3, pu, rfl, rfl⟩ := h3
  refine thn (hst.run pins s3 σ H3 (fun o H4 => o = some (-1) ∧ H4 = H3) I3 ⟨1, rfl, -1, rfl, rfl, rfl⟩) fun vs s4 h4 => ?_
  obtain ⟨o, H4, I4, ps, rfl, rfl⟩ := h4
  have I5 : L2.Inv X pins σ H4 { s4 with heap := s4.heap.push { cls := .type "slice", data := .fields #[vl, vu, vs] } } := I4.kept (t' := s4.toks) fun b ob w => Heap.get?_push_of_some _ w
  cases pl
  cases pu
  obtain ⟨its, rv, ht, _⟩ := I5.tuple hx
  have len := rv.length
  refine tail_any (ops := [.ref a, .ref s4.heap.objs.size]) (IsTup.typeIs ht) PySem.F.slot_tuple_getitem.lookup ?_ (by with_unfolding_all rfl)
  refine getItem_tuple_rev ht ⟨_, Heap.get?_push_size _ rfl, rfl, rfl⟩ ps ?_ (by rw [List.size_toArray]; omega)
  have rr : Vals xs.reverse its.reverse := rv.reverse
  have hf := I5.fresh
  exact ⟨.ref _, _, I5.laid (o := .tup xs.reverse) (t' := s4.toks) (fun b u e => Heap.get?_push_of_some _ e) (Nat.le_refl _) ⟨by rw [List.length_reverse]; exact hsz, its.reverse, rr, _, Heap.get?_push_size _ rfl, rfl, 0, by simp⟩, rfl, q _ hf⟩
theorem g_revT {K : PySem.W.Frag} {te : TE} {σ : L2.St} {H : Hp} {Q : VK} (h : te σ H fun x H1 => ∃ a xs, x = V.ref a ∧ SqT K H1 a xs ∧ xs.length ≤ sizeLine ∧ ∀ p, H1 p = none → Q (.ref p) (upd H1 p (.tup xs.reverse))) : tRevT K te σ H Q := h
theorem cshl_int {b : Int} {a n : Nat} (hb : b.natAbs < 2 ^ a) (ha : a ≤ 1000) (h : n ≤ 1000) : CShl b (n : Int) := by
  have e : Builtin.Int.intBits b ≤ a := PyProof.Rows.intBits_le hb
  refine ⟨Int.natCast_nonneg n, ?_⟩
  omega
section
variable {D : Ends} {σ : L2.St} {H : Hp} {tb : TS} {K : PySem.W.Frag} {xs : List V} {a : Addr}
/-- for x, y, z in a tuple of triples: slots c, d and f -/
theorem u_tuple3 {c d f n : Nat} (hx : SqT K H a xs) (Pv : Nat → L2.St → Hp → Prop) (h0 : Pv 0 σ H) (hG : ∀ i σ H, i ≤ xs.length → Pv i σ H → SqT K H a xs)
    (hs : ∀ i x σ H, xs[i]? = some x → Pv i σ H → ∃ (T : Addr) (u v w : V), x = .ref T ∧ SqT K H T [u, v, w] ∧ tb { D with nx := Pv (i + 1), ct := Pv (i + 1), bk := D.nx } (((σ.set c (some u)).set d (some v)).set f (some w)) H) (hd : ∀ σ H, Pv xs.length σ H → D.nx σ H) (hn : n = 3 := by rfl) :
    ∃ a', V.ref a = .ref a' ∧ (∃ xs, SqT K H a' xs) ∧ ForW (gTup K n (gCons (gName c) (gCons (gName d) (gCons (gName f) gNil)))) tb D σ (Itt K a') H := by
  subst hn
  refine ⟨a, rfl, ⟨xs, hx⟩, for_it walk_tup Pv h0 hG (fun i v σ H H' hi p y => ?_) hd⟩
  obtain ⟨rfl, e⟩ := y
  obtain ⟨T, u, w, z, rfl, hT, q⟩ := hs i v σ _ e p
  exact ⟨T, _, rfl, hT, rfl, _, _, rfl, _, _, rfl, _, _, rfl, rfl, q⟩
end
theorem sqs_400 {ts : List Nat} (ok : Ts ts) (fl : Nat) : sqs ts fl < 2 ^ 400 := by
  have h1 := sq4_lt ok fl
  have p : 2 ^ ts.length ≤ 2 ^ 100 := Nat.pow_le_pow_right (by decide) ok.most
  have m : sq4 ts fl * 2 ^ ts.length ≤ 2 ^ 300 * 2 ^ 100 := Nat.mul_le_mul (by omega) p
  have big : 2 ^ 300 * 2 ^ 100 = 2 ^ 400 := by decide +kernel
  rw [big] at m
  have pos : 0 < 2 ^ 400 := by decide +kernel
  unfold sqs
  revert m pos
  generalize 2 ^ 400 = Z
  generalize sq4 ts fl * 2 ^ ts.length = Y
  intro m pos
  omega
theorem ord_id {ts : List Nat} {fl : Nat} {cs : List (List Nat)} (ok : Ts ts) (g : Good ts cs) : pT ts fl ((ordAll fl cs : Nat) : Int) = List.range ts.length ∧ pF ts fl ((ordAll fl cs : Nat) : Int) = 0 := by
  have h := (order_iff (fl := fl) ok g ((ordAll fl cs : Nat) : Int)).mp (by rw [Int.natAbs_natCast]; exact Nat.dvd_refl _)
  have e1 : pT ts fl ((ordAll fl cs : Nat) : Int) = List.range ts.length := by
    unfold pT
    rw [List.map_congr_left (g := id) fun e he => by rw [h e (List.mem_range.mp he)]; rfl, List.map_id]
  refine ⟨e1, ?_⟩
  unfold pF
  rw [e1, nb_sm]
  refine sm_zero fun t ht => ?_
  rw [(ts_range ok.one ok.most).idx_get (List.getElem?_range ht), h t ht]
  rfl
theorem ord_sq {ts : List Nat} {fl : Nat} {cs : List (List Nat)} (ok : Ts ts) (g : Good ts cs) : sqs (pT ts fl ((ordAll fl cs : Nat) : Int)) (pF ts fl ((ordAll fl cs : Nat) : Int)) = 0 := by
  refine (sq_zero (pT_ok ok _) (pF_lt' _)).mpr ?_
  obtain ⟨e1, e2⟩ := ord_id (fl := fl) ok g
  exact ⟨by rw [pT_len]; exact e1, e2⟩
end G

/-! Exchanges and passes. -/
namespace G
open PySem PySem.Spec PyProof.Rows L2 M
/-- how many times two neighbours are exchanged -/
def nsw (ts : List Nat) : Nat := sm ts.length fun e => cr ts e
def leaves (ts : List Nat) (fl : Nat) : Bool := decide (fl = 0 ∧ ts = List.range ts.length)
/-- the fewest passes, None where there are none -/
def fewV (ts : List Nat) (fl low mem : Nat) : V :=
  if leaves ts fl then .int 0 else if (ups ts low).length = 0 then .int 1 else if mem = low then .non else .int (((((ups ts low).length + (mem - low) - 1) / (mem - low) : Nat)) : Int)
abbrev sp_swap_count (K : PySem.W.Frag) (C : Addr) : Sp := sp1 fun a H Q => ∃ ts fl, IsT C H a ts fl ∧ ∀ cs H', Ext H H' → Good ts cs → cs.length ≤ ts.length → Q (.int ((ts.length : Int) - (cs.length : Int))) H'
abbrev sp_neighbour_swaps (K : PySem.W.Frag) (C : Addr) : Sp := sp1 fun a H Q => ∃ ts fl, IsT C H a ts fl ∧ ∀ H', Ext H H' → Q (.int ((nsw ts : Nat) : Int)) H'
abbrev sp_leaves_all (K : PySem.W.Frag) (C : Addr) : Sp := sp1 fun a H Q => ∃ ts fl, IsT C H a ts fl ∧ ∀ H', Ext H H' → Q (.bl (leaves ts fl)) H'
abbrev sp_check_memory_bits (K : PySem.W.Frag) : Sp := sp3 fun a b c H Q => ∃ (m p n : Nat), a = .int (m : Int) ∧ b = .int (p : Int) ∧ c = .int (n : Int) ∧ p ≤ m ∧ m ≤ n ∧ Q .non H
abbrev sp_fewest_passes (K : PySem.W.Frag) (C : Addr) : Sp := sp3 fun a b c H Q => ∃ ts fl low mem, IsT C H a ts fl ∧ b = .int (low : Nat) ∧ c = .int (mem : Nat) ∧ low ≤ mem ∧ mem ≤ ts.length ∧ ∀ H', Ext H H' → Q (fewV ts fl low mem) H'
section
variable {ts us : List Nat} {fl gl low : Nat}
theorem ups_sm (ts : List Nat) (low : Nat) : ∀ k, k ≤ ts.length → ((ts.take k).filter fun t => decide (low ≤ t)).length = sm k fun b => cc (low ≤ tb ts b)
  | 0, _ => rfl
  | k + 1, h => by
    rw [ups_snoc (low := low) (show ts[k]? = some (tb ts k) from getD_some (by omega)), List.length_append, ups_sm ts low k (by omega)]
    show _ = (sm k fun b => cc (low ≤ tb ts b)) + cc (low ≤ tb ts k)
    congr 1
    by_cases c : low ≤ tb ts k
    · rw [if_pos c, cc_yes c]
      rfl
    · rw [if_neg c, cc_no c]
      rfl
theorem ups_count (h : low ≤ ts.length) : (ups ts low).length = sm ts.length fun b => cc (b < low ∧ low ≤ tb ts b) := by
  have e := ups_sm ts low low h
  unfold ups
  rw [e, sm_trunc h fun i h1 _ => cc_no fun z => by omega]
  exact sm_congr fun i hi => cc_congr ⟨fun z => ⟨hi, z⟩, fun z => z.2⟩
theorem bk_tb (ok : Ts ts) (hf : fl < 2 ^ ts.length) {e : Nat} (he : e < ts.length) : tb (bkT ts fl) (tb ts e) = e := by
  have h := (there_back (fl := fl) ok hf).1
  have g := cT_get (us := bkT ts fl) (show ts[e]? = some (tb ts e) from getD_some he)
  rw [h, List.getElem?_range he] at g
  exact (Option.some.inj g).symm
theorem ups_bk (ok : Ts ts) (hf : fl < 2 ^ ts.length) (h : low ≤ ts.length) : (ups (bkT ts fl) low).length = (ups ts low).length := by
  have lb : (bkT ts fl).length = ts.length := pT_len _
  rw [ups_count (by rw [lb]; exact h), ups_count h, lb, sm_perm (ts_perm ok)]
  have a : (sm ts.length fun e => cc (tb ts e < low)) = sm ts.length fun e => cc (e < low) := (sm_perm (ts_perm ok) fun e => cc (e < low)).symm
  have s1 : (sm ts.length fun e => cc (tb ts e < low)) = (sm ts.length fun e => cc (tb ts e < low ∧ e < low)) + sm ts.length fun e => cc (tb ts e < low ∧ low ≤ e) := by
    rw [← sm_add]
    refine sm_congr fun e _ => ?_
    unfold cc
    by_cases x : tb ts e < low <;> by_cases y : e < low <;> simp [x, y] <;> omega
  have s2 : (sm ts.length fun e => cc (e < low)) = (sm ts.length fun e => cc (tb ts e < low ∧ e < low)) + sm ts.length fun e => cc (e < low ∧ low ≤ tb ts e) := by
    rw [← sm_add]
    refine sm_congr fun e _ => ?_
    unfold cc
    by_cases x : tb ts e < low <;> by_cases y : e < low <;> simp [x, y] <;> omega
  have s3 : (sm ts.length fun i => cc (ts.getD i 0 < low ∧ low ≤ tb (bkT ts fl) (ts.getD i 0))) = sm ts.length fun e => cc (tb ts e < low ∧ low ≤ e) := sm_congr fun e he => by
    have := bk_tb ok hf he
    show cc (tb ts e < low ∧ low ≤ tb (bkT ts fl) (tb ts e)) = _
    rw [this]
  rw [s3]
  omega
theorem leaves_iff (ok : Ts ts) (hf : fl < 2 ^ ts.length) : leaves ts fl = decide (sqs ts fl = 0) := decide_eq_decide.mpr (by rw [sq_zero ok hf]; exact And.comm)
theorem leaves_bk (ok : Ts ts) (hf : fl < 2 ^ ts.length) : leaves (bkT ts fl) (bkF ts fl) = leaves ts fl := by
  rw [leaves_iff ok hf, leaves_iff (pT_ok ok _) (pF_lt' _)]
  rw [bk_sq ok fl]
theorem few_bk (ok : Ts ts) (hf : fl < 2 ^ ts.length) (h : low ≤ ts.length) (mem : Nat) : fewV (bkT ts fl) (bkF ts fl) low mem = fewV ts fl low mem := by
  unfold fewV
  rw [leaves_bk ok hf, ups_bk ok hf h]
/-- rotations -/
theorem tb_tr {r c b : Nat} (h : b < r + c) : tb (tr (r + c) r) b = if b < c then b + r else b - c := by
  have g := tr_get (n := r + c) (k := r) h
  have e := getD_some (show b < (tr (r + c) r).length by rw [tr_len]; exact h)
  rw [g] at e
  rw [show tb (tr (r + c) r) b = (b + r) % (r + c) from (Option.some.inj e).symm]
  by_cases k : b < c
  · rw [if_pos k, Nat.mod_eq_of_lt (by omega)]
  · rw [if_neg k, show b + r = (b - c) + (r + c) by omega, Nat.add_mod_right, Nat.mod_eq_of_lt (by omega)]
theorem cr_tr {r c e : Nat} (h : e < r + c) : cr (tr (r + c) r) e = if e < c then r else 0 := by
  unfold cr oth
  rw [tb_tr h]
  by_cases k : e < c
  · rw [if_pos k, if_pos k, sm_congr (g := fun _ => 1) fun i hi => by
      rw [tb_tr (show i < r + c by omega), if_pos (show i < c by omega), if_pos (show i + r < e + r by omega)], sm_one]
    omega
  · rw [if_neg k, if_neg k]
    obtain ⟨d, rfl⟩ : ∃ d, e = c + d := ⟨e - c, by omega⟩
    rw [sm_split, sm_zero fun i hi => by
      rw [tb_tr (show i < r + c by omega), if_pos hi, if_neg (show ¬ i + r < c + d - c by omega)], sm_congr (g := fun _ => 1) fun i hi => by
      rw [tb_tr (show c + i < r + c by omega), if_neg (show ¬ c + i < c by omega), if_pos (show c + i - c < c + d - c by omega)], sm_one]
    omega
theorem nsw_tr (r c : Nat) : nsw (tr (r + c) r) = r * c := by
  unfold nsw
  rw [tr_len, Nat.add_comm r c, sm_split]
  rw [Nat.add_comm c r]
  rw [sm_congr (n := c) (g := fun _ => r) fun e he => by rw [cr_tr (by omega), if_pos he], sm_congr (n := r) (g := fun _ => 0) fun e he => by rw [cr_tr (by omega), if_neg (by omega)], sm_const, sm_const, Nat.mul_comm c r]
  omega
/-- beside one another -/
theorem tb_bs_lo (h : b < ts.length) : tb (bs ts us) b = tb ts b := by
  have g := bs_lo (us := us) h
  have e := getD_some (show b < (bs ts us).length by rw [bs_len]; omega)
  have e2 := getD_some h
  rw [g, e2] at e
  exact (Option.some.inj e).symm
theorem tb_bs_hi {b : Nat} (h : b < us.length) : tb (bs ts us) (ts.length + b) = ts.length + tb us b := by
  have g := bs_hi (ts := ts) (us := us) b
  have e := getD_some (show ts.length + b < (bs ts us).length by rw [bs_len]; omega)
  have e2 := getD_some h
  rw [g, e2] at e
  exact (Option.some.inj e).symm
theorem nsw_bs (ok : Ts ts) : nsw (bs ts us) = nsw ts + nsw us := by
  unfold nsw
  rw [bs_len, sm_split]
  congr 1
  · refine sm_congr fun e he => ?_
    unfold cr oth
    rw [tb_bs_lo he]
    congr 1
    exact sm_congr fun i hi => by rw [tb_bs_lo (by omega)]
  · refine sm_congr fun e he => ?_
    unfold cr oth
    rw [tb_bs_hi he, sm_split, sm_congr (n := ts.length) (g := fun _ => 1) fun i hi => by rw [tb_bs_lo hi, if_pos (by have := tb_lt ok hi; omega)], sm_one]
    rw [sm_congr (n := e) (g := fun h => if tb us h < tb us e then 1 else 0) fun i hi => by
      rw [tb_bs_hi (by omega)]
      by_cases c : tb us i < tb us e
      · rw [if_pos c, if_pos (by omega)]
      · rw [if_neg c, if_neg (by omega)]]
    omega
theorem fls_none (c : List Nat) : (fls 0 c).sum = 0 := by
  unfold fls
  induction c with
  | nil => rfl
  | cons a c ih =>
    rw [List.map_cons, List.sum_cons, ih, Nat.zero_testBit]
    rfl
theorem leftAll_none : ∀ cs : List (List Nat), leftAll 0 cs 1 = 2 ^ cs.length
  | [] => rfl
  | c :: cs => by
    rw [leftAll_cons, left_one, fls_none, leftAll_none cs, List.length_cons, Nat.pow_succ, Nat.mul_comm]
    rfl
theorem cyc_many (ok : Ts ts) {cs : List (List Nat)} (g : Good ts cs) : stN ts 0 (2 ^ ts.length) = 2 ^ cs.length := by
  rw [stN_fix ok 0 (fun c hc => (g.cy c hc).1) g.pm, leftAll_none]
theorem cyc_bs (ok : Ts ts) (g : Ts us) (h : ts.length + us.length ≤ 100) {cs ds es : List (List Nat)} (gc : Good ts cs) (gd : Good us ds) (ge : Good (bs ts us) es) : es.length = cs.length + ds.length := by
  have b := (bs_st (fl := 0) (gl := 0) ok g (Nat.two_pow_pos _) h).1
  have f : bf ts 0 0 = 0 := by unfold bf; simp
  have k := cyc_many (bs_ok ok g h) ge
  rw [bs_len] at k
  rw [f, k, cyc_many ok gc, cyc_many g gd, ← Nat.pow_add] at b
  have := (Nat.pow_right_inj (show 1 < 2 by decide)).mp b
  omega
theorem ups_bs_lo (h : low ≤ ts.length) : ups (bs ts us) low = ups ts low := by
  unfold ups bs
  rw [List.take_append_of_le_length h]
theorem ups_bs_hi (ok : Ts ts) (high : Nat) : (ups (bs ts us) (ts.length + high)).length = (ups us high).length := by
  unfold ups bs
  rw [List.take_append, List.take_of_length_le (by omega), Nat.add_sub_cancel_left, List.filter_append, List.filter_eq_nil_iff.mpr (fun t ht => by have := ok.lt t ht; simp; omega), List.nil_append, ← List.map_take, List.filter_map, List.length_map]
  congr 1
  refine List.filter_congr fun t _ => ?_
  show decide (ts.length + high ≤ ts.length + t) = _
  exact decide_eq_decide.mpr (by omega)
theorem ceil_div {u d : Nat} (hd : 0 < d) : -((-(u : Int)) / (d : Int)) = (((u + d - 1) / d : Nat) : Int) := by
  have e := Nat.div_add_mod (u + d - 1) d
  have m := Nat.mod_lt (u + d - 1) hd
  have k := (Int.ediv_emod_unique (a := -(u : Int)) (b := (d : Int)) (r := (d : Int) - 1 - (((u + d - 1) % d : Nat) : Int)) (q := -(((u + d - 1) / d : Nat) : Int)) (by omega)).mpr ⟨by
    have e2 : (d : Int) * (((u + d - 1) / d : Nat) : Int) + (((u + d - 1) % d : Nat) : Int) = (u : Int) + (d : Int) - 1 := by
      have := congrArg (Int.ofNat) e
      simp only [Int.ofNat_eq_natCast, Int.natCast_add, Int.natCast_mul] at this
      rw [this]
      omega
    rw [Int.mul_neg]
    omega, by omega, by omega⟩
  rw [k.1]
  omega
theorem g_pick2 {b : Bool} {x y : V} {σ : L2.St} {H : Hp} {Q : VK} (h : Q (if b = true then x else y) H) : (if b = true then tC x σ H Q else tC y σ H Q) := by
  cases b <;> exact h
theorem ups_range (n low : Nat) (h : low ≤ n) : (ups (List.range n) low).length = 0 := by
  have e : ups (List.range n) low = [] := by
    unfold ups
    rw [List.filter_eq_nil_iff]
    intro t ht
    have hm : t < low := by
      obtain ⟨i, hi⟩ := List.mem_iff_getElem?.mp ht
      rw [List.getElem?_take] at hi
      split at hi
      · rename_i c
        rw [List.getElem?_range (by omega)] at hi
        cases hi
        exact c
      · cases hi
    simp
    omega
  rw [e]
  rfl
theorem leaves_ups (h : low ≤ ts.length) (l : leaves ts fl = true) : (ups ts low).length = 0 := by
  have := (of_decide_eq_true l).2
  rw [this]
  exact ups_range _ _ h
theorem leaves_tr {r c : Nat} (hc : 1 ≤ c) : leaves (tr (r + c) r) 0 = decide (r = 0) := by
  refine decide_eq_decide.mpr ⟨fun z => ?_, fun z => ⟨rfl, ?_⟩⟩
  · have e := z.2
    rw [tr_len] at e
    have g := tr_get (n := r + c) (k := r) (b := 0) (by omega)
    rw [e, List.getElem?_range (by omega), Nat.zero_add, Nat.mod_eq_of_lt (by omega)] at g
    exact (Option.some.inj g).symm
  · subst z
    rw [tr_len, Nat.zero_add]
    unfold tr
    refine Eq.trans (List.map_congr_left fun b hb => ?_) (List.map_id _)
    rw [Nat.add_zero, Nat.mod_eq_of_lt (List.mem_range.mp hb)]
    rfl
/-- the law's own list of those that climb -/
def upl (r c low i : Nat) : List Nat := (List.range i).filter fun b => decide (low ≤ if b < c then b + r else b - c)
theorem upl_succ (r c low i : Nat) : upl r c low (i + 1) = upl r c low i ++ (if low ≤ (if i < c then i + r else i - c) then [i] else []) := by
  unfold upl
  rw [List.range_succ, List.filter_append]
  congr 1
  by_cases h : low ≤ if i < c then i + r else i - c
  · rw [if_pos h, List.filter_cons, decide_eq_true h]
    rfl
  · rw [if_neg h, List.filter_cons, decide_eq_false h]
    rfl
theorem upl_len (r c low i : Nat) : (upl r c low i).length ≤ i := Nat.le_trans (List.length_filter_le _ _) (by rw [List.length_range]; exact Nat.le_refl _)
theorem upl_sm (r c low : Nat) : ∀ i, (upl r c low i).length = sm i fun b => cc (low ≤ if b < c then b + r else b - c)
  | 0 => rfl
  | i + 1 => by
    rw [upl_succ, List.length_append, upl_sm r c low i]
    show _ = (sm i fun b => cc (low ≤ if b < c then b + r else b - c)) + cc (low ≤ if i < c then i + r else i - c)
    congr 1
    unfold cc
    by_cases h : low ≤ if i < c then i + r else i - c
    · rw [if_pos h, if_pos h]; rfl
    · rw [if_neg h, if_neg h]; rfl
theorem upl_is {r c low : Nat} (h : low ≤ r + c) : (upl r c low low).length = (ups (tr (r + c) r) low).length := by
  have e := ups_sm (tr (r + c) r) low low (by rw [tr_len]; exact h)
  unfold ups
  rw [e, upl_sm]
  exact sm_congr fun b hb => by rw [tb_tr (show b < r + c by omega)]
theorem few_scal (low mem : Nat) : scal (fewV ts fl low mem) (fewV ts fl low mem) = true := by
  unfold fewV
  split
  · rfl
  · split
    · rfl
    · split <;> rfl
end
end G

/-! Texts of turns, many at a time. -/
namespace G
open PySem PySem.Spec PyProof.Rows L2 M
theorem nT_inj {m n : Nat} (hm : m < 10 ^ 100) (hn : n < 10 ^ 100) (e : nT m = nT n) : m = n := by
  have h1 := (nT_int hm).1
  have h2 := (nT_int hn).1
  rw [e, h2] at h1
  have := Option.some.inj h1
  omega
theorem showT_split2 (ts : List Nat) (fl : Nat) : Txt.split (showT ts fl) (Str.ofString "; ") = [joinT ts, nT fl] := by
  rw [showT_S, joinT_S, nT_S, show Str.ofString "; " = SX.S [59, 32] by decide +kernel, SX.split_S (by decide) (by decide)]
  have j : TL.joinL [32] (ts.map TL.numL) ++ (59 :: [32] ++ TL.numL fl) = TL.joinL (59 :: [32]) [TL.joinL [32] (ts.map TL.numL), TL.numL fl] := by
    simp [TL.joinL]
  rw [j, SX.spl_join (by simp) (fun p hp => ?_)]
  · rfl
  · rcases List.mem_cons.mp hp with rfl | hp
    · exact joinL_free (.inr (by decide)) (by decide) ts
    · rw [List.mem_singleton.mp hp]
      exact TL.numL_free (.inr (by decide))
theorem small_num {ts : List Nat} (ok : Ts ts) {t : Nat} (h : t ∈ ts) : t < 10 ^ 100 := by
  have := ok.lt t h
  have := ok.most
  have e : 100 < 10 ^ 100 := by decide +kernel
  omega
theorem flips_num {ts : List Nat} {fl : Nat} (ok : Ts ts) (h : fl < 2 ^ ts.length) : fl < 10 ^ 100 := by
  have m : 2 ^ ts.length ≤ 2 ^ 100 := Nat.pow_le_pow_right (by decide) ok.most
  have e : 2 ^ 100 < 10 ^ 100 := by decide +kernel
  omega
theorem map_nT_inj : ∀ {l m : List Nat}, (∀ t ∈ l, t < 10 ^ 100) → (∀ t ∈ m, t < 10 ^ 100) → l.map nT = m.map nT → l = m
  | [], [], _, _, _ => rfl
  | [], b :: m, _, _, e => by cases e
  | a :: l, [], _, _, e => by cases e
  | a :: l, b :: m, h1, h2, e => by
    have e1 := (List.cons.inj e).1
    have e2 := (List.cons.inj e).2
    rw [nT_inj (h1 a List.mem_cons_self) (h2 b List.mem_cons_self) e1, map_nT_inj (fun t ht => h1 t (List.mem_cons_of_mem _ ht)) (fun t ht => h2 t (List.mem_cons_of_mem _ ht)) e2]
theorem ne_nil {ts : List Nat} (ok : Ts ts) : ts ≠ [] := fun z => by
  have := ok.one
  rw [z] at this
  simp at this
theorem showT_inj {ts us : List Nat} {fl gl : Nat} (ok : Ts ts) (g : Ts us) (hf : fl < 2 ^ ts.length) (hg : gl < 2 ^ us.length) : showT ts fl = showT us gl ↔ ts = us ∧ fl = gl := by
  constructor
  · intro e
    have a := showT_split2 ts fl
    rw [e, showT_split2] at a
    have e1 := (List.cons.inj a).1
    have e2 := (List.cons.inj (List.cons.inj a).2).1
    have s1 := show_split (ne_nil ok)
    rw [← e1, show_split (ne_nil g)] at s1
    exact ⟨(map_nT_inj (fun t ht => small_num g ht) (fun t ht => small_num ok ht) s1).symm, (nT_inj (flips_num g hg) (flips_num ok hf) e2).symm⟩
  · rintro ⟨rfl, rfl⟩
    rfl
/-- turns one after the other -/
structure Tn (n : Nat) (w : List Nat × Nat) : Prop where
  ok : Ts w.1
  len : w.1.length = n
  fl : w.2 < 2 ^ w.1.length
def Tus (C r : Addr) (H : Hp) (as : List Addr) (ws : List (List Nat × Nat)) : Prop := as.length = ws.length ∧ ∀ (i : Nat) (w : List Nat × Nat), ws[i]? = some w → ∃ a l : Addr, as[i]? = some a ∧ TurnAt C H a l w.1 w.2 ∧ l ≠ r
theorem Tus.ext {C r : Addr} {H H' : Hp} {as : List Addr} {ws : List (List Nat × Nat)} (t : Tus C r H as ws) (e : Ext H H') : Tus C r H' as ws := ⟨t.1, fun i w h => by
  obtain ⟨a, l, h1, h2, h3⟩ := t.2 i w h
  exact ⟨a, l, h1, h2.ext e, h3⟩⟩
theorem Tus.stp {C r : Addr} {H H' : Hp} {as : List Addr} {ws : List (List Nat × Nat)} {xs : List V} (t : Tus C r H as ws) (e : Stp r H H') (hr : H r = some (.lst xs)) : Tus C r H' as ws := ⟨t.1, fun i w h => by
  obtain ⟨a, l, h1, h2, h3⟩ := t.2 i w h
  exact ⟨a, l, h1, h2.stp e hr h3, h3⟩⟩
theorem Tus.nil (C r : Addr) (H : Hp) : Tus C r H [] [] := ⟨rfl, fun i w h => by cases h⟩
theorem Tus.cons {C r : Addr} {H : Hp} {as : List Addr} {ws : List (List Nat × Nat)} {a l : Addr} {ts : List Nat} {fl : Nat} (h : TurnAt C H a l ts fl) (n : l ≠ r) (t : Tus C r H as ws) : Tus C r H (a :: as) ((ts, fl) :: ws) := ⟨by rw [List.length_cons, List.length_cons, t.1], fun i w e => by
  cases i with
  | zero =>
    cases e
    exact ⟨a, l, rfl, h, n⟩
  | succ i =>
    obtain ⟨a', l', h1, h2, h3⟩ := t.2 i w e
    exact ⟨a', l', h1, h2, h3⟩⟩
theorem Tus.at {C r : Addr} {H : Hp} {as : List Addr} {ws : List (List Nat × Nat)} (t : Tus C r H as ws) {i : Nat} {v : V} (h : (as.map V.ref)[i]? = some v) : ∃ (a l : Addr) (w : List Nat × Nat), v = .ref a ∧ ws[i]? = some w ∧ TurnAt C H a l w.1 w.2 := by
  rw [List.getElem?_map] at h
  obtain ⟨a, ha, rfl⟩ := Option.map_eq_some_iff.mp h
  have hi := (List.getElem?_eq_some_iff.mp ha).1
  obtain ⟨w, hw⟩ : ∃ w, ws[i]? = some w := ⟨_, List.getElem?_eq_getElem (by rw [← t.1]; exact hi)⟩
  obtain ⟨a', l, e, at_, _⟩ := t.2 i w hw
  rw [ha] at e
  cases e
  exact ⟨a, l, w, rfl, hw, at_⟩
theorem rep_wd {k : Nat} (h1 : 1 ≤ k) (h2 : k ≤ 100) : Wd ⟨(List.replicate k 120).toArray⟩ := by
  refine ⟨by show 1 ≤ (List.replicate k 120).toArray.size; rw [List.size_toArray, List.length_replicate]; exact h1, by show (List.replicate k 120).toArray.size ≤ 100; rw [List.size_toArray, List.length_replicate]; exact h2, fun c hc => ?_⟩
  have : c ∈ List.replicate k 120 := by simpa using hc
  rw [List.eq_of_mem_replicate this]
  decide
theorem rep_size (k : Nat) : (⟨(List.replicate k 120).toArray⟩ : Str).cps.size = k := by
  show (List.replicate k 120).toArray.size = k
  rw [List.size_toArray, List.length_replicate]
/-- bools as data -/
def blD (l : List Bool) : List PyData := l.map PyData.bool
theorem dp_bl {K : PySem.W.Frag} {H : Hp} : ∀ l : List Bool, DpAll K H (l.map V.bl) (blD l)
  | [] => .nil
  | b :: l => .cons (.bl b) (dp_bl l)
open PyData in
theorem bl_canLay : ∀ l : List Bool, canLayAll0 (blD l) = true
  | [] => by simp only [blD, List.map_nil, canLayAll0]
  | b :: l => by
    have ih := bl_canLay l
    unfold blD at ih ⊢
    simp only [List.map_cons, canLayAll0, canLay0, Bool.true_and]
    exact ih
open PyData in
theorem bl_depth : ∀ l : List Bool, depthAll (blD l) = 0
  | [] => by simp only [blD, List.map_nil, depthAll]
  | b :: l => by
    have ih := bl_depth l
    unfold blD at ih ⊢
    simp only [List.map_cons, depthAll, depth, Nat.zero_max]
    exact ih
theorem bl_shaped (l : List Bool) : SeqAt.shaped (.list (blD l)) = true := by
  unfold SeqAt.shaped
  rw [show PyData.canLay0 (.list (blD l)) = true by unfold PyData.canLay0; exact bl_canLay l]
  unfold PyData.depth
  rw [bl_depth]
  rfl
open PyData in
theorem bl_self : ∀ l : List Bool, eqvAll (blD l) (blD l) = true
  | [] => by simp [blD, eqvAll]
  | b :: l => by
    show (eqv (.bool b) (.bool b) && eqvAll (blD l) (blD l)) = true
    rw [bl_self l]
    unfold eqv
    simp
theorem g_neBl {K : PySem.W.Frag} {H : Hp} {a b : Addr} {l : List Bool} {Q : VK} (ha : H a = some (.lst (l.map V.bl))) (hb : H b = some (.lst (l.map V.bl))) (q : Q (.bl false) H) : rNeD K (.ref a) (.ref b) H Q :=
  ⟨_, _, .lst (SqL.of ha) (dp_bl l), .lst (SqL.of hb) (dp_bl l), bl_shaped _, bl_shaped _, by
    rw [show PyData.eqv (.list (blD l)) (.list (blD l)) = true by unfold PyData.eqv; exact bl_self l]
    exact q⟩
theorem joinL_app (sep : List Nat) : ∀ (l m : List (List Nat)), l ≠ [] → m ≠ [] → TL.joinL sep (l ++ m) = TL.joinL sep l ++ sep ++ TL.joinL sep m
  | [], m, h, _ => absurd rfl h
  | [x], [], _, h => absurd rfl h
  | [x], y :: r, _, _ => by simp [TL.joinL]
  | x :: y :: l, m, _, hm => by
    have ih := joinL_app sep (y :: l) m (by simp) hm
    show TL.joinL sep (x :: y :: (l ++ m)) = _
    have e : TL.joinL sep (x :: y :: (l ++ m)) = x ++ sep ++ TL.joinL sep (y :: (l ++ m)) := by simp [TL.joinL]
    have e2 : TL.joinL sep (x :: y :: l) = x ++ sep ++ TL.joinL sep (y :: l) := by simp [TL.joinL]
    rw [e, e2, show y :: (l ++ m) = (y :: l) ++ m from rfl, ih]
    simp [List.append_assoc]
theorem joinT_append {l m : List Nat} (hl : l ≠ []) (hm : m ≠ []) : joinT (l ++ m) = joinT l ++ Str.ofString " " ++ joinT m := by
  rw [joinT_S, joinT_S, joinT_S, show Str.ofString " " = SX.S [32] by decide +kernel, SX.S_cat, SX.S_cat, List.map_append, joinL_app [32] _ _ (by simpa using hl) (by simpa using hm)]
theorem nums_len {l : List Nat} (h : ∀ t ∈ l, t < 10 ^ 100) (hl : l.length ≤ 100) : (joinT l).length ≤ 20000 ∧ ((l.map nT).map (·.length)).sum + (l.map nT).length * (Str.ofString " ").length ≤ 16777216 := by
  have h2 := join_len (Str.ofString " ") (l.map nT)
  have h3 : ((l.map nT).map (·.length)).sum ≤ ((l.map nT).map (·.length)).length * 100 := sum_le_mul fun x hx => by
    obtain ⟨s, hs, rfl⟩ := List.mem_map.mp hx
    obtain ⟨t, ht, rfl⟩ := List.mem_map.mp hs
    exact (nT_int (h t ht)).2
  rw [List.length_map, List.length_map] at h3
  rw [List.length_map, show (Str.ofString " ").length = 1 by decide +kernel] at h2 ⊢
  unfold joinT
  omega
theorem showT_len {ts : List Nat} {fl : Nat} (ok : Ts ts) (hf : fl < 2 ^ ts.length) : (showT ts fl).length ≤ 30000 := by
  have h1 := (nums_len (l := ts) (fun t ht => small_num ok ht) ok.most).1
  have h2 := (nT_int (flips_num ok hf)).2
  unfold showT
  rw [Str.length_append, Str.length_append, show (Str.ofString "; ").length = 2 by decide +kernel]
  omega
theorem bs_flips {a fa fb n : Nat} (h : fa < 2 ^ n) : fa ||| fb * 2 ^ n = fa + fb * 2 ^ n := by
  rw [Nat.or_comm, Nat.mul_comm fb, ← Nat.two_pow_add_eq_or_of_lt h, Nat.add_comm]
/-- the text of two turns beside one another -/
theorem showT_bs {a b : List Nat} {fa fb n : Nat} (oa : Ts a) (ob : Ts b) (la : a.length = n) (hfa : fa < 2 ^ n) : showT (bs a b) (fa ||| fb * 2 ^ a.length) = joinT a ++ Str.ofString " " ++ joinT (b.map fun t => t + n) ++ Str.ofString "; " ++ nT (fa + fb * 2 ^ n) := by
  unfold showT
  rw [la, bs_flips (a := 0) hfa]
  unfold bs
  rw [joinT_append (ne_nil oa) (by simpa using ne_nil ob), la, show (b.map fun t => n + t) = b.map fun t => t + n from List.map_congr_left fun t _ => Nat.add_comm _ _]
end G

/-! Digits of places. -/
namespace G
open PySem PySem.Spec PyProof.Rows L2 M
section
variable {σ : L2.St} {H : Hp} {Q : VK} {te : TE} {vs : List Nat}
/-- [e for x in range(a, b, s)]: slot c -/
theorem u_lcc {c n : Nat} {a s : Int} (Pv : Addr → Nat → Hp → Prop) (h0 : ∀ D, H D = none → Pv D 0 (upd H D (.lst [])))
    (hs : ∀ D k H', H D = none → k < n → Pv D k H' → te ((wipe σ vs).set c (some (.int (a + (k : Int) * s)))) H' fun y H4 => ∃ acc, H4 D = some (.lst acc) ∧ acc.length < sizeLine ∧ Pv D (k + 1) (upd H4 D (.lst (acc ++ [y]))))
    (hd : ∀ D H', H D = none → Pv D n H' → Q (.ref D) H') (hw : ∀ x, wipe ((wipe σ vs).set c (some x)) vs = wipe σ vs := by intro x; rfl) :
    LcW (gName c) tYes te vs σ Q (Itc a s n) H := by
  refine fun D hD => ?_
  refine lc_it walk_rangeC (Pv D) (h0 D hD) (fun _ _ _ _ => trivial) (fun i v H H' hi p y => ?_) (fun H' p => hd D H' hD p)
  obtain ⟨rfl, rfl⟩ := y
  have q := hs D i _ hD hi p
  refine ⟨hw _, ?_⟩
  refine g_yes ?_
  exact iteT q
end
/-- the digits of a place, the first one for the bit n - 1 -/
def dgs (p n : Nat) : List Str := (List.range n).map fun k => nT (p.testBit (n - 1 - k)).toNat
theorem dgs_len (p n : Nat) : (dgs p n).length = n := by
  unfold dgs
  rw [List.length_map, List.length_range]
theorem nT_bit (b : Bool) : nT b.toNat = ⟨#[48 + b.toNat]⟩ := by
  cases b <;> decide +kernel
theorem rgc_down {n : Nat} (h : n ≤ 100) : RgC ((n : Int) - 1) (-1) (-1) n := by
  have k : ∀ n : _root_.Fin 101, Builtin.Range.small ((n.val : Int) - 1) (-1) (-1) = true ∧ Builtin.Range.rangeSize ((n.val : Int) - 1) (-1) (-1) = (n.val : Int) := by decide +kernel
  have := k ⟨n, by omega⟩
  exact ⟨by decide, by decide, this.1, this.2⟩
theorem dgs_one (p n : Nat) : ∀ s ∈ dgs p n, s.length = 1 := fun s hs => by
  obtain ⟨k, _, rfl⟩ := List.mem_map.mp hs
  rw [nT_bit]
  rfl
/-- the digits as one text -/
def dgT (p n : Nat) : Str := ⟨((List.range n).map fun k => 48 + (p.testBit (n - 1 - k)).toNat).toArray⟩
theorem dg_join (p n : Nat) : Txt.join (Str.ofString "") (dgs p n) = dgT p n := by
  have e : dgs p n = ((List.range n).map fun k => 48 + (p.testBit (n - 1 - k)).toNat).map fun c => (⟨#[c]⟩ : Str) := by
    unfold dgs
    rw [List.map_map]
    exact List.map_congr_left fun k _ => nT_bit _
  have j := join_letters ((List.range n).map fun k => 48 + (p.testBit (n - 1 - k)).toNat)
  rw [← e] at j
  unfold dgT
  rw [← j]
abbrev sp_law_digits (K : PySem.W.Frag) : Sp := sp2 fun a b H Q => ∃ (p n : Nat), a = .int (p : Int) ∧ b = .int (n : Int) ∧ n ≤ 100 ∧ ∀ (H' : Hp), Ext H H' → Q (.str (dgT p n)) H'
theorem g_irng3 {ta : TA} {σ : L2.St} {H : Hp} {R : It → Hp → Prop} (h : ta σ H fun vs H1 => ∃ (i j c : Int) (n : Nat), vs = [.int i, .int j, .int c] ∧ RgC i j c n ∧ R (Itc i c n) H1) : iRng3 ta σ H R := h
theorem line_rows (f : Nat → Nat) (A R : Nat) : (List.range (R * A)).map f ++ (List.range A).map (fun C => f (R * A + C)) = (List.range ((R + 1) * A)).map f := by
  rw [Nat.succ_mul, List.range_add, List.map_append, List.map_map]
  rfl
/-- the first k bits of a place, backwards -/
def bkD (p k : Nat) : Nat := nb k fun j => p.testBit (k - 1 - j)
theorem bk_dig (p k : Nat) : 2 * bkD p k + (p.testBit k).toNat = bkD p (k + 1) := by
  refine Nat.eq_of_testBit_eq fun j => ?_
  unfold bkD
  rw [testBit_nb]
  cases j with
  | zero =>
    rw [decide_eq_true (by omega), Bool.true_and, show k + 1 - 1 - 0 = k by omega, Nat.testBit_zero]
    cases p.testBit k
    · rw [decide_eq_false (by show ¬ (2 * _ + 0) % 2 = 1; omega)]
    · rw [decide_eq_true (by show (2 * _ + 1) % 2 = 1; omega)]
  | succ j =>
    rw [Nat.testBit_succ]
    have e : (2 * nb k (fun j => p.testBit (k - 1 - j)) + (p.testBit k).toNat) / 2 = nb k fun j => p.testBit (k - 1 - j) := by
      cases p.testBit k
      · show (2 * _ + 0) / 2 = _
        omega
      · show (2 * _ + 1) / 2 = _
        omega
    rw [e, testBit_nb]
    by_cases h : j < k
    · rw [decide_eq_true h, decide_eq_true (by omega), show k + 1 - 1 - (j + 1) = k - 1 - j by omega]
    · rw [decide_eq_false h, decide_eq_false (by omega), Bool.false_and, Bool.false_and]
theorem bk_rv {n p : Nat} (h1 : 1 ≤ n) (h2 : n ≤ 100) : bkD p n = go (rv n) 0 p := by
  have ok := rv_ok h1 h2
  have l := go_lt (rv n) 0 p
  rw [rv_len] at l
  refine bits_ext (n := n) (nb_lt _ _) l fun t ht => ?_
  have g := go_bit ok 0 p (ok.get_idx (show t < (rv n).length by rw [rv_len]; exact ht))
  rw [g, Nat.zero_testBit, Bool.xor_false]
  unfold bkD
  rw [testBit_nb, decide_eq_true ht, Bool.true_and]
  congr 1
  have := ok.idx_get (rv_get (n := n) (b := n - 1 - t) (by omega))
  rw [show n - 1 - (n - 1 - t) = t by omega] at this
  exact this.symm
theorem rev_dg {p n j x : Nat} (h : (revS (dgT p n)).cps[j]? = some x) : j < n ∧ x = 48 + (p.testBit j).toNat := by
  have e : (revS (dgT p n)).cps.toList = ((List.range n).map fun k => 48 + (p.testBit (n - 1 - k)).toNat).reverse := by
    unfold revS dgT
    simp
  rw [← Array.getElem?_toList, e] at h
  have hl := (List.getElem?_eq_some_iff.mp h).1
  rw [List.length_reverse, List.length_map, List.length_range] at hl
  rw [List.getElem?_reverse (by rw [List.length_map, List.length_range]; exact hl), List.length_map, List.length_range, List.getElem?_map, List.getElem?_range (by omega)] at h
  refine ⟨hl, ?_⟩
  have k : x = 48 + (p.testBit (n - 1 - (n - 1 - j))).toNat := (Option.some.inj h).symm
  rw [show n - 1 - (n - 1 - j) = j by omega] at k
  exact k
theorem rev_size (p n : Nat) : (revS (dgT p n)).cps.size = n := by
  unfold revS dgT
  simp
theorem rgc_evens {n : Nat} (h1 : 1 ≤ n) (h2 : n ≤ 6) : RgC 0 (2 * ((2 ^ (n - 1) : Nat) : Int)) 2 (2 ^ (n - 1)) ∧ RgC 1 (2 * ((2 ^ (n - 1) : Nat) : Int)) 2 (2 ^ (n - 1)) := by
  rcases (by omega : n = 1 ∨ n = 2 ∨ n = 3 ∨ n = 4 ∨ n = 5 ∨ n = 6) with rfl | rfl | rfl | rfl | rfl | rfl <;> exact ⟨⟨by decide, by decide, by decide +kernel, by decide +kernel⟩, ⟨by decide, by decide, by decide +kernel, by decide +kernel⟩⟩
theorem plc_shuf {n : Nat} (h1 : 1 ≤ n) (h2 : n ≤ 6) : nv (plc (tr n 1) 0) = rg3V 0 2 (2 ^ (n - 1)) ++ rg3V 1 2 (2 ^ (n - 1)) := by
  rcases (by omega : n = 1 ∨ n = 2 ∨ n = 3 ∨ n = 4 ∨ n = 5 ∨ n = 6) with rfl | rfl | rfl | rfl | rfl | rfl <;> decide +kernel
theorem plc_back {n : Nat} (h1 : 1 ≤ n) (h2 : n ≤ 6) : plc (List.range n) (2 ^ n - 1) = (List.range (2 ^ n)).reverse := by
  rcases (by omega : n = 1 ∨ n = 2 ∨ n = 3 ∨ n = 4 ∨ n = 5 ∨ n = 6) with rfl | rfl | rfl | rfl | rfl | rfl <;> decide +kernel
end G

/-! Rows of passes. -/
namespace G
open PySem PySem.Spec PyProof.Rows L2 M
/-- a list of turns of so many bits -/
def Row (C : Addr) (H : Hp) (p : Addr) (ws : List (List Nat × Nat)) : Prop := ∃ as : List Addr, H p = some (.lst (as.map V.ref)) ∧ as.length = ws.length ∧ ∀ (i : Nat) (w : List Nat × Nat), ws[i]? = some w → ∃ a l : Addr, as[i]? = some a ∧ TurnAt C H a l w.1 w.2
theorem Row.ext {C : Addr} {H H' : Hp} {p : Addr} {ws : List (List Nat × Nat)} (t : Row C H p ws) (e : Ext H H') : Row C H' p ws := by
  obtain ⟨as, h, l, g⟩ := t
  refine ⟨as, e _ _ h, l, fun i w hw => ?_⟩
  obtain ⟨a, b, h1, h2⟩ := g i w hw
  exact ⟨a, b, h1, h2.ext e⟩
theorem Row.at {C : Addr} {H : Hp} {p : Addr} {ws : List (List Nat × Nat)} (t : Row C H p ws) : ∃ xs : List V, H p = some (.lst xs) ∧ xs.length = ws.length ∧ ∀ (i : Nat) (v : V), xs[i]? = some v → ∃ (a l : Addr) (w : List Nat × Nat), v = .ref a ∧ ws[i]? = some w ∧ TurnAt C H a l w.1 w.2 := by
  obtain ⟨as, h, l, g⟩ := t
  refine ⟨_, h, by rw [List.length_map]; exact l, fun i v hv => ?_⟩
  rw [List.getElem?_map] at hv
  obtain ⟨a, ha, rfl⟩ := Option.map_eq_some_iff.mp hv
  have hi := (List.getElem?_eq_some_iff.mp ha).1
  obtain ⟨w, hw⟩ : ∃ w, ws[i]? = some w := ⟨_, List.getElem?_eq_getElem (by rw [← l]; exact hi)⟩
  obtain ⟨a', b, e, at_⟩ := g i w hw
  rw [ha] at e
  cases e
  exact ⟨a, b, w, rfl, hw, at_⟩
abbrev sp_check_turns (K : PySem.W.Frag) (C : Addr) : Sp := sp2 fun a b H Q => ∃ (p : Addr) (ws : List (List Nat × Nat)) (n : Nat), a = .ref p ∧ b = .int (n : Int) ∧ Row C H p ws ∧ 1 ≤ ws.length ∧ ws.length ≤ 20 ∧ (∀ w ∈ ws, w.1.length = n) ∧ ∀ H', Ext H H' → Q .non H'
end G

/-! enumerate(zip(list, list)): the inner pair is kept by nobody, so zip makes new ones behind the first. -/
namespace G
open PySem PySem.Spec PyProof.Rows L2 M
open PySem.Sem (wp)
/-- a zip object, whatever it says of its own tuple -/
abbrev ZipF (h : Heap) (z TI TO : Addr) (f0 f1 : Value) : Prop :=
  h.get? z = some { cls := .type "zip", dict := none, data := .fields #[f0, f1, .bool false, .ref TI, .ref TO], slots := #[] }
def FZ (f0 : Value) : Prop := f0 = .none ∨ ∃ a : Nat, f0 = rawInt a
section
variable {prog : Program} {w : World} {A : Around} {E : Value → Shared → Prop} {s : Shared}
theorem wpAny_loadAlive {a : Addr} {Q : Option Obj → Shared → Prop} (h : Q (s.heap.get? a) s) : wpAny (model prog w) A (loadIfAlive a) Q E s := fun Γ p hΓ => by
  unfold loadIfAlive
  rw [Sem.wp_loadIfAlive]
  exact h
theorem zf_free {z TI TO : Addr} {f0 f1 : Value} {Q : Bool → Shared → Prop} (hz : ZipF s.heap z TI TO f0 f1) (hf : FZ f0)
    (hQ : ∀ b h' f1', ZipF h' z TI TO f0 f1' → Heap.SameBut z s.heap h' → Q b { s with heap := h' }) : wpAny (model prog w) A (Builtin.SmallTypes.ownedTupleIsFree (.ref z)) Q E s := by
  have same : Heap.SameBut z s.heap s.heap := ⟨rfl, fun _ _ => rfl⟩
  unfold Builtin.SmallTypes.ownedTupleIsFree
  refine wpAny_bind (wpAny_field hz rfl (x := f0) rfl ?_)
  rcases hf with rfl | ⟨a, rfl⟩
  · exact wpAny_pure (hQ true s.heap f1 hz same)
  · show wpAny _ _ (loadIfAlive _ >>= _) _ _ _
    refine wpAny_bind (wpAny_loadAlive ?_)
    split
    · exact wpAny_pure (hQ true s.heap f1 hz same)
    · refine wpAny_bind (wpAny_field hz rfl (x := f1) rfl ?_)
      split
      · exact wpAny_bind (wpAny_setField_rec hz (by simp) fun h' hz' hs' => wpAny_pure (hQ false h' (.bool true) hz' hs'))
      · exact wpAny_pure (hQ false s.heap f1 hz same)
theorem zl_next_item {z TI TO i1 i2 l1 l2 : Addr} {k1 k2 : Nat} {xs ys : Array Value} {x y a b f0 f1 : Value} {Q : Value → Shared → Prop} (D : ZipApart z TI TO i1 i2 l1 l2)
    (hz0 : ZipF s.heap z TI TO f0 f1) (hf : FZ f0) (hTI : IsPair s.heap TI (.ref i1) (.ref i2)) (hTO : IsPair s.heap TO a b)
    (h1 : s.heap.IsListIter i1 l1 k1) (h2 : s.heap.IsListIter i2 l2 k2) (hl1 : s.heap.IsList l1 xs) (hl2 : s.heap.IsList l2 ys) (hx : xs[k1]? = some x) (hy : ys[k2]? = some y)
    (hQ : ∀ h' f0' f1' a' b', ZipF h' z TI TO f0' f1' → FZ f0' → IsPair h' TO a' b' → h'.IsListIter i1 l1 (k1 + 1) → h'.IsListIter i2 l2 (k2 + 1) → IsPair h' s.heap.objs.size x y → h'.objs.size = s.heap.objs.size + 1 →
      (∀ c o, c ≠ z → c ≠ TO → c ≠ i1 → c ≠ i2 → s.heap.get? c = some o → h'.get? c = some o) → Q (.ref s.heap.objs.size) { s with heap := h' }) :
    wpAny (model prog w) A (Builtin.«zip.__next__» ⟨[.ref z], []⟩) (fun fin s' => ∃ v, fin = .done (.ret v) ∧ Q v s') E s := by
  show wpAny _ _ (field (.ref z) 2 >>= _) _ _ _
  refine wpAny_bind (wpAny_field hz0 rfl (x := .bool false) rfl ?_)
  show wpAny _ _ (field (.ref z) 3 >>= _) _ _ _
  refine wpAny_bind (wpAny_field hz0 rfl (x := .ref TI) rfl ?_)
  refine wpAny_bind (wpAny_seqItems hTI rfl ?_)
  show wpAny _ _ (Builtin.SmallTypes.ownedTupleIsFree (.ref z) >>= _) _ _ _
  refine wpAny_bind (zf_free hz0 hf fun fr h₀ f1' hz hs₀ => ?_)
  replace hTO : IsPair h₀ TO a b := hs₀.extBut _ _ D.TOz hTO
  replace hTI : IsPair h₀ TI (.ref i1) (.ref i2) := hs₀.extBut _ _ D.TIz hTI
  replace h1 : h₀.IsListIter i1 l1 k1 := h1.extBut hs₀.extBut D.i1z
  replace h2 : h₀.IsListIter i2 l2 k2 := h2.extBut hs₀.extBut D.i2z
  replace hl1 : h₀.IsList l1 xs := hl1.extBut hs₀.extBut D.l1z
  replace hl2 : h₀.IsList l2 ys := hl2.extBut hs₀.extBut D.l2z
  have hsz0 : h₀.objs.size = s.heap.objs.size := hs₀.1
  cases fr with
  | false =>
    simp only [Bool.false_eq_true, if_false]
    simp only [List.forIn_toArray, List.forIn_cons, List.forIn_nil]
    refine wpAny_bind ?_
    refine wpAny_bind (wpAny_bind (wpAny_holding ?_))
    show wpAny _ _ (Builtin.SmallTypes.nextOf (.ref i1) >>= _) _ _ _
    refine wpAny_bind (wpAny_nextOf_list_item h1 hl1 hx fun h₂ h1₂ hs₂ => wpAny_pure (wpAny_pure ?_))
    refine wpAny_bind (wpAny_bind (wpAny_holding ?_))
    show wpAny _ _ (Builtin.SmallTypes.nextOf (.ref i2) >>= _) _ _ _
    refine wpAny_bind (wpAny_nextOf_list_item (h2.extBut hs₂.extBut D.i12.symm) (hl2.extBut hs₂.extBut D.l2i1) hy fun h₄ h2₄ hs₄ => wpAny_pure (wpAny_pure (wpAny_pure ?_)))
    refine wpAny_bind (wpAny_newTuple (hsz := (by show (2 : Nat) ≤ sizeLine; decide)) ?_)
    have hsz : h₄.objs.size = s.heap.objs.size := by rw [hs₄.1, hs₂.1, hsz0]
    refine wpAny_pure ⟨_, rfl, ?_⟩
    show Q (.ref h₄.objs.size) _
    have hz₄ : ZipF h₄ z TI TO f0 f1' := hs₄.extBut _ _ D.i2z.symm (hs₂.extBut _ _ D.i1z.symm hz)
    have hTO₄ : IsPair h₄ TO a b := hs₄.extBut _ _ D.TOi2 (hs₂.extBut _ _ D.TOi1 hTO)
    have h1₄ : h₄.IsListIter i1 l1 (k1 + 1) := h1₂.extBut hs₄.extBut D.i12
    have up : ∀ c o, h₄.get? c = some o → (h₄.push { cls := .type "tuple", data := .seq #[x, y] }).get? c = some o := fun c o e => Heap.get?_push_of_some _ e
    have hT : IsPair (h₄.push { cls := .type "tuple", data := .seq #[x, y] }) s.heap.objs.size x y := by rw [← hsz]; exact Heap.get?_push_size _ rfl
    rw [hsz]
    exact hQ (h₄.push { cls := .type "tuple", data := .seq #[x, y] }) f0 f1' a b (up _ _ hz₄) hf (up _ _ hTO₄) (h1₄.at fun o e => up _ o e) (h2₄.at fun o e => up _ o e) hT (by rw [Heap.size_push, hsz]) fun c o c1 c2 c3 c4 e => up c o (hs₄.extBut _ _ c4 (hs₂.extBut _ _ c3 (hs₀.extBut _ _ c1 e)))
  | true =>
    simp only [if_true]
    refine wpAny_bind (wpAny_rule ?_)
    refine wpAny_bind (wpAny_field hz rfl (x := .ref TO) rfl ?_)
    refine wpAny_bind (wpAny_setField_rec hz (by simp) fun h₁ hz₁ hs₁ => ?_)
    replace hz₁ : ZipF h₁ z TI TO .ellipsis f1' := hz₁
    refine wpAny_bind ?_
    simp only [List.zipIdx_cons, List.zipIdx_nil, List.forIn_cons, List.forIn_nil]
    refine wpAny_bind (wpAny_bind (wpAny_onRaise ?_))
    show wpAny _ _ (Builtin.SmallTypes.nextOf (.ref i1) >>= _) _ _ _
    refine wpAny_bind (wpAny_nextOf_list_item (h1.extBut hs₁.extBut D.i1z) (hl1.extBut hs₁.extBut D.l1z) hx fun h₂ h1₂ hs₂ => wpAny_pure ?_)
    have hTO₂ : IsPair h₂ TO a b := hs₂.extBut _ _ D.TOi1 (hs₁.extBut _ _ D.TOz hTO)
    refine wpAny_bind (wpAny_seqItems hTO₂ rfl ?_)
    refine wpAny_bind (wpAny_updateSeq_pair hTO₂ fun h₃ hTO₃ hs₃ => ?_)
    replace hTO₃ : IsPair h₃ TO x b := hTO₃
    refine wpAny_bind (wpAny_letGo (wpAny_pure ?_))
    refine wpAny_bind (wpAny_bind (wpAny_onRaise ?_))
    show wpAny _ _ (Builtin.SmallTypes.nextOf (.ref i2) >>= _) _ _ _
    refine wpAny_bind (wpAny_nextOf_list_item (((h2.extBut hs₁.extBut D.i2z).extBut hs₂.extBut D.i12.symm).extBut hs₃.extBut D.TOi2.symm)
      (((hl2.extBut hs₁.extBut D.l2z).extBut hs₂.extBut D.l2i1).extBut hs₃.extBut D.l2TO) hy fun h₄ h2₄ hs₄ => wpAny_pure ?_)
    have hTO₄ : IsPair h₄ TO x b := hs₄.extBut _ _ D.TOi2 hTO₃
    refine wpAny_bind (wpAny_seqItems hTO₄ rfl ?_)
    refine wpAny_bind (wpAny_updateSeq_pair hTO₄ fun h₅ hTO₅ hs₅ => ?_)
    replace hTO₅ : IsPair h₅ TO x y := hTO₅
    refine wpAny_bind (wpAny_letGo (wpAny_pure (wpAny_pure ?_)))
    refine wpAny_bind (wpAny_seqItems hTO₅ rfl ?_)
    refine wpAny_bind (wpAny_newTuple ?_)
    have hsz : h₅.objs.size = s.heap.objs.size := by rw [hs₅.1, hs₄.1, hs₃.1, hs₂.1, hs₁.1, hsz0]
    have hz₅ : ZipF h₅ z TI TO .ellipsis f1' := hs₅.extBut _ _ D.TOz.symm (hs₄.extBut _ _ D.i2z.symm (hs₃.extBut _ _ D.TOz.symm (hs₂.extBut _ _ D.i1z.symm hz₁)))
    have hk₅ : ∀ c o, c ≠ z → c ≠ TO → c ≠ i1 → c ≠ i2 → s.heap.get? c = some o → h₅.get? c = some o := fun c o c1 c2 c3 c4 e =>
      hs₅.extBut _ _ c2 (hs₄.extBut _ _ c4 (hs₃.extBut _ _ c2 (hs₂.extBut _ _ c3 (hs₁.extBut _ _ c1 (hs₀.extBut _ _ c1 e)))))
    have h1₅ : h₅.IsListIter i1 l1 (k1 + 1) := ((h1₂.extBut hs₃.extBut D.TOi1.symm).extBut hs₄.extBut D.i12).extBut hs₅.extBut D.TOi1.symm
    have h2₅ : h₅.IsListIter i2 l2 (k2 + 1) := h2₄.extBut hs₅.extBut D.TOi2.symm
    have hzlt : z < h₅.objs.size := Heap.lt_size hz₅
    show wpAny _ _ (Builtin.SmallTypes.ownedTupleHandOut (.ref z) (.ref h₅.objs.size) >>= _) _ _ _
    refine wpAny_bind ?_
    unfold Builtin.SmallTypes.ownedTupleHandOut
    have hz₆ : ZipF (h₅.push { cls := .type "tuple", data := .seq #[x, y] }) z TI TO .ellipsis f1' := Heap.get?_push_of_some _ hz₅
    refine wpAny_bind (wpAny_setField_rec hz₆ (by simp) fun h₇ hz₇ hs₇ => ?_)
    replace hz₇ : ZipF h₇ z TI TO (rawInt h₅.objs.size) f1' := hz₇
    refine wpAny_setField_rec hz₇ (by simp) fun h₈ hz₈ hs₈ => ?_
    replace hz₈ : ZipF h₈ z TI TO (rawInt h₅.objs.size) (.bool false) := hz₈
    have up : ∀ c o, c ≠ z → h₅.get? c = some o → h₈.get? c = some o := fun c o c1 e => hs₈.extBut _ _ c1 (hs₇.extBut _ _ c1 (Heap.get?_push_of_some _ e))
    have hT₈ : IsPair h₈ h₅.objs.size x y := hs₈.extBut _ _ (Nat.ne_of_gt hzlt) (hs₇.extBut _ _ (Nat.ne_of_gt hzlt) (Heap.get?_push_size _ rfl))
    have hz8 : h₈.objs.size = h₅.objs.size + 1 := by rw [hs₈.1, hs₇.1, Heap.size_push]
    rw [hsz] at hz₈ hT₈ hz8
    refine wpAny_pure ⟨_, rfl, ?_⟩
    show Q (.ref h₅.objs.size) _
    rw [hsz]
    exact hQ h₈ _ _ _ _ hz₈ (.inr ⟨_, rfl⟩) (up _ _ D.TOz hTO₅) (h1₅.at fun o e => up _ o D.i1z e) (h2₅.at fun o e => up _ o D.i2z e) hT₈ hz8 fun c o c1 c2 c3 c4 e => up c o c1 (hk₅ c o c1 c2 c3 c4 e)
theorem zl_next_end {z TI TO i1 i2 l1 l2 : Addr} {k1 : Nat} {xs : Array Value} {a b f0 f1 : Value} {Q : Fin → Shared → Prop} (hh : A.handled = none) (D : ZipApart z TI TO i1 i2 l1 l2)
    (hz0 : ZipF s.heap z TI TO f0 f1) (hf : FZ f0) (hTI : IsPair s.heap TI (.ref i1) (.ref i2)) (hTO : IsPair s.heap TO a b)
    (h1 : s.heap.IsListIter i1 l1 k1) (hl1 : s.heap.IsList l1 xs) (hend : xs[k1]? = none)
    (hE : ∀ h' e, (∀ c o, c ≠ z → c ≠ TO → c ≠ i1 → c ≠ i2 → s.heap.get? c = some o → h'.get? c = some o) → (∃ o, h'.get? e = some o ∧ o.cls = .type "StopIteration") → E (.ref e) { s with heap := h' }) :
    wpAny (model prog w) A (Builtin.«zip.__next__» ⟨[.ref z], []⟩) Q E s := by
  show wpAny _ _ (field (.ref z) 2 >>= _) _ _ _
  refine wpAny_bind (wpAny_field hz0 rfl (x := .bool false) rfl ?_)
  show wpAny _ _ (field (.ref z) 3 >>= _) _ _ _
  refine wpAny_bind (wpAny_field hz0 rfl (x := .ref TI) rfl ?_)
  refine wpAny_bind (wpAny_seqItems hTI rfl ?_)
  show wpAny _ _ (Builtin.SmallTypes.ownedTupleIsFree (.ref z) >>= _) _ _ _
  refine wpAny_bind (zf_free hz0 hf fun fr h₀ f1' hz hs₀ => ?_)
  replace hTO : IsPair h₀ TO a b := hs₀.extBut _ _ D.TOz hTO
  replace h1 : h₀.IsListIter i1 l1 k1 := h1.extBut hs₀.extBut D.i1z
  replace hl1 : h₀.IsList l1 xs := hl1.extBut hs₀.extBut D.l1z
  cases fr with
  | false =>
    simp only [Bool.false_eq_true, if_false]
    simp only [List.forIn_toArray, List.forIn_cons, List.forIn_nil]
    refine wpAny_bind ?_
    refine wpAny_bind (wpAny_bind (wpAny_holding ?_))
    show wpAny _ _ (Builtin.SmallTypes.nextOf (.ref i1) >>= _) _ _ _
    exact wpAny_bind (wpAny_nextOf_list_end hh h1 hl1 hend fun h₂ e hs₂ he => hE h₂ e (fun c o c1 c2 c3 c4 x => hs₂ _ _ c3 (hs₀.extBut _ _ c1 x)) he)
  | true =>
    simp only [if_true]
    refine wpAny_bind (wpAny_rule ?_)
    refine wpAny_bind (wpAny_field hz rfl (x := .ref TO) rfl ?_)
    refine wpAny_bind (wpAny_setField_rec hz (by simp) fun h₁ hz₁ hs₁ => ?_)
    replace hz₁ : ZipF h₁ z TI TO .ellipsis f1' := hz₁
    refine wpAny_bind ?_
    simp only [List.zipIdx_cons, List.zipIdx_nil, List.forIn_cons, List.forIn_nil]
    refine wpAny_bind (wpAny_bind (wpAny_onRaise ?_))
    show wpAny _ _ (Builtin.SmallTypes.nextOf (.ref i1) >>= _) _ _ _
    refine wpAny_bind (wpAny_nextOf_list_end hh (h1.extBut hs₁.extBut D.i1z) (hl1.extBut hs₁.extBut D.l1z) hend fun h₂ e hs₂ he => ?_)
    obtain ⟨oe, hoe, hce⟩ := he
    have hz₂ : ZipF h₂ z TI TO .ellipsis f1' := hs₂ _ _ D.i1z.symm hz₁
    have hez : e ≠ z := fun x => by subst x; rw [hz₂] at hoe; cases hoe; simp at hce
    refine wpAny_setField_rec hz₂ (by simp) fun h₃ _ hs₃ => hE h₃ e (fun c o c1 _ c3 _ x => hs₃.extBut _ _ c1 (hs₂ _ _ c3 (hs₁.extBut _ _ c1 (hs₀.extBut _ _ c1 x)))) ⟨oe, hs₃.extBut _ _ hez hoe, hce⟩
theorem nextOf_zl {z TI TO i1 i2 l1 l2 : Addr} {k1 k2 : Nat} {xs ys : Array Value} {x y a b f0 f1 : Value} {Q : Value → Shared → Prop} (D : ZipApart z TI TO i1 i2 l1 l2)
    (hz0 : ZipF s.heap z TI TO f0 f1) (hf : FZ f0) (hTI : IsPair s.heap TI (.ref i1) (.ref i2)) (hTO : IsPair s.heap TO a b)
    (h1 : s.heap.IsListIter i1 l1 k1) (h2 : s.heap.IsListIter i2 l2 k2) (hl1 : s.heap.IsList l1 xs) (hl2 : s.heap.IsList l2 ys) (hx : xs[k1]? = some x) (hy : ys[k2]? = some y)
    (hQ : ∀ h' f0' f1' a' b', ZipF h' z TI TO f0' f1' → FZ f0' → IsPair h' TO a' b' → h'.IsListIter i1 l1 (k1 + 1) → h'.IsListIter i2 l2 (k2 + 1) → IsPair h' s.heap.objs.size x y → h'.objs.size = s.heap.objs.size + 1 →
      (∀ c o, c ≠ z → c ≠ TO → c ≠ i1 → c ≠ i2 → s.heap.get? c = some o → h'.get? c = some o) → Q (.ref s.heap.objs.size) { s with heap := h' }) :
    wpAny (model prog w) A (Builtin.SmallTypes.nextOf (.ref z)) Q E s := by
  have hT : s.TypeIs (.ref z) "zip" := ⟨_, hz0, rfl⟩
  unfold Builtin.SmallTypes.nextOf
  exact wpAny_bind (wpAny_callSpecial?_slot (name := Str.ofString "__next__") hT F.slot_zip_next
    (wpAny_call_entry F.slot_zip_next hT F.entry_zip_next (zl_next_item D hz0 hf hTI hTO h1 h2 hl1 hl2 hx hy fun h' f0' f1' a' b' q1 q2 q3 q4 q5 q6 q7 q8 => wpAny_pure (hQ h' f0' f1' a' b' q1 q2 q3 q4 q5 q6 q7 q8)) (F.args_zip_next_1 _)))
theorem nextOf_zl_end {z TI TO i1 i2 l1 l2 : Addr} {k1 : Nat} {xs : Array Value} {a b f0 f1 : Value} {Q : Value → Shared → Prop} (hh : A.in1.handled = none) (D : ZipApart z TI TO i1 i2 l1 l2)
    (hz0 : ZipF s.heap z TI TO f0 f1) (hf : FZ f0) (hTI : IsPair s.heap TI (.ref i1) (.ref i2)) (hTO : IsPair s.heap TO a b)
    (h1 : s.heap.IsListIter i1 l1 k1) (hl1 : s.heap.IsList l1 xs) (hend : xs[k1]? = none)
    (hE : ∀ h' e, (∀ c o, c ≠ z → c ≠ TO → c ≠ i1 → c ≠ i2 → s.heap.get? c = some o → h'.get? c = some o) → (∃ o, h'.get? e = some o ∧ o.cls = .type "StopIteration") → E (.ref e) { s with heap := h' }) :
    wpAny (model prog w) A (Builtin.SmallTypes.nextOf (.ref z)) Q E s := by
  have hT : s.TypeIs (.ref z) "zip" := ⟨_, hz0, rfl⟩
  unfold Builtin.SmallTypes.nextOf
  exact wpAny_bind (wpAny_callSpecial?_slot (name := Str.ofString "__next__") hT F.slot_zip_next
    (wpAny_call_entry F.slot_zip_next hT F.entry_zip_next (zl_next_end (A := A.in1) hh D hz0 hf hTI hTO h1 hl1 hend hE) (F.args_zip_next_1 _)))
theorem enz_next {e z TI TO i1 i2 l1 l2 : Addr} {k : Nat} {xs ys : Array Value} {x y a b f0 f1 old : Value} {Q : Option Value → Shared → Prop} (D : ZipApart z TI TO i1 i2 l1 l2)
    (nz : e ≠ z) (nI : e ≠ TI) (nO : e ≠ TO) (n1 : e ≠ i1) (n2 : e ≠ i2)
    (he : IsEnum s.heap e z (k : Int) old) (hz0 : ZipF s.heap z TI TO f0 f1) (hf : FZ f0) (hTI : IsPair s.heap TI (.ref i1) (.ref i2)) (hTO : IsPair s.heap TO a b)
    (h1 : s.heap.IsListIter i1 l1 k) (h2 : s.heap.IsListIter i2 l2 k) (hl1 : s.heap.IsList l1 xs) (hl2 : s.heap.IsList l2 ys) (hx : xs[k]? = some x) (hy : ys[k]? = some y)
    (hQ : ∀ h1 h2 tk f0' f1' a' b', ZipF h1 z TI TO f0' f1' → FZ f0' → IsPair h1 TO a' b' → h1.IsListIter i1 l1 (k + 1) → h1.IsListIter i2 l2 (k + 1) → IsPair h1 s.heap.objs.size x y → h1.objs.size = s.heap.objs.size + 1 →
      (∀ c o, c ≠ z → c ≠ TO → c ≠ i1 → c ≠ i2 → s.heap.get? c = some o → h1.get? c = some o) →
      IsEnumOut h2 e z ((k : Int) + 1) (.ref s.heap.objs.size) (s.heap.objs.size + 1) → IsPair h2 (s.heap.objs.size + 1) (.int k tk) (.ref s.heap.objs.size) → h2.objs.size = s.heap.objs.size + 2 →
      (∀ c o, c ≠ e → h1.get? c = some o → h2.get? c = some o) → Q (some (.ref (s.heap.objs.size + 1))) { s with heap := h2, toks := tk + 1 }) :
    wpAny (model prog w) A (pyNext (.ref e)) Q E s := by
  have hT : s.TypeIs (.ref e) "enumerate" := ⟨_, he, rfl⟩
  unfold pyNext
  refine wpAny_bind (wpAny_attempt (wpAny_callSpecial?_slot (name := Str.ofString "__next__") hT F.slot_enumerate_next
    (wpAny_call_entry F.slot_enumerate_next hT F.entry_enumerate_next ?_ (F.args_enumerate_next_1 _))))
  obtain ⟨hp, g, d, tk₀, os⟩ := s
  show wpAny _ _ (field (.ref e) 2 >>= _) _ _ _
  refine wpAny_bind (wpAny_field he rfl (x := .ref z) rfl ?_)
  refine wpAny_bind (nextOf_zl D hz0 hf hTI hTO h1 h2 hl1 hl2 hx hy fun h₁ f0' f1' a' b' q1 q2 q3 q4 q5 q6 q7 q8 => ?_)
  have he₁ : IsEnum h₁ e z (k : Int) old := q8 e _ nz nO n1 n2 he
  show wpAny _ _ (field (.ref e) 3 >>= _) _ _ ⟨h₁, g, d, tk₀, os⟩
  refine wpAny_bind (wpAny_field he₁ rfl (x := rawInt k) rfl ?_)
  show wpAny _ _ (field (.ref e) 4 >>= _) _ _ ⟨h₁, g, d, tk₀, os⟩
  refine wpAny_bind (wpAny_field he₁ rfl (x := .none) rfl ?_)
  show wpAny _ _ (mkInt k >>= _) _ _ ⟨h₁, g, d, tk₀, os⟩
  refine wpAny_bind (wpAny_mkInt ?_)
  show wpAny _ _ (setField (.ref e) 3 (rawInt ((k : Int) + 1)) >>= _) _ _ ⟨h₁, g, d, tk₀ + 1, os⟩
  refine wpAny_bind (wpAny_setField_rec he₁ (by simp) fun h₂ he₂ hs₂ => ?_)
  replace hs₂ : Heap.SameBut e h₁ h₂ := hs₂
  replace he₂ : IsEnum h₂ e z ((k : Int) + 1) old := he₂
  show wpAny _ _ (setField (.ref e) 4 .none >>= _) _ _ ⟨h₂, g, d, tk₀ + 1, os⟩
  refine wpAny_bind (wpAny_setField_rec he₂ (by simp) fun h₃ he₃ hs₃ => ?_)
  replace hs₃ : Heap.SameBut e h₂ h₃ := hs₃
  replace he₃ : IsEnum h₃ e z ((k : Int) + 1) old := he₃
  show wpAny _ _ (newTuple [.int k tk₀, .ref hp.objs.size] >>= _) _ _ ⟨h₃, g, d, tk₀ + 1, os⟩
  refine wpAny_bind (wpAny_newTuple ?_)
  have he₄ : IsEnum (h₃.push { cls := .type "tuple", data := .seq #[.int k tk₀, .ref hp.objs.size] }) e z ((k : Int) + 1) old := Heap.get?_push_of_some _ he₃
  generalize hh₄ : h₃.push { cls := .type "tuple", data := .seq #[.int k tk₀, .ref hp.objs.size] } = h₄ at he₄
  have hsz : h₃.objs.size = hp.objs.size + 1 := by rw [hs₃.1, hs₂.1, q7]
  have hel : e < hp.objs.size := Heap.lt_size (show hp.get? e = _ from he)
  have ht₄ : IsPair h₄ (hp.objs.size + 1) (.int k tk₀) (.ref hp.objs.size) := by rw [← hh₄, ← hsz]; exact Heap.get?_push_size _ rfl
  have hz₄ : h₄.objs.size = hp.objs.size + 2 := by rw [← hh₄, Heap.size_push, hsz]
  have hk₄ : ∀ c o, c ≠ e → h₁.get? c = some o → h₄.get? c = some o := fun c o hc hb => by
    rw [← hh₄]; exact Heap.get?_push_of_some _ (hs₃.extBut c o hc (hs₂.extBut c o hc hb))
  show wpAny _ _ (Builtin.SmallTypes.ownedTupleIsFree (.ref e) >>= _) _ _ ⟨h₄, g, d, tk₀ + 1, os⟩
  rw [hsz]
  refine wpAny_bind ?_
  unfold Builtin.SmallTypes.ownedTupleIsFree
  refine wpAny_bind (wpAny_field he₄ rfl (x := .none) rfl (wpAny_pure ?_))
  simp only [if_true]
  refine wpAny_bind (wpAny_rule ?_)
  refine wpAny_bind (wpAny_field he₄ rfl (x := old) rfl ?_)
  refine wpAny_bind (wpAny_setField_rec he₄ (by simp) fun h₅ he₅ hs₅ => ?_)
  replace hs₅ : Heap.SameBut e h₄ h₅ := hs₅
  replace he₅ : IsEnum h₅ e z ((k : Int) + 1) (.ref hp.objs.size) := he₅
  show wpAny _ _ (Builtin.SmallTypes.ownedTupleHandOut (.ref e) (.ref (hp.objs.size + 1)) >>= _) _ _ ⟨h₅, g, d, tk₀ + 1, os⟩
  refine wpAny_bind ?_
  unfold Builtin.SmallTypes.ownedTupleHandOut
  refine wpAny_bind (wpAny_setField_rec he₅ (by simp) fun h₆ he₆ hs₆ => ?_)
  replace hs₆ : Heap.SameBut e h₅ h₆ := hs₆
  replace he₆ : IsEnumOut h₆ e z ((k : Int) + 1) (.ref hp.objs.size) (hp.objs.size + 1) := he₆
  refine wpAny_setField_rec he₆ (by simp) fun h₇ he₇ hs₇ => ?_
  replace hs₇ : Heap.SameBut e h₆ h₇ := hs₇
  replace he₇ : IsEnumOut h₇ e z ((k : Int) + 1) (.ref hp.objs.size) (hp.objs.size + 1) := he₇
  refine wpAny_bind (wpAny_letGo (wpAny_pure ⟨_, rfl, wpAny_pure ?_⟩))
  refine hQ h₁ h₇ tk₀ f0' f1' a' b' q1 q2 q3 q4 q5 q6 q7 q8 he₇ ?_ ?_ ?_
  · have ne : hp.objs.size + 1 ≠ e := Nat.ne_of_gt (Nat.lt_succ_of_lt hel)
    exact hs₇.extBut _ _ ne (hs₆.extBut _ _ ne (hs₅.extBut _ _ ne ht₄))
  · rw [hs₇.1, hs₆.1, hs₅.1, hz₄]
  · exact fun c o hc hb => hs₇.extBut c o hc (hs₆.extBut c o hc (hs₅.extBut c o hc (hk₄ c o hc hb)))
theorem enz_end {e z TI TO i1 i2 l1 l2 : Addr} {k : Nat} {xs : Array Value} {a b f0 f1 old : Value} {Q : Option Value → Shared → Prop} (hh : A.in1.in1.handled = none) (D : ZipApart z TI TO i1 i2 l1 l2)
    (he : IsEnum s.heap e z (k : Int) old) (hz0 : ZipF s.heap z TI TO f0 f1) (hf : FZ f0) (hTI : IsPair s.heap TI (.ref i1) (.ref i2)) (hTO : IsPair s.heap TO a b)
    (h1 : s.heap.IsListIter i1 l1 k) (hl1 : s.heap.IsList l1 xs) (hend : xs[k]? = none)
    (hQ : ∀ h', (∀ c o, c ≠ z → c ≠ TO → c ≠ i1 → c ≠ i2 → s.heap.get? c = some o → h'.get? c = some o) → Q none { s with heap := h' }) :
    wpAny (model prog w) A (pyNext (.ref e)) Q E s := by
  have hT : s.TypeIs (.ref e) "enumerate" := ⟨_, he, rfl⟩
  unfold pyNext
  refine wpAny_bind (wpAny_attempt (wpAny_callSpecial?_slot (name := Str.ofString "__next__") hT F.slot_enumerate_next
    (wpAny_call_entry F.slot_enumerate_next hT F.entry_enumerate_next ?_ (F.args_enumerate_next_1 _))))
  show wpAny _ _ (field (.ref e) 2 >>= _) _ _ _
  refine wpAny_bind (wpAny_field he rfl (x := .ref z) rfl ?_)
  refine wpAny_bind (nextOf_zl_end hh D hz0 hf hTI hTO h1 hl1 hend fun h' x hk hx' => ?_)
  obtain ⟨o, ho, hc⟩ := hx'
  refine wpAny_bind (wpAny_isInstance (T := "StopIteration") (b := true) ⟨o, ho, hc⟩ isSubtype_stop ?_)
  exact wpAny_pure (hQ _ hk)
end
/-- the lists at a and b as they stand at each turn: (i, (x, y)), both pairs new -/
def IteZ (K : PySem.W.Frag) (a b : Addr) : It :=
  ⟨fun i H => ∃ (xs ys : List V) (x y : V), SqL K H a xs ∧ SqL K H b ys ∧ xs[i]? = some x ∧ ys[i]? = some y,
    fun i H v H' => ∃ T T2 x y, v = .ref T ∧ H T2 = none ∧ upd H T2 (.tup [x, y]) T = none ∧ H' = upd (upd H T2 (.tup [x, y])) T (.tup [.int (i : Nat), .ref T2]) ∧ (∀ xs, SqL K H a xs → xs[i]? = some x) ∧ ∀ ys, SqL K H b ys → ys[i]? = some y,
    fun i H => ∃ xs ys : List V, SqL K H a xs ∧ SqL K H b ys ∧ xs.length ≤ i⟩
theorem turn_enz {P : Program} {w : World} {K : PySem.W.Frag} {elts : List Expr} {kk : Nat} {tpos : Pos} {a b e z TI TO i1 i2 : Addr} (D : ZipApart z TI TO i1 i2 a b)
    (nz : e ≠ z) (nI : e ≠ TI) (nO : e ≠ TO) (n1 : e ≠ i1) (n2 : e ≠ i2) :
    Turn P w K (.Tuple elts kk tpos) (IteZ K a b) [e, z, TI, TO, i1, i2] e (fun i h => (∃ old, IsEnum h e z ((i : Nat) : Int) old) ∧ (∃ f0 f1, ZipF h z TI TO f0 f1 ∧ FZ f0) ∧ IsPair h TI (.ref i1) (.ref i2) ∧ (∃ x y, IsPair h TO x y) ∧ h.IsListIter i1 a i ∧ h.IsListIter i2 b i) where
  mem := by simp
  obj := fun i h st c hc => by
    obtain ⟨⟨old, he⟩, ⟨f0, f1, hz, _⟩, hTI, ⟨x, y, hTO⟩, ⟨o1, e1, _, d1⟩, ⟨o2, e2, _, d2⟩⟩ := st
    have e' : c = e ∨ c = z ∨ c = TI ∨ c = TO ∨ c = i1 ∨ c = i2 := by simpa using hc
    rcases e' with q | q | q | q | q | q
    · rw [q]; exact ⟨_, he, fun v q => nomatch q⟩
    · rw [q]; exact ⟨_, hz, fun v q => nomatch q⟩
    · rw [q]; exact ⟨_, hTI, fun v q => nomatch q⟩
    · rw [q]; exact ⟨_, hTO, fun v q => nomatch q⟩
    · rw [q]; exact ⟨o1, e1, fun v q => by rw [d1] at q; cases q⟩
    · rw [q]; exact ⟨o2, e2, fun v q => by rw [d2] at q; cases q⟩
  keep := fun i h h' st k => by
    obtain ⟨⟨old, he⟩, ⟨f0, f1, hz, hf⟩, hTI, ⟨x, y, hTO⟩, h1, h2⟩ := st
    exact ⟨⟨old, k e (by simp) _ he⟩, ⟨f0, f1, k z (by simp) _ hz, hf⟩, k TI (by simp) _ hTI, ⟨x, y, k TO (by simp) _ hTO⟩, h1.at fun o q => k i1 (by simp) o q, h2.at fun o q => k i2 (by simp) o q⟩
  item := by
    intro X hP hw hK hc i pins s σ H E I hf st hg
    subst hP hw hK
    obtain ⟨⟨old, he⟩, ⟨f0, f1, hz, hfz⟩, hTI, ⟨x0, y0, hTO⟩, h1, h2⟩ := st
    obtain ⟨xs, ys, x, y, hqx, hqy, hx, hy⟩ := hg
    obtain ⟨its, rv, p, _⟩ := I.list hqx
    obtain ⟨its2, rv2, p2, _⟩ := I.list hqy
    obtain ⟨u, hu, ru⟩ := rv.get hx
    obtain ⟨u2, hu2, ru2⟩ := rv2.get hy
    have hel : e < s.heap.objs.size := Heap.lt_size he
    have hzl : z < s.heap.objs.size := Heap.lt_size hz
    have hIl : TI < s.heap.objs.size := Heap.lt_size hTI
    have hOl : TO < s.heap.objs.size := Heap.lt_size hTO
    have h1l : i1 < s.heap.objs.size := by obtain ⟨_, e1, _⟩ := h1; exact Heap.lt_size e1
    have h2l : i2 < s.heap.objs.size := by obtain ⟨_, e2, _⟩ := h2; exact Heap.lt_size e2
    refine enz_next D nz nI nO n1 n2 he hz hfz hTI hTO h1 h2 p.isList p2.isList (x := u) (y := u2) (by simpa using hu) (by simpa using hu2) fun ha hb tk f0' f1' a' b' q1 q2 q3 q4 q5 q6 q7 q8 r1 r2 r3 r4 => ?_
    refine ⟨_, rfl, wpAny_letOwnedTupleGo_enum (s := { s with heap := hb, toks := tk + 1 }) r1 fun hc' he' sb => ?_⟩
    have kc : ∀ c o, c ≠ e → hb.get? c = some o → hc'.get? c = some o := fun c o hce q => (sb.2 c hce).trans q
    have new1 : ObjOk X.prog X.w (upd H s.heap.objs.size (.tup [x, y])) ha s.heap.objs.size (.tup [x, y]) :=
      ⟨by show 2 ≤ sizeLine; decide, [u, u2], .cons ru (.cons ru2 .nil), ⟨_, q6, rfl, _, rfl⟩⟩
    have hf' : ∀ c ∈ [z, TI, TO, i1, i2], FpOk X pins H c := fun c hcm => hf c (List.mem_cons_of_mem _ hcm)
    have I1 : Inv X pins σ (upd H s.heap.objs.size (.tup [x, y])) { s with heap := ha, toks := tk + 1 } :=
      I.turnedNew (t' := tk + 1) (ch := [z, TI, TO, i1, i2]) (fun c o hb q => q8 c o (fun q' => hb (by simp [q'])) (fun q' => hb (by simp [q'])) (fun q' => hb (by simp [q'])) (fun q' => hb (by simp [q'])) q) hf' (Nat.le_refl _) new1
    have hfe : ∀ c ∈ [e], FpOk X pins (upd H s.heap.objs.size (.tup [x, y])) c := fun c hcm => by
      rw [List.mem_singleton.mp hcm]
      obtain ⟨t0, t1⟩ := hf e (by simp)
      exact ⟨by rw [upd_ne (Nat.ne_of_lt hel)]; exact t0, t1⟩
    have new2 : ObjOk X.prog X.w (upd (upd H s.heap.objs.size (.tup [x, y])) (s.heap.objs.size + 1) (.tup [.int (i : Nat), .ref s.heap.objs.size])) hc' (s.heap.objs.size + 1) (.tup [.int (i : Nat), .ref s.heap.objs.size]) :=
      ⟨by show 2 ≤ sizeLine; decide, [.int i tk, .ref s.heap.objs.size], .cons ⟨_, rfl⟩ (.cons rfl .nil), ⟨_, kc _ _ (Nat.ne_of_gt (Nat.lt_succ_of_lt hel)) r2, rfl, _, rfl⟩⟩
    have I2 : Inv X pins σ (upd (upd H s.heap.objs.size (.tup [x, y])) (s.heap.objs.size + 1) (.tup [.int (i : Nat), .ref s.heap.objs.size])) { s with heap := hc', toks := tk + 1 } :=
      I1.turnedNew (t' := tk + 1) (ch := [e]) (fun c o hb q => kc c o (fun q' => hb (by simp [q'])) (r4 c o (fun q' => hb (by simp [q'])) q)) hfe (Nat.le_of_eq q7) new2
    have e1 : ((i + 1 : Nat) : Int) = (i : Int) + 1 := by omega
    have T1 : upd H s.heap.objs.size (.tup [x, y]) (s.heap.objs.size + 1) = none := by
      rw [upd_ne (Nat.succ_ne_self _)]
      exact I.hok.fresh (Nat.le_succ _)
    refine ⟨.ref (s.heap.objs.size + 1), _, I2, rfl, ⟨_, s.heap.objs.size, x, y, rfl, I.hok.fresh (Nat.le_refl _), T1, rfl, fun l hl => by rw [I.list_inj hl hqx]; exact hx, fun l hl => by rw [I.list_inj hl hqy]; exact hy⟩, ⟨⟨_, by rw [e1]; exact he'⟩, ⟨f0', f1', kc _ _ (Ne.symm nz) (r4 _ _ (Ne.symm nz) q1), q2⟩, ?_, ⟨a', b', kc _ _ (Ne.symm nO) (r4 _ _ (Ne.symm nO) q3)⟩, ?_, ?_⟩, fun c hcm => ?_⟩
    · exact kc _ _ (Ne.symm nI) (r4 _ _ (Ne.symm nI) (q8 _ _ D.TIz D.TITO D.TIi1 D.TIi2 hTI))
    · exact q4.at fun o q => kc _ _ (Ne.symm n1) (r4 _ _ (Ne.symm n1) q)
    · exact q5.at fun o q => kc _ _ (Ne.symm n2) (r4 _ _ (Ne.symm n2) q)
    · have hlt : c < s.heap.objs.size := by
        have e' : c = e ∨ c = z ∨ c = TI ∨ c = TO ∨ c = i1 ∨ c = i2 := by simpa using hcm
        rcases e' with q | q | q | q | q | q <;> (rw [q]; assumption)
      rw [upd_ne (Nat.ne_of_lt (Nat.lt_succ_of_lt hlt)), upd_ne (Nat.ne_of_lt hlt)]
      exact (hf c hcm).1
  done := by
    intro X hP hw hK hc i pins s σ H E I hf st hg
    subst hP hw hK
    obtain ⟨⟨old, he⟩, ⟨f0, f1, hz, hfz⟩, hTI, ⟨x0, y0, hTO⟩, h1, h2⟩ := st
    obtain ⟨xs, ys, hqx, hqy, hend⟩ := hg
    obtain ⟨its, rv, p, _⟩ := I.list hqx
    have l1 := rv.length
    exact enz_end (I.ok.hd hc) D he hz hfz hTI hTO h1 p.isList (by simp; omega) fun h' hk => ⟨rfl, I.turnedL (t' := s.toks) (ch := [e, z, TI, TO, i1, i2]) (fun c o hb q =>
      hk c o (fun q' => hb (by simp [q'])) (fun q' => hb (by simp [q'])) (fun q' => hb (by simp [q'])) (fun q' => hb (by simp [q'])) q) hf⟩
  self := fun A i s Q E st h => let ⟨⟨_, he⟩, _⟩ := st; wpAny_pyIter_enum he h
theorem meets_enumerate_newZ (z TI TO : Addr) :
    Meets (Builtin.«enumerate.__new__» ⟨[.type "enumerate", .ref z], []⟩) (fun _ R s => IsZip s.heap z TI TO .none ∧
      R (.ok (.ret (.ref s.heap.objs.size)))
        { s with heap := s.heap.push { cls := .type "enumerate", data := .fields #[.none, .bool false, .ref z, rawInt 0, .none, .none] } }) :=
  .of_wp fun prog w A R s h => by
    obtain ⟨hp, g, d, tk, os⟩ := s; obtain ⟨hz, h⟩ := h
    have hsub := sub_enumerate
    have hZ : IsZip (Shared.heap ⟨hp, g, d, tk, os⟩) z TI TO .none := hz
    wp_walk using AutoSeq1.wpAny_loadPart' hz
    refine wpAny_stack_any fun st => wpAny_pure ?_
    split
    · rename_i c _ _ _ _ _
      cases (c == Value.type "enumerate")
      · wp_walk using AutoSeq1.wpAny_loadPart' hz, wpAny_pyIter_zip hZ
        exact ⟨_, rfl, h⟩
      · wp_walk using AutoSeq1.wpAny_loadPart' hz, wpAny_pyIter_zip hZ
        exact ⟨_, rfl, h⟩
    · wp_walk using AutoSeq1.wpAny_loadPart' hz, wpAny_pyIter_zip hZ
      exact ⟨_, rfl, h⟩
theorem call_enumerate_zip {prog : Program} {w : World} {A : Around} {E : Value → Shared → Prop} {s : Shared} {z TI TO : Addr} {Q : Value → Shared → Prop} (hz : IsZip s.heap z TI TO .none)
    (h : ∀ h', IsEnum h' s.heap.objs.size z 0 .none → h'.objs.size = s.heap.objs.size + 1 → (∀ b o, s.heap.get? b = some o → h'.get? b = some o) → Q (.ref s.heap.objs.size) { s with heap := h' }) :
    wpAny (model prog w) A (call (.type "enumerate") [.ref z]) Q E s := by
  refine callType_new F.called_enumerate (by decide) (F.typeCall_enumerate_1 _) (F.newCall_enumerate_1 _) (fun obj => F.args_object_init_2 obj _) F.entry_enumerate_new
    (meets_enumerate_newZ z TI TO) ⟨hz, ?_⟩
  have he : IsEnum (s.heap.push { cls := .type "enumerate", data := .fields #[.none, .bool false, .ref z, rawInt 0, .none, .none] }) s.heap.objs.size z 0 .none := Heap.get?_push_size _ rfl
  exact ⟨⟨_, he, rfl⟩, h _ he (by rw [Heap.size_push]) fun b o x => Heap.get?_push_of_some _ x⟩
def iEnz (K : PySem.W.Frag) (ta : TA) : TI := fun σ H R => ta σ H fun vs H1 => ∃ a b xs ys, vs = [.ref a, .ref b] ∧ SqL K H1 a xs ∧ SqL K H1 b ys ∧ R (IteZ K a b) H1
theorem pi_enz {X : Cx} {e e2 : Expr} {ta : TA} {p p2 pos pos2 tpos : Pos} {elts : List Expr} {kk : Nat} (hg : Gl X "enumerate") (hm : X.mg "enumerate" = none) (hg2 : Gl X "zip") (hm2 : X.mg "zip" = none) (ha : PA X [e, e2] ta)
    (hs : starEach [e, e2] X.env = (false, eval e X.env) :: starEach [e2] X.env := by rfl) (hpl : (backTo pos2 (starEach [e2] X.env)).any (·.1) = false := by rfl)
    (hs1 : starEach [.Call (.Name "zip" p2) [e, e2] [] pos2] X.env = (false, eval (.Call (.Name "zip" p2) [e, e2] [] pos2) X.env) :: starEach [] X.env := by rfl) :
    PI X (.Tuple elts kk tpos) (.Call (.Name "enumerate" p) [.Call (.Name "zip" p2) [e, e2] [] pos2] [] pos) (iEnz X.K ta) := by
  refine ⟨fun pins s σ H R I h => ?_⟩
  refine Call_ (ld_blt I hg hm boot_enumerate (PyProof.Rows.callWith_type1 (PyProof.Rows.args_cons ?_ hs1) hs1 rfl))
  refine Call_ (ld_blt I hg2 hm2 PyProof.Rows.boot_zip (PyProof.Rows.callWith_type1 (thn (ha.run pos2 pins s σ H _ I h) fun us s1 ⟨vs, H1, I1, r1, q1⟩ => ?_) hs hpl))
  obtain ⟨a, b, xs, ys, ex, hqx, hqy, q⟩ := q1
  subst ex
  cases r1 with
  | cons r rr =>
    cases rr with
    | cons r' rr =>
      cases rr
      cases r
      cases r'
      obtain ⟨its, rv, p1, _⟩ := I1.list hqx
      obtain ⟨its2, rv2, p2, _⟩ := I1.list hqy
      refine call_zip_2 p1.isList p2.isList fun h' hz hTI hTO h1 h2 hsz hk => PyProof.Rows.args_nil ?_
      refine call_enumerate_zip (s := { s1 with heap := h' }) hz fun h2' he hsz2 hk2 => wpAny_pyIter_enum he ?_
      have I2 : Inv X pins σ H1 { s1 with heap := h2' } := I1.kept (t' := s1.toks) fun c o q => hk2 c o (hk c o q)
      have D := PySem.W.ktu_apart s1.heap.objs.size a b p1.lt p2.lt
      have es : h'.objs.size = s1.heap.objs.size + 5 := hsz
      have neq : ∀ j : Nat, j < 5 → h'.objs.size ≠ s1.heap.objs.size + j := fun j hj e => by rw [es] at e; have := Nat.add_left_cancel e; omega
      refine ⟨h'.objs.size, [h'.objs.size, s1.heap.objs.size + 4, s1.heap.objs.size + 2, s1.heap.objs.size + 3, s1.heap.objs.size, s1.heap.objs.size + 1], _, _, H1, rfl, I2, turn_enz D (neq 4 (by decide)) (neq 2 (by decide)) (neq 3 (by decide)) (neq 0 (by decide)) (neq 1 (by decide)), ⟨⟨_, he⟩, ⟨_, _, hk2 _ _ hz, .inl rfl⟩, hk2 _ _ hTI, ⟨_, _, hk2 _ _ hTO⟩, h1.at fun o q => hk2 _ o q, h2.at fun o q => hk2 _ o q⟩, fun c hcm => ?_, q⟩
      have hle : s1.heap.objs.size ≤ c := by
        have e' : c = h'.objs.size ∨ c = s1.heap.objs.size + 4 ∨ c = s1.heap.objs.size + 2 ∨ c = s1.heap.objs.size + 3 ∨ c = s1.heap.objs.size ∨ c = s1.heap.objs.size + 1 := by simpa using hcm
        rcases e' with q | q | q | q | q | q
        · rw [q, es]; exact Nat.le_add_right _ _
        · rw [q]; exact Nat.le_add_right _ _
        · rw [q]; exact Nat.le_add_right _ _
        · rw [q]; exact Nat.le_add_right _ _
        · rw [q]; exact Nat.le_refl _
        · rw [q]; exact Nat.le_add_right _ _
      exact I1.fpOk hle (I1.hok.fresh hle)
section
variable {K : PySem.W.Frag} {a b : Addr} {xs ys : List V} {tb : TS} {D : Ends} {σ : L2.St} {H : Hp}
theorem walk_enz (hl : xs.length = ys.length) : Walk (IteZ K a b) xs.length (fun H => SqL K H a xs ∧ SqL K H b ys) (fun i H v H' => ∃ T T2 x y, v = .ref T ∧ H T2 = none ∧ upd H T2 (.tup [x, y]) T = none ∧ H' = upd (upd H T2 (.tup [x, y])) T (.tup [.int (i : Nat), .ref T2]) ∧ xs[i]? = some x ∧ ys[i]? = some y) := by
  refine ⟨fun i _ hi q => ?_, fun _ q => ⟨xs, ys, q.1, q.2, Nat.le_refl _⟩, fun i H v H' _ q y => ?_⟩
  · have h2 : i < ys.length := by omega
    exact ⟨xs, ys, xs[i], ys[i], q.1, q.2, by simp [hi], by simp [h2]⟩
  · obtain ⟨T, T2, x, z, h1, h2, h3, h4, h5, h6⟩ := y
    exact ⟨T, T2, x, z, h1, h2, h3, h4, h5 xs q.1, h6 ys q.2⟩
/-- for i, (x, y) in enumerate(zip(list, list)): slots c, d and f -/
theorem u_enz {c d f n m : Nat} (hx : SqL K H a xs) (hy : SqL K H b ys) (hl : xs.length = ys.length) (Pv : Nat → L2.St → Hp → Prop) (h0 : Pv 0 σ H) (hG : ∀ i σ H, i ≤ xs.length → Pv i σ H → SqL K H a xs ∧ SqL K H b ys)
    (hs : ∀ i x y σ H H', xs[i]? = some x → ys[i]? = some y → Pv i σ H → Ext H H' → tb { D with nx := Pv (i + 1), ct := Pv (i + 1), bk := D.nx } (((σ.set c (some (.int (i : Int)))).set d (some x)).set f (some y)) H') (hd : ∀ σ H, Pv xs.length σ H → D.nx σ H) (hn : n = 2 := by rfl) (hm : m = 2 := by rfl) :
    ForW (gTup K n (gCons (gName c) (gCons (gTup K m (gCons (gName d) (gCons (gName f) gNil))) gNil))) tb D σ (IteZ K a b) H := by
  subst hn
  subst hm
  refine for_it (walk_enz hl) Pv h0 hG (fun i v σ H H' hi p y => ?_) hd
  obtain ⟨T, T2, x, z, rfl, hT2, hT, rfl, e1, e2⟩ := y
  exact ⟨T, _, rfl, SqT.of upd_same, rfl, _, _, rfl, _, _, rfl, ⟨T2, _, rfl, SqT.of ((Ext.new hT) _ _ upd_same), rfl, _, _, rfl, _, _, rfl, rfl, rfl, hs i x z σ H _ e1 e2 p ((Ext.new hT2).new' hT)⟩⟩
end
theorem g_ienz {K : PySem.W.Frag} {ta : TA} {σ : L2.St} {H : Hp} {R : It → Hp → Prop} (h : ta σ H fun vs H1 => ∃ a b xs ys, vs = [.ref a, .ref b] ∧ SqL K H1 a xs ∧ SqL K H1 b ys ∧ R (IteZ K a b) H1) : iEnz K ta σ H R := h
end G

/-! Items that an item passes, by counting. -/
namespace G
open PySem PySem.Spec PyProof.Rows L2 M
variable {s : Nat → Nat} {f : Nat}
def low (s : Nat → Nat) (p n : Nat) : Nat := sm n fun t => cc (s t < p)
theorem div_same {x q p : Nat} (h : x.testBit q = false) (hq : q ≤ p) : (x + 2 ^ q) / 2 ^ (p + 1) = x / 2 ^ (p + 1) := by
  have e : 2 ^ (p + 1) = 2 ^ (q + 1) * 2 ^ (p - q) := by rw [← Nat.pow_add]; congr 1; omega
  rw [e, ← Nat.div_div_eq_div_mul, ← Nat.div_div_eq_div_mul]
  congr 1
  have nb := no_bit h
  have p1 : (2 : Nat) ^ (q + 1) = 2 * 2 ^ q := by rw [Nat.pow_succ]; omega
  have dm := Nat.div_add_mod x (2 ^ (q + 1))
  have hp : 0 < 2 ^ (q + 1) := Nat.two_pow_pos _
  refine Nat.div_eq_of_lt_le ?_ ?_
  · rw [Nat.mul_comm]; omega
  · rw [Nat.mul_comm, Nat.mul_add]; omega
theorem div_more {x q p : Nat} (hq : p + 1 ≤ q) : (x + 2 ^ q) / 2 ^ (p + 1) = x / 2 ^ (p + 1) + 2 ^ (q - (p + 1)) := by
  have e : 2 ^ q = 2 ^ (q - (p + 1)) * 2 ^ (p + 1) := by rw [← Nat.pow_add]; congr 1; omega
  rw [e, Nat.add_mul_div_right _ _ (Nat.two_pow_pos _)]
theorem hi_sum {p : Nat} : ∀ n, (∀ a b, a < n → b < n → s a = s b → a = b) → (∀ t, t < n → s t ≠ p) → ∀ G : Nat → Nat, ∃ k, sm (2 ^ n) (fun v => G (xs s f n v / 2 ^ (p + 1))) = k * 2 ^ low s p n
  | 0, _, _, G => ⟨sm (2 ^ 0) fun v => G (xs s f 0 v / 2 ^ (p + 1)), by
    show _ = _ * 2 ^ 0
    rw [Nat.pow_zero, Nat.mul_one]⟩
  | n + 1, inj, ne, G => by
    have inj' : ∀ a b, a < n → b < n → s a = s b → a = b := fun a b ha hb => inj a b (by omega) (by omega)
    have nb : ∀ v, (xs s f n v).testBit (s n) = false := fun v => (xs_bits inj' v).2 (s n) fun t ht e => by have := inj t n (by omega) (by omega) e; omega
    have lw : low s p (n + 1) = low s p n + cc (s n < p) := rfl
    rw [sm_pow]
    have e1 : sm (2 ^ n) (fun v => G (xs s f (n + 1) v / 2 ^ (p + 1))) = sm (2 ^ n) fun v => G ((xs s f n v + (if f.testBit n then 2 ^ s n else 0)) / 2 ^ (p + 1)) := sm_congr fun v hv => by rw [xs_lo hv]
    have e2 : sm (2 ^ n) (fun v => G (xs s f (n + 1) (2 ^ n + v) / 2 ^ (p + 1))) = sm (2 ^ n) fun v => G ((xs s f n v + (if f.testBit n then 0 else 2 ^ s n)) / 2 ^ (p + 1)) := sm_congr fun v hv => by rw [xs_hi hv]
    rw [e1, e2]
    have np := ne n (by omega)
    have m0 : ∀ (b : Bool) (x y : Nat), (if b = true then x else y) = bif b then x else y := fun b x y => by cases b <;> rfl
    have T0 : sm (2 ^ n) (fun v => G ((xs s f n v + (if f.testBit n then 2 ^ s n else 0)) / 2 ^ (p + 1))) + sm (2 ^ n) (fun v => G ((xs s f n v + (if f.testBit n then 0 else 2 ^ s n)) / 2 ^ (p + 1))) = sm (2 ^ n) (fun v => G (xs s f n v / 2 ^ (p + 1))) + sm (2 ^ n) (fun v => G ((xs s f n v + 2 ^ s n) / 2 ^ (p + 1))) := by
      cases f.testBit n
      · congr 1
      · rw [Nat.add_comm]
        congr 1
    rw [T0]
    by_cases c : s n < p
    · obtain ⟨k, hk⟩ := hi_sum n inj' (fun t ht => ne t (by omega)) G
      have z : ∀ v, (xs s f n v + 2 ^ s n) / 2 ^ (p + 1) = xs s f n v / 2 ^ (p + 1) := fun v => div_same (nb v) (by omega)
      refine ⟨k, ?_⟩
      have e3 : 2 ^ (low s p n + 1) = 2 * 2 ^ low s p n := by rw [Nat.pow_succ, Nat.mul_comm]
      rw [lw, cc_yes c, e3, sm_congr (f := fun v => G ((xs s f n v + 2 ^ s n) / 2 ^ (p + 1))) (g := fun v => G (xs s f n v / 2 ^ (p + 1))) fun v _ => congrArg G (z v), hk, Nat.mul_left_comm]
      omega
    · have z : ∀ v, (xs s f n v + 2 ^ s n) / 2 ^ (p + 1) = xs s f n v / 2 ^ (p + 1) + 2 ^ (s n - (p + 1)) := fun v => div_more (by omega)
      obtain ⟨k, hk⟩ := hi_sum n inj' (fun t ht => ne t (by omega)) G
      obtain ⟨k2, hk2⟩ := hi_sum n inj' (fun t ht => ne t (by omega)) fun x => G (x + 2 ^ (s n - (p + 1)))
      refine ⟨k + k2, ?_⟩
      have lw' : low s p (n + 1) = low s p n := by rw [lw, cc_no c]; rfl
      rw [lw', Nat.add_mul, ← hk, ← hk2, sm_congr (f := fun v => G ((xs s f n v + 2 ^ s n) / 2 ^ (p + 1))) (g := fun v => G (xs s f n v / 2 ^ (p + 1) + 2 ^ (s n - (p + 1)))) fun v _ => congrArg G (z v)]
instance (s : Nat → Nat) (p n u v : Nat) : Decidable (eqA s p n u v) := inferInstanceAs (Decidable (∀ t, t < n → p < s t → u.testBit t = v.testBit t))
theorem eqA_one {p : Nat} (u : Nat) : ∀ n, (∀ t, t < n → s t ≠ p) → sm (2 ^ n) (fun v => cc (eqA s p n u v)) = 2 ^ low s p n
  | 0, _ => by
    show 0 + cc _ = 2 ^ 0
    have z : eqA s p 0 u 0 := fun t ht => absurd ht (Nat.not_lt_zero _)
    rw [cc_yes z]
  | n + 1, ne => by
    have lw : low s p (n + 1) = low s p n + cc (s n < p) := rfl
    have ih := eqA_one u n fun t ht => ne t (by omega)
    have np := ne n (by omega)
    rw [sm_pow]
    have e1 : sm (2 ^ n) (fun v => cc (eqA s p (n + 1) u v)) = sm (2 ^ n) fun v => cc (eqA s p n u v ∧ (p < s n → u.testBit n = false)) := sm_congr fun v hv => cc_congr ⟨fun h => ⟨fun t ht => h t (by omega), fun c => by rw [h n (by omega) c, Nat.testBit_lt_two_pow hv]⟩, fun h t ht c => by
      by_cases e : t = n
      · subst e; rw [h.2 c, Nat.testBit_lt_two_pow hv]
      · exact h.1 t (by omega) c⟩
    have e2 : sm (2 ^ n) (fun v => cc (eqA s p (n + 1) u (2 ^ n + v))) = sm (2 ^ n) fun v => cc (eqA s p n u v ∧ (p < s n → u.testBit n = true)) := sm_congr fun v hv => cc_congr ⟨fun h => ⟨fun t ht c => by rw [h t (by omega) c, bit_low ht], fun c => by rw [h n (by omega) c, bit_top hv]⟩, fun h t ht c => by
      by_cases e : t = n
      · subst e; rw [h.2 c, bit_top hv]
      · rw [h.1 t (by omega) c, bit_low (by omega)]⟩
    rw [e1, e2]
    by_cases c : s n < p
    · have e3 : 2 ^ (low s p n + 1) = 2 * 2 ^ low s p n := by rw [Nat.pow_succ, Nat.mul_comm]
      rw [lw, cc_yes c, e3, sm_congr (g := fun v => cc (eqA s p n u v)) fun v _ => cc_congr ⟨fun h => h.1, fun h => ⟨h, fun c2 => absurd c2 (by omega)⟩⟩, sm_congr (f := fun v => cc (eqA s p n u v ∧ (p < s n → u.testBit n = true))) (g := fun v => cc (eqA s p n u v)) fun v _ => cc_congr ⟨fun h => h.1, fun h => ⟨h, fun c2 => absurd c2 (by omega)⟩⟩, ih]
      omega
    · have c2 : p < s n := by omega
      rw [lw, cc_no c, Nat.add_zero, ← ih]
      cases b : u.testBit n
      · rw [sm_congr (f := fun v => cc (eqA s p n u v ∧ (p < s n → false = false))) (g := fun v => cc (eqA s p n u v)) fun v _ => cc_congr ⟨fun h => h.1, fun h => ⟨h, fun _ => rfl⟩⟩, sm_zero (f := fun v => cc (eqA s p n u v ∧ (p < s n → false = true))) fun v _ => cc_no fun h => absurd (h.2 c2) Bool.false_ne_true]
        rfl
      · rw [sm_zero (f := fun v => cc (eqA s p n u v ∧ (p < s n → true = false))) fun v _ => cc_no fun h => absurd (h.2 c2).symm Bool.false_ne_true, sm_congr (f := fun v => cc (eqA s p n u v ∧ (p < s n → true = true))) (g := fun v => cc (eqA s p n u v)) fun v _ => cc_congr ⟨fun h => h.1, fun h => ⟨h, fun _ => rfl⟩⟩]
        omega
theorem lt_hi {a b p : Nat} (ha : a.testBit p = false) (hb : b.testBit p = false) : a + 2 ^ p < b ↔ a / 2 ^ (p + 1) < b / 2 ^ (p + 1) := by
  have h1 := no_bit ha
  have h2 := no_bit hb
  have d1 := Nat.div_add_mod a (2 ^ (p + 1))
  have d2 := Nat.div_add_mod b (2 ^ (p + 1))
  have p1 : (2 : Nat) ^ (p + 1) = 2 * 2 ^ p := by rw [Nat.pow_succ]; omega
  generalize a / 2 ^ (p + 1) = x at *
  generalize b / 2 ^ (p + 1) = y at *
  constructor
  · intro h
    refine Nat.lt_of_not_le fun c => ?_
    have := Nat.mul_le_mul_left (2 ^ (p + 1)) c
    omega
  · intro h
    have := Nat.mul_le_mul_left (2 ^ (p + 1)) (show x + 1 ≤ y from h)
    rw [Nat.mul_add] at this
    omega
theorem le_hi {a b p : Nat} (ha : a.testBit p = false) (hb : b.testBit p = false) : a < b + 2 ^ p ↔ a / 2 ^ (p + 1) ≤ b / 2 ^ (p + 1) := by
  have h1 := no_bit ha
  have h2 := no_bit hb
  have d1 := Nat.div_add_mod a (2 ^ (p + 1))
  have d2 := Nat.div_add_mod b (2 ^ (p + 1))
  have p1 : (2 : Nat) ^ (p + 1) = 2 * 2 ^ p := by rw [Nat.pow_succ]; omega
  generalize a / 2 ^ (p + 1) = x at *
  generalize b / 2 ^ (p + 1) = y at *
  constructor
  · intro h
    refine Nat.le_of_not_lt fun c => ?_
    have := Nat.mul_le_mul_left (2 ^ (p + 1)) (show y + 1 ≤ x from c)
    rw [Nat.mul_add] at this
    omega
  · intro h
    have := Nat.mul_le_mul_left (2 ^ (p + 1)) h
    omega
/-- how many words lie ahead of that of u -/
def wdu (s : Nat → Nat) (f n u : Nat) : Nat := sm (2 ^ n) fun v => cc (xs s f n v < xs s f n u)
theorem sm_pos {n i : Nat} {g : Nat → Nat} (hi : i < n) (h : 0 < g i) : 0 < sm n g := by
  induction n with
  | zero => omega
  | succ n ih =>
    show 0 < sm n g + g n
    by_cases e : i = n
    · subst e; omega
    · have := ih (by omega); omega
theorem xs_mod (n u : Nat) : xs s f n (u % 2 ^ n) = xs s f n u := sm_congr fun t ht => by rw [Nat.testBit_mod_two_pow, decide_eq_true ht, Bool.true_and]
theorem wdu_cut {p n : Nat} (inj : ∀ a b, a < n → b < n → s a = s b → a = b) (ne : ∀ t, t < n → s t ≠ p) (u : Nat) :
    sm (2 ^ n) (fun v => cc (xs s f n v / 2 ^ (p + 1) < xs s f n u / 2 ^ (p + 1))) = wdu s f n u / 2 ^ low s p n * 2 ^ low s p n ∧
    sm (2 ^ n) (fun v => cc (xs s f n v / 2 ^ (p + 1) ≤ xs s f n u / 2 ^ (p + 1))) = (wdu s f n u / 2 ^ low s p n + 1) * 2 ^ low s p n := by
  obtain ⟨k, hk⟩ := hi_sum (f := f) n inj ne fun x => cc (x < xs s f n u / 2 ^ (p + 1))
  have eq : sm (2 ^ n) (fun v => cc (xs s f n u / 2 ^ (p + 1) = xs s f n v / 2 ^ (p + 1))) = 2 ^ low s p n := by
    rw [← eqA_one u n ne]
    exact sm_congr fun v _ => cc_congr (eqA_div inj u v).symm
  have le : sm (2 ^ n) (fun v => cc (xs s f n v / 2 ^ (p + 1) ≤ xs s f n u / 2 ^ (p + 1))) = k * 2 ^ low s p n + 2 ^ low s p n := by
    rw [← hk, ← eq, ← sm_add]
    refine sm_congr fun v _ => ?_
    unfold cc
    split <;> split <;> split <;> omega
  have w : wdu s f n u = k * 2 ^ low s p n + sm (2 ^ n) fun v => cc (xs s f n u / 2 ^ (p + 1) = xs s f n v / 2 ^ (p + 1) ∧ xs s f n v < xs s f n u) := by
    unfold wdu
    rw [← hk, ← sm_add]
    refine sm_congr fun v _ => ?_
    have m : xs s f n v < xs s f n u → xs s f n v / 2 ^ (p + 1) ≤ xs s f n u / 2 ^ (p + 1) := fun h => Nat.div_le_div_right (Nat.le_of_lt h)
    have m2 : xs s f n v / 2 ^ (p + 1) < xs s f n u / 2 ^ (p + 1) → xs s f n v < xs s f n u := fun h => Nat.lt_of_not_le fun c => absurd (Nat.div_le_div_right (c := 2 ^ (p + 1)) c) (by omega)
    unfold cc
    split <;> split <;> split <;> omega
  have r : (sm (2 ^ n) fun v => cc (xs s f n u / 2 ^ (p + 1) = xs s f n v / 2 ^ (p + 1) ∧ xs s f n v < xs s f n u)) < 2 ^ low s p n := by
    have t : (sm (2 ^ n) fun v => cc (xs s f n u / 2 ^ (p + 1) = xs s f n v / 2 ^ (p + 1))) = (sm (2 ^ n) fun v => cc (xs s f n u / 2 ^ (p + 1) = xs s f n v / 2 ^ (p + 1) ∧ xs s f n v < xs s f n u)) + sm (2 ^ n) fun v => cc (xs s f n u / 2 ^ (p + 1) = xs s f n v / 2 ^ (p + 1) ∧ ¬ xs s f n v < xs s f n u) := by
      rw [← sm_add]
      refine sm_congr fun v _ => ?_
      unfold cc
      split <;> split <;> split <;> omega
    have pos : 0 < sm (2 ^ n) fun v => cc (xs s f n u / 2 ^ (p + 1) = xs s f n v / 2 ^ (p + 1) ∧ ¬ xs s f n v < xs s f n u) := sm_pos (i := u % 2 ^ n) (Nat.mod_lt _ (Nat.two_pow_pos _)) (by
      rw [xs_mod, cc_yes ⟨rfl, Nat.lt_irrefl _⟩]
      exact Nat.one_pos)
    rw [eq] at t
    omega
  have q : wdu s f n u / 2 ^ low s p n = k := by
    rw [w, Nat.add_comm, Nat.add_mul_div_right _ _ (Nat.two_pow_pos _), Nat.div_eq_of_lt r, Nat.zero_add]
  rw [q, hk, le, Nat.add_mul, Nat.one_mul]
  exact ⟨rfl, rfl⟩
/-- how many go farther, of those that come from below: by the new places -/
def gone (s : Nat → Nat) (f n u : Nat) : Nat := sm (2 ^ n) fun v => cc (u % 2 ^ n < v ∧ xs s f n v < xs s f n u)
theorem gone_step {n : Nat} (inj : ∀ a b, a < n + 1 → b < n + 1 → s a = s b → a = b) (u : Nat) :
    wdu s f (n + 1) u = wdu s f n u + (wdu s f n u / 2 ^ low s (s n) n + (u.testBit n ^^ f.testBit n).toNat) * 2 ^ low s (s n) n ∧
    gone s f (n + 1) u = gone s f n u + (if u.testBit n = false then (wdu s f n u / 2 ^ low s (s n) n + (u.testBit n ^^ f.testBit n).toNat) * 2 ^ low s (s n) n else 0) := by
  have inj' : ∀ a b, a < n → b < n → s a = s b → a = b := fun a b ha hb => inj a b (by omega) (by omega)
  have ne : ∀ t, t < n → s t ≠ s n := fun t ht e => by have := inj t n (by omega) (by omega) e; omega
  have nb : ∀ v, (xs s f n v).testBit (s n) = false := fun v => (xs_bits inj' v).2 (s n) ne
  obtain ⟨c1, c2⟩ := wdu_cut (f := f) inj' ne u
  generalize hX : wdu s f n u / 2 ^ low s (s n) n = k at *
  generalize hL : 2 ^ low s (s n) n = L at *
  have eu : xs s f (n + 1) u = xs s f n u + (if (u.testBit n ^^ f.testBit n) then 2 ^ s n else 0) := rfl
  have l1 : sm (2 ^ n) (fun v => cc (xs s f n v + 2 ^ s n < xs s f n u)) = k * L := by
    rw [← c1]; exact sm_congr fun v _ => cc_congr (lt_hi (nb v) (nb u))
  have l2 : sm (2 ^ n) (fun v => cc (xs s f n v < xs s f n u + 2 ^ s n)) = (k + 1) * L := by
    rw [← c2]; exact sm_congr fun v _ => cc_congr (le_hi (nb v) (nb u))
  have l3 : sm (2 ^ n) (fun v => cc (xs s f n v + 2 ^ s n < xs s f n u + 2 ^ s n)) = wdu s f n u := sm_congr fun v _ => cc_congr (by omega)
  have um : u % 2 ^ (n + 1) = u % 2 ^ n + 2 ^ n * (u.testBit n).toNat := by
    rw [Nat.pow_succ, Nat.mod_mul, Nat.testBit_eq_decide_div_mod_eq]
    congr 2
    have : u / 2 ^ n % 2 < 2 := Nat.mod_lt _ (by decide)
    by_cases c : u / 2 ^ n % 2 = 1
    · rw [decide_eq_true c, c]; rfl
    · rw [decide_eq_false c]
      show _ = 0
      omega
  have ul : u % 2 ^ n < 2 ^ n := Nat.mod_lt _ (Nat.two_pow_pos _)
  constructor
  · unfold wdu
    rw [sm_pow]
    rw [sm_congr (f := fun v => cc (xs s f (n + 1) v < xs s f (n + 1) u)) (g := fun v => cc (xs s f n v + (if f.testBit n then 2 ^ s n else 0) < xs s f (n + 1) u)) fun v hv => by rw [xs_lo hv]]
    rw [sm_congr (f := fun v => cc (xs s f (n + 1) (2 ^ n + v) < xs s f (n + 1) u)) (g := fun v => cc (xs s f n v + (if f.testBit n then 0 else 2 ^ s n) < xs s f (n + 1) u)) fun v hv => by rw [xs_hi hv]]
    rw [eu]
    show _ = wdu s f n u + _
    cases u.testBit n <;> cases f.testBit n
    · show sm (2 ^ n) (fun v => cc (xs s f n v + 0 < xs s f n u + 0)) + sm (2 ^ n) (fun v => cc (xs s f n v + 2 ^ s n < xs s f n u + 0)) = wdu s f n u + (k + 0) * L
      simp only [Nat.add_zero]
      rw [l1]
      rfl
    · show sm (2 ^ n) (fun v => cc (xs s f n v + 2 ^ s n < xs s f n u + 2 ^ s n)) + sm (2 ^ n) (fun v => cc (xs s f n v + 0 < xs s f n u + 2 ^ s n)) = wdu s f n u + (k + 1) * L
      simp only [Nat.add_zero]
      rw [l2, l3]
    · show sm (2 ^ n) (fun v => cc (xs s f n v + 0 < xs s f n u + 2 ^ s n)) + sm (2 ^ n) (fun v => cc (xs s f n v + 2 ^ s n < xs s f n u + 2 ^ s n)) = wdu s f n u + (k + 1) * L
      simp only [Nat.add_zero]
      rw [l2, l3]
      omega
    · show sm (2 ^ n) (fun v => cc (xs s f n v + 2 ^ s n < xs s f n u + 0)) + sm (2 ^ n) (fun v => cc (xs s f n v + 0 < xs s f n u + 0)) = wdu s f n u + (k + 0) * L
      simp only [Nat.add_zero]
      rw [l1]
      show _ + wdu s f n u = _
      omega
  · unfold gone
    rw [sm_pow, um]
    rw [sm_congr (f := fun v => cc (u % 2 ^ n + 2 ^ n * (u.testBit n).toNat < v ∧ xs s f (n + 1) v < xs s f (n + 1) u)) (g := fun v => cc (u % 2 ^ n + 2 ^ n * (u.testBit n).toNat < v ∧ xs s f n v + (if f.testBit n then 2 ^ s n else 0) < xs s f (n + 1) u)) fun v hv => by rw [xs_lo hv]]
    rw [sm_congr (f := fun v => cc (u % 2 ^ n + 2 ^ n * (u.testBit n).toNat < 2 ^ n + v ∧ xs s f (n + 1) (2 ^ n + v) < xs s f (n + 1) u)) (g := fun v => cc (u % 2 ^ n + 2 ^ n * (u.testBit n).toNat < 2 ^ n + v ∧ xs s f n v + (if f.testBit n then 0 else 2 ^ s n) < xs s f (n + 1) u)) fun v hv => by rw [xs_hi hv]]
    rw [eu]
    cases u.testBit n <;> cases f.testBit n
    · rw [if_pos rfl]
      show sm (2 ^ n) (fun v => cc (u % 2 ^ n + 0 < v ∧ xs s f n v + 0 < xs s f n u + 0)) + sm (2 ^ n) (fun v => cc (u % 2 ^ n + 0 < 2 ^ n + v ∧ xs s f n v + 2 ^ s n < xs s f n u + 0)) = _ + (k + 0) * L
      simp only [Nat.add_zero]
      rw [← l1]
      congr 1
      exact sm_congr fun v _ => cc_congr ⟨fun h => h.2, fun h => ⟨by omega, h⟩⟩
    · rw [if_pos rfl]
      show sm (2 ^ n) (fun v => cc (u % 2 ^ n + 0 < v ∧ xs s f n v + 2 ^ s n < xs s f n u + 2 ^ s n)) + sm (2 ^ n) (fun v => cc (u % 2 ^ n + 0 < 2 ^ n + v ∧ xs s f n v + 0 < xs s f n u + 2 ^ s n)) = _ + (k + 1) * L
      simp only [Nat.add_zero]
      rw [← l2]
      congr 1
      · exact sm_congr fun v _ => cc_congr ⟨fun h => ⟨h.1, by omega⟩, fun h => ⟨h.1, by omega⟩⟩
      · exact sm_congr fun v _ => cc_congr ⟨fun h => h.2, fun h => ⟨by omega, h⟩⟩
    · rw [if_neg (show ¬ (true = false) from fun z => by cases z)]
      show sm (2 ^ n) (fun v => cc (u % 2 ^ n + 2 ^ n * 1 < v ∧ xs s f n v + 0 < xs s f n u + 2 ^ s n)) + sm (2 ^ n) (fun v => cc (u % 2 ^ n + 2 ^ n * 1 < 2 ^ n + v ∧ xs s f n v + 2 ^ s n < xs s f n u + 2 ^ s n)) = _ + 0
      rw [sm_zero fun v hv => cc_no fun h => by omega, Nat.zero_add]
      exact sm_congr fun v _ => cc_congr ⟨fun h => ⟨by omega, by omega⟩, fun h => ⟨by omega, by omega⟩⟩
    · rw [if_neg (show ¬ (true = false) from fun z => by cases z)]
      show sm (2 ^ n) (fun v => cc (u % 2 ^ n + 2 ^ n * 1 < v ∧ xs s f n v + 2 ^ s n < xs s f n u + 0)) + sm (2 ^ n) (fun v => cc (u % 2 ^ n + 2 ^ n * 1 < 2 ^ n + v ∧ xs s f n v + 0 < xs s f n u + 0)) = _ + 0
      rw [sm_zero fun v hv => cc_no fun h => by omega, Nat.zero_add]
      exact sm_congr fun v _ => cc_congr ⟨fun h => ⟨by omega, by omega⟩, fun h => ⟨by omega, by omega⟩⟩
/-- the items from below that go above -/
def psd (ts : List Nat) (fl p : Nat) : Nat := sm (2 ^ ts.length) fun q => cc (q < p ∧ go ts fl p < go ts fl q)
theorem psd_gone {ts : List Nat} (ok : Ts ts) (fl : Nat) {p : Nat} (hp : p < 2 ^ ts.length) : gone (sO ts) fl ts.length (go ts fl p) = psd ts fl p := by
  unfold gone psd
  rw [sm_go ok fl]
  refine sm_congr fun q hq => cc_congr ?_
  rw [xs_go ok fl hp, xs_go ok fl hq, Nat.mod_eq_of_lt (go_lt ts fl p)]
  exact ⟨fun h => ⟨h.2, h.1⟩, fun h => ⟨h.2, h.1⟩⟩
theorem low_oth {ts : List Nat} {t : Nat} (ht : t < ts.length) : oth (srcs ts) t t = low (sO ts) (sO ts t) t := by
  unfold oth low
  refine sm_congr fun h hh => ?_
  have e : ∀ x, x < ts.length → tb (srcs ts) x = sO ts x := fun x hx => by
    unfold tb
    rw [List.getD_eq_getElem?_getD, srcs_at hx]
    rfl
  rw [e h (by omega), e t ht]
  rfl
end G

/-! What holds of the items passed, by counting. -/
namespace G
open PySem PySem.Spec PyProof.Rows L2 M
theorem sm_below (p : Nat) : ∀ N, p ≤ N → sm N (fun q => cc (q < p)) = p
  | 0, h => by
    show 0 = p
    omega
  | N + 1, h => by
    show sm N (fun q => cc (q < p)) + cc (N < p) = p
    by_cases e : p = N + 1
    · subst e
      rw [cc_yes (Nat.lt_succ_self N), sm_congr (g := fun q => cc (q < N)) fun q hq => cc_congr ⟨fun _ => hq, fun _ => by omega⟩, sm_below N N (Nat.le_refl N)]
    · rw [cc_no (by omega), sm_below p N (by omega), Nat.add_zero]
theorem sm_above (p : Nat) {N : Nat} (h : p < N) : sm N (fun q => cc (p < q)) = N - 1 - p := by
  have a : sm N (fun q => cc (p < q)) + sm N (fun q => cc (q < p + 1)) = N := by
    rw [← sm_add, sm_congr (g := fun _ => 1) fun q _ => by unfold cc; split <;> split <;> omega, sm_const]
    omega
  rw [sm_below (p + 1) N h] at a
  omega
theorem sm_only (p : Nat) : ∀ N, p < N → sm N (fun q => cc (q = p)) = 1
  | 0, h => absurd h (Nat.not_lt_zero _)
  | N + 1, h => by
    show sm N (fun q => cc (q = p)) + cc (N = p) = 1
    by_cases e : p = N
    · subst e
      rw [cc_yes rfl, sm_zero fun q hq => cc_no fun z => by omega]
    · rw [cc_no (by omega), sm_only p N (by omega)]
theorem sm_between {a b N : Nat} (hab : a < b) (h : b < N) : sm N (fun q => cc (a < q ∧ q < b)) = b - a - 1 := by
  have t : sm N (fun q => cc (a < q ∧ q < b)) + sm N (fun q => cc (q < a + 1)) = sm N (fun q => cc (q < b)) := by
    rw [← sm_add]
    refine sm_congr fun q _ => ?_
    unfold cc
    (repeat' split) <;> omega
  rw [sm_below _ N (by omega), sm_below _ N (by omega)] at t
  omega
section
variable {ts : List Nat} {fl : Nat}
theorem go_ne (ok : Ts ts) {p q : Nat} (hp : p < 2 ^ ts.length) (hq : q < 2 ^ ts.length) (e : q ≠ p) : go ts fl q ≠ go ts fl p := fun z => e (go_inj ok hq hp z)
theorem below_go (ok : Ts ts) {u : Nat} (hu : u < 2 ^ ts.length) : sm (2 ^ ts.length) (fun q => cc (go ts fl q < u)) = u := by
  rw [← sm_go ok fl fun v => cc (v < u), sm_below _ _ (by omega)]
theorem above_go (ok : Ts ts) {u : Nat} (hu : u < 2 ^ ts.length) : sm (2 ^ ts.length) (fun q => cc (u < go ts fl q)) = 2 ^ ts.length - 1 - u := by
  rw [← sm_go ok fl fun v => cc (u < v), sm_above _ hu]
theorem psd_le (ok : Ts ts) {p : Nat} (hp : p < 2 ^ ts.length) : psd ts fl p ≤ p ∧ psd ts fl p ≤ 2 ^ ts.length - 1 - go ts fl p := by
  constructor
  · have h : psd ts fl p ≤ sm (2 ^ ts.length) fun q => cc (q < p) := sm_le fun q _ => by unfold cc; split <;> split <;> omega
    rw [sm_below p _ (by omega)] at h
    exact h
  · have h : psd ts fl p ≤ sm (2 ^ ts.length) fun q => cc (go ts fl p < go ts fl q) := sm_le fun q _ => by unfold cc; split <;> split <;> omega
    rw [above_go ok (go_lt _ _ _)] at h
    exact h
theorem psd_back (ok : Ts ts) (ok' : Ts (pT ts fl (-1))) (el : (pT ts fl (-1)).length = ts.length) {p : Nat} (hp : p < 2 ^ ts.length) : psd (pT ts fl (-1)) (pF ts fl (-1)) (go ts fl p) + p = go ts fl p + psd ts fl p := by
  have e : psd (pT ts fl (-1)) (pF ts fl (-1)) (go ts fl p) = sm (2 ^ ts.length) fun q => cc (go ts fl q < go ts fl p ∧ p < q) := by
    unfold psd
    rw [el, sm_go ok fl]
    refine sm_congr fun q hq => ?_
    rw [go_fwd ok fl hp, go_fwd ok fl hq]
  have a : sm (2 ^ ts.length) (fun q => cc (q < p)) = sm (2 ^ ts.length) (fun q => cc (q < p ∧ go ts fl q < go ts fl p)) + psd ts fl p := by
    unfold psd
    rw [← sm_add]
    refine sm_congr fun q hq => ?_
    by_cases c : q = p
    · subst c
      unfold cc
      (repeat' split) <;> omega
    · have := go_ne (fl := fl) ok hp hq c
      unfold cc
      (repeat' split) <;> omega
  have b : sm (2 ^ ts.length) (fun q => cc (go ts fl q < go ts fl p)) = sm (2 ^ ts.length) (fun q => cc (q < p ∧ go ts fl q < go ts fl p)) + sm (2 ^ ts.length) fun q => cc (go ts fl q < go ts fl p ∧ p < q) := by
    rw [← sm_add]
    refine sm_congr fun q hq => ?_
    by_cases c : q = p
    · subst c
      unfold cc
      (repeat' split) <;> omega
    · unfold cc
      (repeat' split) <;> omega
  rw [sm_below p _ (by omega)] at a
  rw [below_go ok (go_lt _ _ _)] at b
  rw [e]
  omega
theorem psd_turned (ok : Ts ts) {us : List Nat} {gl n p : Nat} (h1 : 1 ≤ n) (h2 : n ≤ 100) (en : ts.length = n) (eu : us.length = n) (hg : ∀ x, x < 2 ^ n → go us gl x = go ts fl (2 ^ n - 1 - x)) (hp : p < 2 ^ n) : psd ts fl p + psd us gl (2 ^ n - 1 - p) = 2 ^ n - 1 - go ts fl p := by
  subst en
  have gr := fun x (hx : x < 2 ^ ts.length) => go_rev h1 h2 hx
  have okr : Ts (List.range ts.length) := ts_range h1 h2
  have lr : (List.range ts.length).length = ts.length := List.length_range
  have e : psd us gl (2 ^ ts.length - 1 - p) = sm (2 ^ ts.length) fun q => cc (p < q ∧ go ts fl p < go ts fl q) := by
    unfold psd
    rw [eu]
    have s := sm_go okr (2 ^ ts.length - 1) fun x => cc (x < 2 ^ ts.length - 1 - p ∧ go us gl (2 ^ ts.length - 1 - p) < go us gl x)
    rw [lr] at s
    rw [s]
    refine sm_congr fun q hq => ?_
    rw [gr q hq, hg _ (by omega), hg _ (by omega), show 2 ^ ts.length - 1 - (2 ^ ts.length - 1 - p) = p by omega, show 2 ^ ts.length - 1 - (2 ^ ts.length - 1 - q) = q by omega]
    exact cc_congr ⟨fun h => ⟨by omega, h.2⟩, fun h => ⟨by omega, h.2⟩⟩
  rw [e, ← above_go (fl := fl) ok (go_lt ts fl p)]
  unfold psd
  rw [← sm_add]
  refine sm_congr fun q hq => ?_
  by_cases c : q = p
  · subst c
    unfold cc
    (repeat' split) <;> omega
  · have := go_ne (fl := fl) ok hp hq c
    unfold cc
    (repeat' split) <;> omega
theorem psd_next (ok : Ts ts) {p : Nat} (hp : p + 1 < 2 ^ ts.length) :
    (go ts fl (p + 1) < go ts fl p → psd ts fl p + 1 ≤ psd ts fl (p + 1) ∧ psd ts fl (p + 1) + go ts fl (p + 1) ≤ psd ts fl p + go ts fl p) ∧
    (¬ go ts fl (p + 1) < go ts fl p → psd ts fl (p + 1) ≤ psd ts fl p ∧ psd ts fl p + go ts fl p ≤ psd ts fl (p + 1) + go ts fl (p + 1)) := by
  have ne := go_ne (fl := fl) ok (p := p) (q := p + 1) (by omega) hp (by omega)
  constructor
  · intro c
    have e : psd ts fl (p + 1) = sm (2 ^ ts.length) (fun q => cc (q < p ∧ go ts fl (p + 1) < go ts fl q)) + sm (2 ^ ts.length) fun q => cc (q = p) := by
      unfold psd
      rw [← sm_add]
      refine sm_congr fun q hq => ?_
      by_cases z : q = p
      · subst z
        unfold cc
        (repeat' split) <;> omega
      · unfold cc
        (repeat' split) <;> omega
    rw [sm_only p (2 ^ ts.length) (by omega)] at e
    have a : psd ts fl p ≤ sm (2 ^ ts.length) (fun q => cc (q < p ∧ go ts fl (p + 1) < go ts fl q)) := sm_le fun q _ => by unfold cc; split <;> split <;> omega
    have b : sm (2 ^ ts.length) (fun q => cc (q < p ∧ go ts fl (p + 1) < go ts fl q)) ≤ psd ts fl p + sm (2 ^ ts.length) fun q => cc (go ts fl (p + 1) < go ts fl q ∧ go ts fl q < go ts fl p) := by
      unfold psd
      rw [← sm_add]
      refine sm_le fun q hq => ?_
      by_cases z : q = p
      · subst z
        rw [cc_no fun z => Nat.lt_irrefl _ z.1]
        exact Nat.zero_le _
      · have := go_ne (fl := fl) ok (p := p) (q := q) (by omega) hq z
        unfold cc
        (repeat' split) <;> omega
    rw [← sm_go ok fl fun v => cc (go ts fl (p + 1) < v ∧ v < go ts fl p), sm_between c (go_lt _ _ _)] at b
    omega
  · intro c
    have e : psd ts fl (p + 1) = sm (2 ^ ts.length) (fun q => cc (q < p ∧ go ts fl (p + 1) < go ts fl q)) := by
      unfold psd
      refine sm_congr fun q hq => cc_congr ⟨fun h => ⟨?_, h.2⟩, fun h => ⟨by omega, h.2⟩⟩
      by_cases z : q = p
      · subst z; exact absurd h.2 (by omega)
      · omega
    have a : sm (2 ^ ts.length) (fun q => cc (q < p ∧ go ts fl (p + 1) < go ts fl q)) ≤ psd ts fl p := sm_le fun q _ => by unfold cc; split <;> split <;> omega
    have b : psd ts fl p ≤ sm (2 ^ ts.length) (fun q => cc (q < p ∧ go ts fl (p + 1) < go ts fl q)) + sm (2 ^ ts.length) fun q => cc (go ts fl p < go ts fl q ∧ go ts fl q < go ts fl (p + 1)) := by
      unfold psd
      rw [← sm_add]
      refine sm_le fun q hq => ?_
      by_cases z : q = p + 1
      · subst z
        rw [cc_no fun z => by omega]
        exact Nat.zero_le _
      · have := go_ne (fl := fl) ok hp hq z
        unfold cc
        (repeat' split) <;> omega
    rw [← sm_go ok fl fun v => cc (go ts fl p < v ∧ v < go ts fl (p + 1)), sm_between (by omega) (go_lt _ _ _)] at b
    omega
theorem psd_sum (ok : Ts ts) : sm (2 ^ ts.length) (psd ts fl) = inv ts fl := by
  rw [inv_count ok fl]
  unfold invC psd
  rw [sm_swap]
end
abbrev sp_passed (K : PySem.W.Frag) (C : Addr) : Sp := sp2 fun a b H Q => ∃ (ts : List Nat) (fl p : Nat), IsT C H a ts fl ∧ b = .int (p : Int) ∧ p < 2 ^ ts.length ∧ ∀ H', Ext H H' → Q (.int (psd ts fl p : Int)) H'
end G

/-! zip(text, text) -/
namespace G
open PySem PySem.Spec PyProof.Rows L2 M
open PySem.Sem (wp)
abbrev zipS1 (h : Heap) (x : Str) (t : Tok) : Heap := h.push { cls := .type (strIterType x), data := .fields #[.str x t, .int 0 0] }
abbrev zipS2 (h : Heap) (x : Str) (t : Tok) (y : Str) (u : Tok) : Heap := (zipS1 h x t).push { cls := .type (strIterType y), data := .fields #[.str y u, .int 0 0] }
abbrev zipS3 (h : Heap) (x : Str) (t : Tok) (y : Str) (u : Tok) : Heap := (zipS2 h x t y u).push { cls := .type "tuple", data := .seq #[.ref h.objs.size, .ref (zipS1 h x t).objs.size] }
abbrev zipS4 (h : Heap) (x : Str) (t : Tok) (y : Str) (u : Tok) : Heap := (zipS3 h x t y u).push { cls := .type "tuple", data := .seq #[.none, .none] }
abbrev zipS5 (h : Heap) (x : Str) (t : Tok) (y : Str) (u : Tok) : Heap := (zipS4 h x t y u).push { cls := .type "zip", data := .fields #[.none, .bool false, .bool false, .ref (zipS2 h x t y u).objs.size, .ref (zipS3 h x t y u).objs.size] }
theorem meets_zip_newS (x y : Str) (t u : Tok) :
    Meets (Builtin.«zip.__new__» ⟨[.type "zip", .str x t, .str y u], []⟩) (fun _ R s =>
      R (.ok (.ret (.ref (zipS4 s.heap x t y u).objs.size))) { s with heap := zipS5 s.heap x t y u }) :=
  .of_wp fun prog w A R s h => by
    obtain ⟨hp, g, d, tk, os⟩ := s
    have hsub := sub_zip
    wp_walk using wpAny_pyIter_strU, wpAny_pyIter_strU
    exact ⟨_, rfl, h⟩
theorem call_zipS {prog : Program} {w : World} {A : Around} {E : Value → Shared → Prop} {s : Shared} {x y : Str} {t u : Tok} {Q : Value → Shared → Prop}
    (h : ∀ h', IsZip h' (s.heap.objs.size + 4) (s.heap.objs.size + 2) (s.heap.objs.size + 3) .none → IsPair h' (s.heap.objs.size + 2) (.ref s.heap.objs.size) (.ref (s.heap.objs.size + 1)) →
      IsPair h' (s.heap.objs.size + 3) .none .none → h'.IsStrIter s.heap.objs.size (strIterType x) x t 0 → h'.IsStrIter (s.heap.objs.size + 1) (strIterType y) y u 0 → h'.objs.size = s.heap.objs.size + 5 →
      (∀ c o, s.heap.get? c = some o → h'.get? c = some o) → Q (.ref (s.heap.objs.size + 4)) { s with heap := h' }) :
    wpAny (model prog w) A (call (.type "zip") [.str x t, .str y u]) Q E s := by
  refine callType_new F.called_zip (by decide) (F.typeCall_zip_2 _ _) (F.newCall_zip_2 _ _) (fun obj => F.args_object_init_3 obj _ _) F.entry_zip_new
    (meets_zip_newS x y t u) ?_
  have z1 : (zipS1 s.heap x t).objs.size = s.heap.objs.size + 1 := Heap.size_push ..
  have z2 : (zipS2 s.heap x t y u).objs.size = s.heap.objs.size + 2 := by rw [Heap.size_push, z1]
  have z3 : (zipS3 s.heap x t y u).objs.size = s.heap.objs.size + 3 := by rw [Heap.size_push, z2]
  have z4 : (zipS4 s.heap x t y u).objs.size = s.heap.objs.size + 4 := by rw [Heap.size_push, z3]
  have z5 : (zipS5 s.heap x t y u).objs.size = s.heap.objs.size + 5 := by rw [Heap.size_push, z4]
  have g5 : (zipS5 s.heap x t y u).get? (zipS4 s.heap x t y u).objs.size = some _ := Heap.get?_push_size _ rfl
  have g4 : (zipS5 s.heap x t y u).get? (zipS3 s.heap x t y u).objs.size = some _ := Heap.get?_push_of_some _ (Heap.get?_push_size _ rfl)
  have g3 : (zipS5 s.heap x t y u).get? (zipS2 s.heap x t y u).objs.size = some _ := Heap.get?_push_of_some _ (Heap.get?_push_of_some _ (Heap.get?_push_size _ rfl))
  have g2 : (zipS5 s.heap x t y u).get? (zipS1 s.heap x t).objs.size = some _ := Heap.get?_push_of_some _ (Heap.get?_push_of_some _ (Heap.get?_push_of_some _ (Heap.get?_push_size _ rfl)))
  have g1 : (zipS5 s.heap x t y u).get? s.heap.objs.size = some _ := Heap.get?_push_of_some _ (Heap.get?_push_of_some _ (Heap.get?_push_of_some _ (Heap.get?_push_of_some _ (Heap.get?_push_size _ rfl))))
  show _ ∧ _
  rw [z2, z3, z4] at g5
  rw [z1, z2] at g3
  rw [z3] at g4
  rw [z1] at g2
  rw [z4]
  exact ⟨⟨_, g5, rfl⟩, h _ g5 g3 g4 ⟨_, g1, rfl, rfl⟩ ⟨_, g2, rfl, rfl⟩ z5 fun c o x =>
    Heap.get?_push_of_some _ (Heap.get?_push_of_some _ (Heap.get?_push_of_some _ (Heap.get?_push_of_some _ (Heap.get?_push_of_some _ x))))⟩
/-- pairs of letters -/
def Itzs (x y : Str) : It :=
  ⟨fun i _ => i < x.cps.size ∧ i < y.cps.size,
    fun i H v H' => ∃ T c d, v = .ref T ∧ H T = none ∧ H' = upd H T (.tup [.str ⟨#[c]⟩, .str ⟨#[d]⟩]) ∧ x.cps[i]? = some c ∧ y.cps[i]? = some d,
    fun i _ => i ≤ x.cps.size ∧ i ≤ y.cps.size ∧ (i = x.cps.size ∨ i = y.cps.size)⟩
theorem turn_zipS {P : Program} {w : World} {K : PySem.W.Frag} {elts : List Expr} {kk : Nat} {tpos : Pos} {z TI TO i1 i2 : Addr} {x y : Str} {t u : Tok} (S : ZipSep2 z TI TO i1 i2 [i1] [i2]) :
    Turn P w K (.Tuple elts kk tpos) (Itzs x y) [z, TI, TO, i1, i2] z (fun i h => IsZip h z TI TO .none ∧ IsPair h TI (.ref i1) (.ref i2) ∧ (∃ x y, IsPair h TO x y) ∧ h.IsStrIter i1 (strIterType x) x t i ∧ h.IsStrIter i2 (strIterType y) y u i) where
  mem := by simp
  obj := fun i h st c hc => by
    obtain ⟨hz, hTI, ⟨x, y, hTO⟩, ⟨o1, e1, _, d1⟩, ⟨o2, e2, _, d2⟩⟩ := st
    have e' : c = z ∨ c = TI ∨ c = TO ∨ c = i1 ∨ c = i2 := by simpa using hc
    rcases e' with q | q | q | q | q
    · rw [q]; exact ⟨_, hz, fun v q => nomatch q⟩
    · rw [q]; exact ⟨_, hTI, fun v q => nomatch q⟩
    · rw [q]; exact ⟨_, hTO, fun v q => nomatch q⟩
    · rw [q]; exact ⟨o1, e1, fun v q => by rw [d1] at q; cases q⟩
    · rw [q]; exact ⟨o2, e2, fun v q => by rw [d2] at q; cases q⟩
  keep := fun i h h' st k => by
    obtain ⟨hz, hTI, ⟨x, y, hTO⟩, ⟨o1, e1, r1⟩, ⟨o2, e2, r2⟩⟩ := st
    exact ⟨k z (by simp) _ hz, k TI (by simp) _ hTI, ⟨x, y, k TO (by simp) _ hTO⟩, ⟨o1, k i1 (by simp) _ e1, r1⟩, ⟨o2, k i2 (by simp) _ e2, r2⟩⟩
  item := by
    intro X hP hw hK hc i pins s σ H E I hf st hg
    subst hP hw hK
    obtain ⟨hz, hTI, ⟨x0, y0, hTO⟩, h1, h2⟩ := st
    have hh : X.A.in1.handled = none := I.ok.hd hc
    have hzl : z < s.heap.objs.size := Heap.lt_size hz
    have hIl : TI < s.heap.objs.size := Heap.lt_size hTI
    have hOl : TO < s.heap.objs.size := Heap.lt_size hTO
    have h1l : i1 < s.heap.objs.size := by obtain ⟨_, e1, _⟩ := h1; exact Heap.lt_size e1
    have h2l : i2 < s.heap.objs.size := by obtain ⟨_, e2, _⟩ := h2; exact Heap.lt_size e2
    refine wpAny_pyNext_zipD2_item S (drawsS hh i1 x t) (drawsS hh i2 y u) hz hTI hTO h1 h2 hg.1 hg.2 fun v1 v2 h' tk p1 p2 z' TO' h1' h2' hT hsz hk => ?_
    obtain ⟨c, t1, hcx, rfl⟩ := p1
    obtain ⟨d, t2, hdy, rfl⟩ := p2
    refine ⟨_, rfl, wpAny_letOwnedTupleGo_zip (s := { s with heap := h', toks := tk }) z' fun h'' z'' sb => ?_⟩
    have hT2 : h''.get? s.heap.objs.size = some { cls := .type "tuple", data := .seq #[.str ⟨#[c]⟩ t1, .str ⟨#[d]⟩ t2] } := (sb.2 _ (Nat.ne_of_gt hzl)).trans hT
    have new : ObjOk X.prog X.w (upd H s.heap.objs.size (.tup [.str ⟨#[c]⟩, .str ⟨#[d]⟩])) h'' s.heap.objs.size (.tup [.str ⟨#[c]⟩, .str ⟨#[d]⟩]) :=
      ⟨by show 2 ≤ sizeLine; decide, [.str ⟨#[c]⟩ t1, .str ⟨#[d]⟩ t2], .cons ⟨_, rfl⟩ (.cons ⟨_, rfl⟩ .nil), ⟨_, hT2, rfl, _, rfl⟩⟩
    have I1 : Inv X pins σ (upd H s.heap.objs.size (.tup [.str ⟨#[c]⟩, .str ⟨#[d]⟩])) { s with heap := h'', toks := tk } :=
      I.turnedNew (t' := tk) (ch := [z, TI, TO, i1, i2]) (fun c o hb q => (sb.2 c (fun q' => hb (by simp [q']))).trans (hk c o (fun q' => hb (by simp [q'])) (fun q' => hb (by simp [q'])) (fun q' => hb (by simp [q'])) (fun q' => hb (by simp [q'])) q)) hf (Nat.le_refl _) new
    refine ⟨.ref s.heap.objs.size, _, I1, rfl, ⟨_, c, d, rfl, I.hok.fresh (Nat.le_refl _), rfl, hcx, hdy⟩, ⟨z'', ?_, ⟨.str ⟨#[c]⟩ t1, .str ⟨#[d]⟩ t2, ?_⟩, ?_, ?_⟩, fun b hbm => ?_⟩
    · exact (sb.2 _ S.TIz).trans (hk _ _ S.TIz S.TITO S.TIi1 S.TIi2 hTI)
    · exact (sb.2 _ S.TOz).trans TO'
    · obtain ⟨o, q1, q2⟩ := h1'
      exact ⟨o, (sb.2 _ (Ne.symm S.zi1)).trans q1, q2⟩
    · obtain ⟨o, q1, q2⟩ := h2'
      exact ⟨o, (sb.2 _ (Ne.symm S.zi2)).trans q1, q2⟩
    · have hlt : b < s.heap.objs.size := by
        have e' : b = z ∨ b = TI ∨ b = TO ∨ b = i1 ∨ b = i2 := by simpa using hbm
        rcases e' with q | q | q | q | q <;> (rw [q]; assumption)
      rw [upd_ne (Nat.ne_of_lt hlt)]
      exact (hf b hbm).1
  done := by
    intro X hP hw hK hc i pins s σ H E I hf st hg
    subst hP hw hK
    obtain ⟨hz, hTI, ⟨x0, y0, hTO⟩, h1, h2⟩ := st
    have hh : X.A.in1.handled = none := I.ok.hd hc
    exact wpAny_pyNext_zipD2_end S (drawsS hh i1 x t) (drawsS hh i2 y u) hz hTI hTO h1 h2 hg.1 hg.2.1 hg.2.2 fun h' tk hk => ⟨rfl, I.turnedL (t' := tk) (ch := [z, TI, TO, i1, i2]) (fun c o hb q =>
      hk c o (fun q' => hb (by simp [q'])) (fun q' => hb (by simp [q'])) (fun q' => hb (by simp [q'])) (fun q' => hb (by simp [q'])) q) hf⟩
  self := fun A i s Q E st h => wpAny_pyIter_zip st.1 h
def iZipS (ta : TA) : TI := fun σ H R => ta σ H fun vs H1 => ∃ x y, vs = [.str x, .str y] ∧ R (Itzs x y) H1
theorem pi_zipS {X : Cx} {e e2 : Expr} {ta : TA} {p pos tpos : Pos} {elts : List Expr} {kk : Nat} (hg : Gl X "zip") (hm : X.mg "zip" = none) (ha : PA X [e, e2] ta)
    (hs : starEach [e, e2] X.env = (false, eval e X.env) :: starEach [e2] X.env := by rfl) (hpl : (backTo pos (starEach [e2] X.env)).any (·.1) = false := by rfl) :
    PI X (.Tuple elts kk tpos) (.Call (.Name "zip" p) [e, e2] [] pos) (iZipS ta) := by
  refine ⟨fun pins s σ H R I h => ?_⟩
  refine Call_ (ld_blt I hg hm PyProof.Rows.boot_zip (PyProof.Rows.callWith_type1 (thn (ha.run pos pins s σ H _ I h) fun us s1 ⟨vs, H1, I1, r1, q1⟩ => ?_) hs hpl))
  obtain ⟨x, y, ex, q⟩ := q1
  subst ex
  cases r1 with
  | cons r rr =>
    cases rr with
    | cons r' rr =>
      cases rr
      obtain ⟨t, rfl⟩ := r
      obtain ⟨u, rfl⟩ := r'
      refine call_zipS fun h' hz hTI hTO h1 h2 hsz hk => wpAny_pyIter_zip hz ?_
      have I2 : Inv X pins σ H1 { s1 with heap := h' } := I1.kept (t' := s1.toks) hk
      have S : ZipSep2 (s1.heap.objs.size + 4) (s1.heap.objs.size + 2) (s1.heap.objs.size + 3) s1.heap.objs.size (s1.heap.objs.size + 1) [s1.heap.objs.size] [s1.heap.objs.size + 1] := by
        constructor <;> simp
      refine ⟨s1.heap.objs.size + 4, [s1.heap.objs.size + 4, s1.heap.objs.size + 2, s1.heap.objs.size + 3, s1.heap.objs.size, s1.heap.objs.size + 1], _, _, H1, rfl, I2, turn_zipS (t := t) (u := u) S, ⟨hz, hTI, ⟨_, _, hTO⟩, h1, h2⟩, fun c hcm => ?_, q⟩
      have hle : s1.heap.objs.size ≤ c := by
        have e' : c = s1.heap.objs.size + 4 ∨ c = s1.heap.objs.size + 2 ∨ c = s1.heap.objs.size + 3 ∨ c = s1.heap.objs.size ∨ c = s1.heap.objs.size + 1 := by simpa using hcm
        rcases e' with q | q | q | q | q
        · rw [q]; exact Nat.le_add_right _ _
        · rw [q]; exact Nat.le_add_right _ _
        · rw [q]; exact Nat.le_add_right _ _
        · rw [q]; exact Nat.le_refl _
        · rw [q]; exact Nat.le_add_right _ _
      exact I1.fpOk hle (I1.hok.fresh hle)
theorem walk_zipS {x y : Str} {n : Nat} (hx : x.cps.size = n) (hy : y.cps.size = n) : Walk (Itzs x y) n (fun _ => True) (fun i H v H' => ∃ T c d, v = .ref T ∧ H T = none ∧ H' = upd H T (.tup [.str ⟨#[c]⟩, .str ⟨#[d]⟩]) ∧ x.cps[i]? = some c ∧ y.cps[i]? = some d) :=
  ⟨fun _ _ hi _ => ⟨by omega, by omega⟩, fun _ _ => ⟨by omega, by omega, .inl hx.symm⟩, fun _ _ _ _ _ _ y => y⟩
section
variable {K : PySem.W.Frag} {H : Hp} {σ : L2.St} {vs : List Nat} {Q : VK} {te : TE} {tt : TT} {ta : TA} {x y : Str} {R : It → Hp → Prop}
theorem g_izipS (h : ta σ H fun vs H1 => ∃ x y, vs = [.str x, .str y] ∧ R (Itzs x y) H1) : iZipS ta σ H R := h
/-- [e for u, v in zip(text, text) if t]: slots c and d -/
theorem u_lczs {c d n m : Nat} (hx : x.cps.size = n) (hy : y.cps.size = n) (Pv : Addr → Nat → Hp → Prop) (h0 : ∀ D, H D = none → Pv D 0 (upd H D (.lst [])))
    (hs : ∀ D i a b H' H2, H D = none → x.cps[i]? = some a → y.cps[i]? = some b → Pv D i H' → Ext H' H2 → tt (((wipe σ vs).set c (some (.str ⟨#[a]⟩))).set d (some (.str ⟨#[b]⟩))) H2 fun b' H3 => if b' = true then te (((wipe σ vs).set c (some (.str ⟨#[a]⟩))).set d (some (.str ⟨#[b]⟩))) H3 fun y H4 => ∃ acc, H4 D = some (.lst acc) ∧ acc.length < sizeLine ∧ Pv D (i + 1) (upd H4 D (.lst (acc ++ [y]))) else Pv D (i + 1) H3)
    (hd : ∀ D H', H D = none → Pv D n H' → Q (.ref D) H') (hm : m = 2 := by rfl) (hw : ∀ x y, wipe (((wipe σ vs).set c (some x)).set d (some y)) vs = wipe σ vs := by intro x y; rfl) :
    LcW (gTup K m (gCons (gName c) (gCons (gName d) gNil))) tt te vs σ Q (Itzs x y) H := by
  subst hm
  refine fun D hD => lc_it (walk_zipS hx hy) (Pv D) (h0 D hD) (fun i H' hi p => trivial) (fun i v H H' hi p y => ?_) (fun H' p => hd D H' hD p)
  obtain ⟨T, a, b, rfl, hT, rfl, e1, e2⟩ := y
  exact ⟨T, _, rfl, SqT.of upd_same, rfl, _, _, rfl, _, _, rfl, rfl, hw _ _, hs D i a b _ _ hD e1 e2 p (Ext.new hT)⟩
end
end G

/-! Digits that stand at one letter of a word. -/
namespace G
open PySem PySem.Spec PyProof.Rows L2 M
/-- the digits at a letter, as they are read -/
def dl (z : Str) (n p c i : Nat) : List Nat := ((List.range i).filter fun j => decide (ltr z (n - 1 - j) = c)).map fun j => (p.testBit (n - 1 - j)).toNat
def dV (l : List Nat) : List V := l.map fun d => V.str ⟨#[48 + d]⟩
theorem dl_succ (z : Str) (n p c i : Nat) : dl z n p c (i + 1) = dl z n p c i ++ (if ltr z (n - 1 - i) = c then [(p.testBit (n - 1 - i)).toNat] else []) := by
  unfold dl
  rw [List.range_succ, List.filter_append, List.map_append]
  congr 1
  by_cases h : ltr z (n - 1 - i) = c
  · rw [List.filter_cons, decide_eq_true h, if_pos rfl, if_pos h]
    rfl
  · rw [List.filter_cons, decide_eq_false h, if_neg Bool.false_ne_true, if_neg h]
    rfl
theorem dl_len (z : Str) (n p c i : Nat) : (dl z n p c i).length ≤ i := by
  unfold dl
  rw [List.length_map]
  refine Nat.le_trans (List.length_filter_le _ _) ?_
  rw [List.length_range]
  exact Nat.le_refl _
theorem dV_sc (z : Str) (n p c i : Nat) : ∀ v ∈ dV (dl z n p c i), Sc v := fun v h => by
  obtain ⟨d, hd, rfl⟩ := List.mem_map.mp h
  obtain ⟨j, _, rfl⟩ := List.mem_map.mp hd
  show PyData.strOk ⟨#[48 + (p.testBit (n - 1 - j)).toNat]⟩ = true
  cases p.testBit (n - 1 - j) <;> decide +kernel
theorem range_down (n : Nat) : (List.range n).map (fun j => n - 1 - j) = (List.range n).reverse := by
  refine List.ext_getElem (by simp) fun i h1 h2 => ?_
  rw [List.getElem_map, List.getElem_range, List.getElem_reverse, List.getElem_range, List.length_range]
theorem dl_all (z : Str) (n p c : Nat) : dl z n p c n = (((List.range n).filter fun b => decide (ltr z b = c)).map fun b => (p.testBit b).toNat).reverse := by
  have h : dl z n p c n = (((List.range n).map fun j => n - 1 - j).filter fun b => decide (ltr z b = c)).map fun b => (p.testBit b).toNat := by
    unfold dl
    rw [List.filter_map, List.map_map]
    rfl
  rw [h, range_down, List.filter_reverse, List.map_reverse]
section
variable {z w : Str} {s : List Nat}
theorem spots_all (a : Conv z w s) (p : z.cps.toList.Perm w.cps.toList) (c : Nat) : spotsOf z s c z.cps.size = (List.range z.cps.size).filter fun b => decide (ltr w b = c) := by
  have la := a.len
  have asc := spots_asc a p c
  have asc2 : ((List.range z.cps.size).filter fun b => decide (ltr w b = c)).Pairwise (· ≤ ·) := (List.pairwise_lt_range.filter _).imp fun h => Nat.le_of_lt h
  have nd2 : ((List.range z.cps.size).filter fun b => decide (ltr w b = c)).Nodup := List.nodup_range.filter _
  have nd1 : (spotsOf z s c z.cps.size).Nodup := by
    unfold spotsOf
    refine List.pairwise_map.mpr ?_
    refine List.Pairwise.imp_of_mem (fun {x y} hx hy h => ?_) ((List.pairwise_lt_range (n := z.cps.size)).filter fun b => decide (ltr z b = c))
    have xl := List.mem_range.mp (List.mem_filter.mp hx).1
    have yl := List.mem_range.mp (List.mem_filter.mp hy).1
    intro e
    have g1 : s[x]? = some (s.getD x 0) := getD_some (by omega)
    have g2 : s[y]? = some (s.getD y 0) := getD_some (by omega)
    rw [← e] at g2
    have := nodup_at a.ok.nd g1 g2
    omega
  refine sorted_same ((List.perm_ext_iff_of_nodup nd1 nd2).mpr fun x => ⟨fun hx => ?_, fun hx => ?_⟩) asc asc2
  · obtain ⟨h1, h2⟩ := spots_letter a p hx
    exact List.mem_filter.mpr ⟨List.mem_range.mpr h2, decide_eq_true h1⟩
  · have hm := List.mem_filter.mp hx
    have xl := List.mem_range.mp hm.1
    have ex := of_decide_eq_true hm.2
    have il := a.ok.idx_lt (show x < s.length by omega)
    have ig := a.ok.get_idx (show x < s.length by omega)
    unfold spotsOf
    refine List.mem_map.mpr ⟨s.idxOf x, List.mem_filter.mpr ⟨List.mem_range.mpr (by omega), decide_eq_true ?_⟩, ?_⟩
    · have := a.letter p (show s.idxOf x < z.cps.size by omega) ig
      rw [← this, ex]
    · rw [List.getD_eq_getElem?_getD, ig]
      rfl
theorem conv_dl (a : Conv z w s) (p : z.cps.toList.Perm w.cps.toList) (c q : Nat) : dl z z.cps.size q c z.cps.size = dl w z.cps.size (go s 0 q) c z.cps.size := by
  rw [dl_all, dl_all, ← spots_all a p c]
  congr 1
  unfold spotsOf
  rw [List.map_map]
  refine List.map_congr_left fun b hb => ?_
  have bl := List.mem_range.mp (List.mem_filter.mp hb).1
  have la := a.len
  show _ = ((go s 0 q).testBit (s.getD b 0)).toNat
  rw [go_bit a.ok 0 q (getD_some (show b < s.length by omega)), Nat.zero_testBit, Bool.xor_false]
end
theorem dgT_get {p n j x : Nat} (h : (dgT p n).cps[j]? = some x) : j < n ∧ x = 48 + (p.testBit (n - 1 - j)).toNat := by
  unfold dgT at h
  rw [List.getElem?_toArray, List.getElem?_map] at h
  obtain ⟨k, hk, rfl⟩ := Option.map_eq_some_iff.mp h
  have hl := (List.getElem?_eq_some_iff.mp hk).1
  rw [List.length_range] at hl
  rw [List.getElem?_range hl] at hk
  cases hk
  exact ⟨hl, rfl⟩
theorem dgT_size (p n : Nat) : (dgT p n).cps.size = n := by
  unfold dgT
  simp
theorem ltr_at {z : Str} {j x : Nat} (h : z.cps[j]? = some x) : ltr z (z.cps.size - 1 - j) = x := by
  have hj : j < z.cps.size := (Array.getElem?_eq_some_iff.mp h).1
  have g := ltr_get (z := z) (b := z.cps.size - 1 - j) (by omega)
  rw [show z.cps.size - 1 - (z.cps.size - 1 - j) = j by omega, Array.getElem?_toList, h] at g
  exact (Option.some.inj g).symm
theorem letter_inj {a c : Nat} (h : (⟨#[a]⟩ : Str) = ⟨#[c]⟩) : a = c := by
  have := congrArg Str.cps h
  simpa using this
section
variable {σ : L2.St} {H : Hp} {Q : VK} {te : TE} {tt : TT} {vs : List Nat}
/-- [e for i in range(lo, ..) if t]: slot c -/
theorem u_lcr2If {c n : Nat} {lo : Int} (Pv : Addr → Nat → Hp → Prop) (h0 : ∀ D, H D = none → Pv D 0 (upd H D (.lst [])))
    (hs : ∀ D i H', H D = none → i < n → Pv D i H' → tt ((wipe σ vs).set c (some (.int (lo + (i : Int))))) H' fun b H3 => if b = true then te ((wipe σ vs).set c (some (.int (lo + (i : Int))))) H3 fun y H4 => ∃ acc, H4 D = some (.lst acc) ∧ acc.length < sizeLine ∧ Pv D (i + 1) (upd H4 D (.lst (acc ++ [y]))) else Pv D (i + 1) H3)
    (hd : ∀ D H', H D = none → Pv D n H' → Q (.ref D) H') (hw : ∀ x, wipe ((wipe σ vs).set c (some x)) vs = wipe σ vs := by intro x; rfl) :
    LcW (gName c) tt te vs σ Q (Itr lo n) H := by
  refine fun D hD => ?_
  refine lc_it walk_range (Pv D) (h0 D hD) (fun _ _ _ _ => trivial) (fun i v H H' hi p y => ?_) (fun H' p => hd D H' hD p)
  obtain ⟨rfl, rfl⟩ := y
  exact ⟨hw _, hs D i _ hD hi p⟩
end
end G

/-! Wrong values: lists of them. -/
namespace G
open PySem PySem.Spec PyProof.Rows L2 M
section
variable {K : PySem.W.Frag} {H : Hp} {σ : L2.St} {vs : List Nat} {Q : VK} {te : TE} {a : Addr} {xs : List V}
/-- [e for u, v in tuple]: the tuple's items are pairs -/
theorem u_lct2 {c d n : Nat} (hx : SqT K H a xs) (Pv : Addr → Nat → Hp → Prop) (h0 : ∀ D, H D = none → Pv D 0 (upd H D (.lst []))) (hG : ∀ D i H', H D = none → i ≤ xs.length → Pv D i H' → SqT K H' a xs)
    (hs : ∀ D i x H', H D = none → xs[i]? = some x → Pv D i H' → ∃ T u v, x = .ref T ∧ H' T = some (.tup [u, v]) ∧ te (((wipe σ vs).set c (some u)).set d (some v)) H' fun y H4 => ∃ acc, H4 D = some (.lst acc) ∧ acc.length < sizeLine ∧ Pv D (i + 1) (upd H4 D (.lst (acc ++ [y]))))
    (hd : ∀ D H', H D = none → Pv D xs.length H' → Q (.ref D) H') (hn : n = 2 := by rfl) (hw : ∀ x y, wipe (((wipe σ vs).set c (some x)).set d (some y)) vs = wipe σ vs := by intro x y; rfl) :
    ∃ a', V.ref a = .ref a' ∧ (∃ xs, SqT K H a' xs) ∧ LcW (gTup K n (gCons (gName c) (gCons (gName d) gNil))) tYes te vs σ Q (Itt K a') H := by
  subst hn
  refine ⟨a, rfl, ⟨xs, hx⟩, fun D hD => lc_it walk_tup (Pv D) (h0 D hD) (fun i H' hi p => hG D i H' hD hi p) (fun i v H H' hi p y => ?_) (fun H' p => hd D H' hD p)⟩
  obtain ⟨rfl, e⟩ := y
  obtain ⟨T, u, w, rfl, hT, q⟩ := hs D i v _ hD e p
  refine ⟨T, _, rfl, SqT.of hT, rfl, _, _, rfl, _, _, rfl, rfl, hw _ _, ?_⟩
  refine g_yes ?_
  exact iteT q
end
end G

/-! range over great ints. -/
namespace G
open PySem PySem.Spec PyProof.Rows L2 M
theorem turn_long {P : Program} {w : World} {K : PySem.W.Frag} {tg : Expr} (it : Addr) (lo c : Int) (n : Nat) : Turn P w K tg (Itc lo c n) [it] it (fun i h => IsLongIter h it (lo + (i : Nat) * c) ((n : Int) - (i : Nat)) c) where
  mem := by simp
  obj := fun i h st b hb => by
    have e : b = it := by simpa using hb
    subst e
    exact ⟨_, st, fun v z => nomatch z⟩
  keep := fun i h h' st k => k it (by simp) _ st
  item := by
    intro X hP hw hK hc i pins s σ H E I hf st hg
    subst hP hw hK
    obtain ⟨f0, f1, f2, f3, f4, f5⟩ := hf it (by simp)
    have W := Walks.longrange (prog := X.prog) (w := X.w) (I.ok.hd hc) it lo c n
    refine W.item i s _ _ hg st fun v h' tk hv st' kk => ?_
    obtain ⟨t, rfl⟩ := hv
    have I1 : Inv X pins σ H { s with heap := h', toks := tk } := I.turned (fun b o hb e => kk b o (by simpa using hb) e) f0 f1 f3 f4 f5
    exact ⟨_, rfl, go_of (s := { s with heap := h', toks := tk }) (n := "longrange_iterator") st' rfl rfl (by decide) ⟨.int (lo + (i : Nat) * c), H, I1, ⟨t, rfl⟩, ⟨rfl, rfl⟩, st', fun b hb => (hf b hb).1⟩⟩
  done := by
    intro X hP hw hK hc i pins s σ H E I hf st hg
    subst hP hw hK
    obtain ⟨f0, f1, f2, f3, f4, f5⟩ := hf it (by simp)
    exact wpAny_pyNext_long_end (I.ok.hd hc) st (by have : n ≤ i := hg; omega) fun h' eb => ⟨rfl, I.turned (t' := s.toks) (fun b o hb e => eb b o hb e) f0 f1 f3 f4 f5⟩
  self := fun A i s Q E st h => wpAny_pyIter_longiter st h
section
variable {X : Cx} {tg : Expr}
def iRngB2 (ta : TA) : TI := fun σ H R => ta σ H fun vs H1 => ∃ i j : Int, vs = [.int i, .int j] ∧ R (Itc i 1 (j - i).toNat) H1
theorem rangeB_it {pins : List (Addr × Obj)} {σ : L2.St} {H : Hp} {s : Shared} {R : It → Hp → Prop} {E : Value → Shared → Prop} {lo hi c : Int} {n : Nat} {t u v : Tok} {tk : Nat} (I : Inv X pins σ H s) (hn : Builtin.Range.rangeSize lo hi c = n)
    (q : R (Itc lo c n) H) : wpAny (model X.prog X.w) X.A (pyIter (.ref s.heap.objs.size)) (PIE X pins σ tg R) E { s with heap := s.heap.push { cls := .type "range", data := .fields #[.int lo t, .int hi u, .int c v] }, toks := tk } := by
  have I1 : Inv X pins σ H { s with heap := s.heap.push { cls := .type "range", data := .fields #[.int lo t, .int hi u, .int c v] }, toks := tk } := I.kept fun b o e => Heap.get?_push_of_some _ e
  have e1 : lo + ((0 : Nat) : Int) * c = lo := by simp
  have e2 : (n : Int) - ((0 : Nat) : Int) = Builtin.Range.rangeSize lo hi c := by rw [hn]; simp
  have fp : ∀ b ∈ [(s.heap.push { cls := .type "range", data := .fields #[.int lo t, .int hi u, .int c v] }).objs.size], FpOk X pins H b := fun b hb => by
    have e : b = (s.heap.push { cls := .type "range", data := .fields #[.int lo t, .int hi u, .int c v] }).objs.size := by simpa using hb
    subst e
    exact I1.fpOk (Nat.le_refl _) (I1.hok.fresh (Nat.le_refl _))
  cases sm : Builtin.Range.small lo hi c with
  | true =>
    refine wpAny_pyIter_range (IsRange.new ..) sm ?_
    refine ⟨(s.heap.push { cls := .type "range", data := .fields #[.int lo t, .int hi u, .int c v] }).objs.size, [(s.heap.push { cls := .type "range", data := .fields #[.int lo t, .int hi u, .int c v] }).objs.size], _, _, H, rfl,
      I1.kept (t' := tk) fun b o e => Heap.get?_push_of_some _ e, turn_rangeC _ lo c n, ?_, fp, q⟩
    show IsRangeIter _ _ (lo + ((0 : Nat) : Int) * c) ((n : Int) - ((0 : Nat) : Int)) c
    rw [e1, e2]
    exact Heap.get?_push_size _ rfl
  | false =>
    refine wpAny_pyIter_longrange (IsRange.new ..) sm ?_
    refine ⟨(s.heap.push { cls := .type "range", data := .fields #[.int lo t, .int hi u, .int c v] }).objs.size, [(s.heap.push { cls := .type "range", data := .fields #[.int lo t, .int hi u, .int c v] }).objs.size], _, _, H, rfl,
      I1.kept (t' := tk) fun b o e => Heap.get?_push_of_some _ e, turn_long _ lo c n, ?_, fp, q⟩
    show IsLongIter _ _ (lo + ((0 : Nat) : Int) * c) ((n : Int) - ((0 : Nat) : Int)) c
    rw [e1, e2]
    exact Heap.get?_push_size _ rfl
theorem pi_rangeB2 {a b : Expr} {ta : TA} {p pos : Pos} (hg : Gl X "range") (hm : X.mg "range" = none) (ha : PA X [a, b] ta) (hs : starEach [a, b] X.env = [(false, eval a X.env), (false, eval b X.env)] := by rfl) (hs2 : starEach [b] X.env = [(false, eval b X.env)] := by rfl) :
    PI X tg (.Call (.Name "range" p) [a, b] [] pos) (iRngB2 ta) := by
  refine ⟨fun pins s σ H R I h => ?_⟩
  refine Call_ (ld_blt I hg hm boot_range (PyProof.Rows.callWith_type1 (thn (ha.run pos pins s σ H _ I h) fun us s1 ⟨vs, H1, I1, r1, q1⟩ => ?_) (by rw [hs, hs2]) (by rw [hs2]; rfl)))
  obtain ⟨i, j, e, q⟩ := q1
  subst e
  cases r1 with
  | cons r rr =>
    cases rr with
    | cons r' rr =>
      cases rr
      obtain ⟨t, rfl⟩ := r
      obtain ⟨t', rfl⟩ := r'
      exact call_range_2 (rangeB_it I1 (by rw [rangeSize_one]; split <;> omega) q)
end
section
variable {σ : L2.St} {H : Hp} {Q : VK} {te : TE} {tt : TT} {vs : List Nat} {ta : TA} {R : It → Hp → Prop}
theorem g_irngB2 (h : ta σ H fun vs H1 => ∃ i j : Int, vs = [.int i, .int j] ∧ R (Itc i 1 (j - i).toNat) H1) : iRngB2 ta σ H R := h
/-- [e for x in range(a, b, s) if t]: slot c -/
theorem u_lccIf {c n : Nat} {a s : Int} (Pv : Addr → Nat → Hp → Prop) (h0 : ∀ D, H D = none → Pv D 0 (upd H D (.lst [])))
    (hs : ∀ D k H', H D = none → k < n → Pv D k H' → tt ((wipe σ vs).set c (some (.int (a + (k : Int) * s)))) H' fun b H3 => if b = true then te ((wipe σ vs).set c (some (.int (a + (k : Int) * s)))) H3 fun y H4 => ∃ acc, H4 D = some (.lst acc) ∧ acc.length < sizeLine ∧ Pv D (k + 1) (upd H4 D (.lst (acc ++ [y]))) else Pv D (k + 1) H3)
    (hd : ∀ D H', H D = none → Pv D n H' → Q (.ref D) H') (hw : ∀ x, wipe ((wipe σ vs).set c (some x)) vs = wipe σ vs := by intro x; rfl) :
    LcW (gName c) tt te vs σ Q (Itc a s n) H := by
  refine fun D hD => ?_
  refine lc_it walk_rangeC (Pv D) (h0 D hD) (fun _ _ _ _ => trivial) (fun i v H H' hi p y => ?_) (fun H' p => hd D H' hD p)
  obtain ⟨rfl, rfl⟩ := y
  exact ⟨hw _, hs D i _ hD hi p⟩
end
end G

/-! Items passed, counted by the highest bit in which places differ. -/
namespace G
open PySem PySem.Spec PyProof.Rows L2 M
variable {ts : List Nat} {fl p b : Nat}
/-- the lower bits whose targets are below T -/
def frl (ts : List Nat) (T b : Nat) : Nat := sm b fun f => cc (tb ts f < T)
def agr (ts : List Nat) (p T b v : Nat) : Prop := ∀ f, f < b → T ≤ tb ts f → p.testBit f = v.testBit f
instance (ts : List Nat) (p T b v : Nat) : Decidable (agr ts p T b v) := inferInstanceAs (Decidable (∀ f, f < b → T ≤ tb ts f → p.testBit f = v.testBit f))
theorem agr_count (ts : List Nat) (p T b : Nat) : sm (2 ^ b) (fun v => cc (agr ts p T b v)) = 2 ^ frl ts T b := by
  have h := eqA_one (s := fun f => 2 * tb ts f + 1) (p := 2 * T) p b (fun t _ => by omega)
  have e1 : low (fun f => 2 * tb ts f + 1) (2 * T) b = frl ts T b := sm_congr fun f _ => cc_congr (show 2 * tb ts f + 1 < 2 * T ↔ tb ts f < T by omega)
  rw [e1] at h
  rw [← h]
  exact sm_congr fun v _ => cc_congr ⟨fun z t ht c => z t ht (show T ≤ tb ts t by have : 2 * T < 2 * tb ts t + 1 := c; omega), fun z t ht c => z t ht (show 2 * T < 2 * tb ts t + 1 by omega)⟩
/-- as the place above bit b, 0 in b, v below -/
def qv' (p b v : Nat) : Nat := 2 ^ (b + 1) * (p / 2 ^ (b + 1)) + v
theorem qv_bit {v : Nat} (hv : v < 2 ^ b) (f : Nat) : (qv' p b v).testBit f = if f < b then v.testBit f else if f = b then false else p.testBit f := by
  have h2 : v < 2 ^ (b + 1) := by rw [Nat.pow_succ]; omega
  unfold qv'
  rw [Nat.testBit_two_pow_mul_add _ h2]
  by_cases c : f < b
  · rw [if_pos (by omega), if_pos c]
  · rw [if_neg c]
    by_cases e : f = b
    · subst e
      rw [if_pos (by omega), if_pos rfl, Nat.testBit_lt_two_pow hv]
    · rw [if_neg (by omega), if_neg e, Nat.testBit_div_two_pow]
      congr 1
      omega
/-- how many of these go farther, by the targets from T on -/
def fa (ts : List Nat) (fl p b T : Nat) : Nat := sm (2 ^ b) fun v => cc (go ts fl p / 2 ^ T < go ts fl (qv' p b v) / 2 ^ T)
theorem div_bit (x t : Nat) : x / 2 ^ t = 2 * (x / 2 ^ (t + 1)) + (x.testBit t).toNat := by
  have h : x / 2 ^ (t + 1) = x / 2 ^ t / 2 := by rw [Nat.pow_succ, Nat.div_div_eq_div_mul]
  rw [h, Nat.testBit_eq_decide_div_mod_eq]
  have m := Nat.div_add_mod (x / 2 ^ t) 2
  have l : x / 2 ^ t % 2 < 2 := Nat.mod_lt _ (by decide)
  by_cases c : x / 2 ^ t % 2 = 1
  · rw [decide_eq_true c]
    show _ = _ + 1
    omega
  · rw [decide_eq_false c]
    show _ = _ + 0
    omega
theorem cc_or {P Q : Prop} [Decidable P] [Decidable Q] (ex : ¬ (P ∧ Q)) : cc (P ∨ Q) = cc P + cc Q := by
  by_cases a : P
  · by_cases b : Q
    · exact absurd ⟨a, b⟩ ex
    · rw [cc_yes (.inl a), cc_yes a, cc_no b]
  · by_cases b : Q
    · rw [cc_yes (.inr b), cc_no a, cc_yes b]
    · rw [cc_no fun z => z.elim a b, cc_no a, cc_no b]
theorem lt_step (x y t : Nat) : x / 2 ^ t < y / 2 ^ t ↔ x / 2 ^ (t + 1) < y / 2 ^ (t + 1) ∨ (x / 2 ^ (t + 1) = y / 2 ^ (t + 1) ∧ x.testBit t = false ∧ y.testBit t = true) := by
  rw [div_bit x t, div_bit y t]
  cases x.testBit t <;> cases y.testBit t <;> simp <;> omega
theorem same_above (ok : Ts ts) {T v : Nat} (hv : v < 2 ^ b) (hT : tb ts b < T) (hb : b < ts.length) : go ts fl p / 2 ^ T = go ts fl (qv' p b v) / 2 ^ T ↔ agr ts p T b v := by
  constructor
  · intro h f hf hT'
    have fl' : f < ts.length := by omega
    have g : ts[f]? = some (tb ts f) := getD_some fl'
    have e : (go ts fl p / 2 ^ T).testBit (tb ts f - T) = (go ts fl (qv' p b v) / 2 ^ T).testBit (tb ts f - T) := by rw [h]
    rw [Nat.testBit_div_two_pow, Nat.testBit_div_two_pow, show tb ts f - T + T = tb ts f by omega, go_bit ok fl p g, go_bit ok fl _ g, qv_bit hv, if_pos hf] at e
    revert e
    cases p.testBit f <;> cases v.testBit f <;> cases fl.testBit (tb ts f) <;> simp
  · intro h
    refine Nat.eq_of_testBit_eq fun j => ?_
    rw [Nat.testBit_div_two_pow, Nat.testBit_div_two_pow]
    by_cases c : j + T < ts.length
    · have g := ok.get_idx c
      have il := ok.idx_lt c
      rw [go_bit ok fl p g, go_bit ok fl _ g, qv_bit hv]
      have te : tb ts (ts.idxOf (j + T)) = j + T := by
        unfold tb
        rw [List.getD_eq_getElem?_getD, g]
        rfl
      by_cases c1 : ts.idxOf (j + T) < b
      · rw [if_pos c1, h _ c1 (by omega)]
      · rw [if_neg c1]
        by_cases c2 : ts.idxOf (j + T) = b
        · rw [c2] at te
          omega
        · rw [if_neg c2]
    · have l1 := go_lt ts fl p
      have l2 := go_lt ts fl (qv' p b v)
      have pw : 2 ^ ts.length ≤ 2 ^ (j + T) := Nat.pow_le_pow_right (by decide) (by omega)
      rw [Nat.testBit_lt_two_pow (by omega), Nat.testBit_lt_two_pow (by omega)]
theorem go_at (ok : Ts ts) (q : Nat) {t : Nat} (ht : t < ts.length) : (go ts fl q).testBit t = (q.testBit (ts.idxOf t) ^^ fl.testBit t) := go_bit ok fl q (ok.get_idx ht)
theorem fa_above (ok : Ts ts) {t : Nat} (ht : t < ts.length) (hb : b < ts.length) (hs : b < ts.idxOf t) : fa ts fl p b t = fa ts fl p b (t + 1) ∧ frl ts t b = frl ts (t + 1) b := by
  constructor
  · refine sm_congr fun v hv => cc_congr ?_
    rw [lt_step]
    constructor
    · rintro (h | ⟨_, h1, h2⟩)
      · exact h
      · rw [go_at ok _ ht] at h1 h2
        rw [qv_bit hv, if_neg (by omega), if_neg (by omega)] at h2
        rw [h1] at h2
        cases h2
    · exact .inl
  · refine sm_congr fun f hf => cc_congr ?_
    have : tb ts f ≠ t := fun e => by
      have := tb_inj ok (show f < ts.length by omega) (ok.idx_lt ht) (e.trans (tb_idx ok ht).symm)
      omega
    omega
theorem fa_free (ok : Ts ts) {t : Nat} (ht : t < ts.length) (hb : b < ts.length) (hT : tb ts b < t + 1) (hs : ts.idxOf t < b) : frl ts (t + 1) b = frl ts t b + 1 ∧ fa ts fl p b t = fa ts fl p b (t + 1) + (if (go ts fl p).testBit t = false then 2 ^ frl ts t b else 0) := by
  have f1 : frl ts (t + 1) b = frl ts t b + 1 := by
    have o : sm b (fun f => cc (f = ts.idxOf t)) = 1 := sm_only _ _ hs
    have z : frl ts (t + 1) b = frl ts t b + sm b fun f => cc (f = ts.idxOf t) := by
      unfold frl
      rw [← sm_add]
      refine sm_congr fun f hf => ?_
      by_cases e : f = ts.idxOf t
      · rw [e, tb_idx ok ht, cc_yes (Nat.lt_succ_self t), cc_no (Nat.lt_irrefl t), cc_yes rfl]
      · have : tb ts f ≠ t := fun z => e (tb_inj ok (show f < ts.length by omega) (ok.idx_lt ht) (z.trans (tb_idx ok ht).symm))
        rw [cc_no e, Nat.add_zero]
        exact cc_congr (by omega)
    rw [z, o]
  refine ⟨f1, ?_⟩
  have half : sm (2 ^ b) (fun v => cc (agr ts p (t + 1) b v ∧ v.testBit (ts.idxOf t) ≠ p.testBit (ts.idxOf t))) = 2 ^ frl ts t b := by
    have a1 := agr_count ts p (t + 1) b
    have a0 := agr_count ts p t b
    have s : sm (2 ^ b) (fun v => cc (agr ts p (t + 1) b v)) = sm (2 ^ b) (fun v => cc (agr ts p t b v)) + sm (2 ^ b) fun v => cc (agr ts p (t + 1) b v ∧ v.testBit (ts.idxOf t) ≠ p.testBit (ts.idxOf t)) := by
      rw [← sm_add]
      refine sm_congr fun v _ => ?_
      by_cases a : agr ts p (t + 1) b v
      · by_cases c : v.testBit (ts.idxOf t) = p.testBit (ts.idxOf t)
        · have z : agr ts p t b v := fun f hf h => by
            by_cases e : f = ts.idxOf t
            · rw [e, c]
            · have : tb ts f ≠ t := fun z => e (tb_inj ok (show f < ts.length by omega) (ok.idx_lt ht) (z.trans (tb_idx ok ht).symm))
              exact a f hf (by omega)
          rw [cc_yes a, cc_yes z, cc_no fun k => k.2 c]
        · have z : ¬ agr ts p t b v := fun z => c (z _ hs (by rw [tb_idx ok ht]; exact Nat.le_refl _)).symm
          rw [cc_yes a, cc_no z, cc_yes ⟨a, c⟩]
      · have z : ¬ agr ts p t b v := fun z => a fun f hf h => z f hf (by omega)
        rw [cc_no a, cc_no z, cc_no fun k => a k.1]
    rw [a1, a0, f1, Nat.pow_succ] at s
    omega
  rw [← half]
  have xb := go_at (fl := fl) ok p ht
  by_cases d : (go ts fl p).testBit t = false
  · rw [if_pos d]
    unfold fa
    rw [← sm_add]
    refine sm_congr fun v hv => ?_
    have sa := same_above (fl := fl) (p := p) ok hv hT hb
    have yb := go_at (fl := fl) ok (qv' p b v) ht
    rw [qv_bit hv, if_pos hs] at yb
    rw [d] at xb
    have key : (agr ts p (t + 1) b v ∧ v.testBit (ts.idxOf t) ≠ p.testBit (ts.idxOf t)) ↔ (go ts fl p / 2 ^ (t + 1) = go ts fl (qv' p b v) / 2 ^ (t + 1) ∧ (go ts fl p).testBit t = false ∧ (go ts fl (qv' p b v)).testBit t = true) := by
      rw [sa, yb, d]
      revert xb
      cases p.testBit (ts.idxOf t) <;> cases v.testBit (ts.idxOf t) <;> cases fl.testBit t <;> simp
    rw [cc_congr (lt_step _ _ t), cc_or (fun z => by have := z.1; have := z.2.1; omega), cc_congr key]
  · rw [if_neg d, Nat.add_zero]
    refine sm_congr fun v hv => cc_congr ?_
    rw [lt_step]
    exact ⟨fun h => h.elim id fun z => absurd z.2.1 d, .inl⟩
theorem fa_own (ok : Ts ts) {t : Nat} (ht : t < ts.length) (hb : b < ts.length) (hp : p.testBit b = true) (hs : ts.idxOf t = b) : fa ts fl p b 0 = fa ts fl p b (t + 1) + (if (go ts fl p).testBit t = false then 2 ^ frl ts (t + 1) b else 0) := by
  have hT : tb ts b < t + 1 := by rw [← hs, tb_idx ok ht]; exact Nat.lt_succ_self t
  have xb := go_at (fl := fl) ok p ht
  rw [hs, hp] at xb
  have fin : ∀ v, v < 2 ^ b → (go ts fl p / 2 ^ 0 < go ts fl (qv' p b v) / 2 ^ 0 ↔ (go ts fl p / 2 ^ (t + 1) < go ts fl (qv' p b v) / 2 ^ (t + 1) ∨ (agr ts p (t + 1) b v ∧ (go ts fl p).testBit t = false))) := fun v hv => by
    have sa := same_above (fl := fl) (p := p) ok hv hT hb
    have yb := go_at (fl := fl) ok (qv' p b v) ht
    rw [hs, qv_bit hv, if_neg (Nat.lt_irrefl b), if_pos rfl] at yb
    have l0 := lt_step (go ts fl p) (go ts fl (qv' p b v)) t
    have l1 := lt_step (go ts fl (qv' p b v)) (go ts fl p) t
    rw [Nat.pow_zero, Nat.div_one, Nat.div_one]
    have mono : ∀ x y : Nat, x / 2 ^ t < y / 2 ^ t → x < y := fun x y h => Nat.lt_of_not_le fun c => absurd (Nat.div_le_div_right (c := 2 ^ t) c) (by omega)
    have ne : (go ts fl p).testBit t ≠ (go ts fl (qv' p b v)).testBit t := by
      rw [xb, yb]
      cases fl.testBit t <;> simp
    have ned : go ts fl p / 2 ^ t ≠ go ts fl (qv' p b v) / 2 ^ t := fun e => by
      rw [div_bit _ t, div_bit (go ts fl (qv' p b v)) t] at e
      revert e ne
      cases (go ts fl p).testBit t <;> cases (go ts fl (qv' p b v)).testBit t <;> simp <;> omega
    have lt_iff : go ts fl p < go ts fl (qv' p b v) ↔ go ts fl p / 2 ^ t < go ts fl (qv' p b v) / 2 ^ t := by
      constructor
      · intro h
        have := Nat.div_le_div_right (c := 2 ^ t) (Nat.le_of_lt h)
        omega
      · exact mono _ _
    rw [lt_iff, l0, sa]
    constructor
    · rintro (h | ⟨h1, h2, h3⟩)
      · exact .inl h
      · exact .inr ⟨h1, h2⟩
    · rintro (h | ⟨h1, h2⟩)
      · exact .inl h
      · refine .inr ⟨h1, h2, ?_⟩
        revert ne
        rw [h2]
        cases (go ts fl (qv' p b v)).testBit t <;> simp
  unfold fa
  by_cases d : (go ts fl p).testBit t = false
  · rw [if_pos d, ← agr_count ts p (t + 1) b, ← sm_add]
    refine sm_congr fun v hv => ?_
    have sa := same_above (fl := fl) (p := p) ok hv hT hb
    rw [cc_congr (fin v hv)]
    by_cases a : agr ts p (t + 1) b v
    · have e := sa.mpr a
      rw [cc_yes (.inr ⟨a, d⟩), cc_no (by omega), cc_yes a]
    · by_cases c : go ts fl p / 2 ^ (t + 1) < go ts fl (qv' p b v) / 2 ^ (t + 1)
      · rw [cc_yes (.inl c), cc_yes c, cc_no a]
      · rw [cc_no fun z => z.elim c fun z => a z.1, cc_no c, cc_no a]
  · rw [if_neg d, Nat.add_zero]
    refine sm_congr fun v hv => cc_congr ?_
    rw [fin v hv]
    exact ⟨fun h => h.elim id fun z => absurd z.2 d, .inl⟩
theorem fa_top (ts : List Nat) (fl p b : Nat) : fa ts fl p b ts.length = 0 := sm_zero fun v _ => cc_no (by
  rw [Nat.div_eq_of_lt (go_lt ts fl p)]
  have := go_lt ts fl (qv' p b v)
  rw [Nat.div_eq_of_lt this]
  omega)
theorem frl_top (ok : Ts ts) (hb : b ≤ ts.length) : frl ts ts.length b = b := by
  unfold frl
  rw [sm_congr (g := fun _ => 1) fun f hf => cc_yes (tb_lt ok (by omega)), sm_const]
  omega
/-- all lower places, by the highest bit that differs -/
theorem by_high (F : Nat → Nat) (p : Nat) : ∀ k, sm p F = sm (2 ^ k * (p / 2 ^ k)) F + sm k fun b => if p.testBit b then sm (2 ^ b) fun v => F (qv' p b v) else 0
  | 0 => by
    show _ = _ + 0
    rw [Nat.pow_zero, Nat.one_mul, Nat.div_one, Nat.add_zero]
  | k + 1 => by
    rw [by_high F p k]
    show _ = _ + ((sm k fun b => if p.testBit b then sm (2 ^ b) fun v => F (qv' p b v) else 0) + _)
    have d := div_bit p k
    rw [d, Nat.mul_add, ← Nat.mul_assoc, show 2 ^ k * 2 = 2 ^ (k + 1) from (Nat.pow_succ 2 k).symm, sm_split]
    have z : ((if p.testBit k then sm (2 ^ k) fun v => F (qv' p k v) else 0) : Nat) = sm (2 ^ k * (p.testBit k).toNat) fun i => F (2 ^ (k + 1) * (p / 2 ^ (k + 1)) + i) := by
      cases p.testBit k
      · rfl
      · rw [if_pos rfl, Bool.toNat_true, Nat.mul_one]
        rfl
    show _ = _ + (_ + (if p.testBit k then sm (2 ^ k) fun v => F (qv' p k v) else 0))
    rw [z]
    omega
theorem sm_upto {N p : Nat} (h : p ≤ N) (P : Nat → Prop) [DecidablePred P] : sm N (fun q => cc (q < p ∧ P q)) = sm p fun q => cc (P q) := by
  obtain ⟨k, rfl⟩ := Nat.le.dest h
  rw [sm_split, sm_congr (f := fun q => cc (q < p ∧ P q)) (g := fun q => cc (P q)) fun q hq => cc_congr ⟨fun z => z.2, fun z => ⟨hq, z⟩⟩, sm_zero (f := fun i => cc (p + i < p ∧ P (p + i))) fun i _ => cc_no fun z => by omega, Nat.add_zero]
theorem psd_due (hp : p < 2 ^ ts.length) : psd ts fl p = sm ts.length fun b => if p.testBit b then fa ts fl p b 0 else 0 := by
  unfold psd
  rw [sm_upto (Nat.le_of_lt hp) fun q => go ts fl p < go ts fl q, by_high _ p ts.length, Nat.div_eq_of_lt hp, Nat.mul_zero]
  show 0 + _ = _
  rw [Nat.zero_add]
  refine sm_congr fun b _ => ?_
  cases p.testBit b
  · rfl
  · rw [if_pos rfl, if_pos rfl]
    unfold fa
    refine sm_congr fun v _ => ?_
    rw [Nat.pow_zero, Nat.div_one, Nat.div_one]
theorem psd_upto (hp : p < 2 ^ ts.length) : psd ts fl p = sm p fun q => cc (go ts fl p < go ts fl q) := sm_upto (Nat.le_of_lt hp) fun q => go ts fl p < go ts fl q
theorem psd_end (ok : Ts ts) (hp : p < 2 ^ ts.length) : psd ts fl p + sm (2 ^ ts.length - 1 - p) (fun k => cc (go ts fl p < go ts fl (p + 1 + k))) = 2 ^ ts.length - 1 - go ts fl p := by
  rw [← above_go (fl := fl) ok (go_lt ts fl p), psd_upto hp]
  have e : sm (2 ^ ts.length) (fun q => cc (go ts fl p < go ts fl q)) = sm (p + 1 + (2 ^ ts.length - 1 - p)) fun q => cc (go ts fl p < go ts fl q) := by congr 1; omega
  rw [e, sm_split]
  show _ = (_ + cc (go ts fl p < go ts fl p)) + _
  rw [cc_no (Nat.lt_irrefl _), Nat.add_zero]
  rfl
section
variable {D : Ends} {σ : L2.St} {H : Hp} {tb : TS}
/-- for x in range(a, b, s): slot c -/
theorem u_forc {c n : Nat} {a s : Int} (Pv : Nat → L2.St → Hp → Prop) (h0 : Pv 0 σ H) (hs : ∀ i σ H, i < n → Pv i σ H → tb { D with nx := Pv (i + 1), ct := Pv (i + 1), bk := D.nx } (σ.set c (some (.int (a + (i : Int) * s)))) H)
    (hd : ∀ σ H, Pv n σ H → D.nx σ H) : ForW (gName c) tb D σ (Itc a s n) H := by
  refine for_it walk_rangeC Pv h0 (fun _ _ _ _ _ => trivial) (fun i v σ H H' hi p y => ?_) hd
  obtain ⟨rfl, rfl⟩ := y
  exact hs i σ _ hi p
end
end G

/-! Rows of passes: all together, and how many there are. -/
namespace G
open PySem PySem.Spec PyProof.Rows L2 M
def thenW (u w : List Nat × Nat) : List Nat × Nat := (cT u.1 w.1, go w.1 w.2 u.2)
/-- all turns of a row, one behind the other -/
def wholeW : List (List Nat × Nat) → List Nat × Nat
  | [] => ([], 0)
  | w :: ws => ws.foldl thenW w
/-- the fewest passes as a number -/
def fewN (ts : List Nat) (fl low mem : Nat) : Nat :=
  if leaves ts fl then 0 else if (ups ts low).length = 0 then 1 else ((ups ts low).length + (mem - low) - 1) / (mem - low)
def exV (ts : List Nat) (fl low mem : Nat) (ws : List (List Nat × Nat)) : V :=
  if wholeW ws = (ts, fl) ∧ ∀ w ∈ ws, (ups w.1 low).length ≤ mem - low then .int ((ws.length : Int) - (fewN ts fl low mem : Int)) else .non
theorem few_fewN {ts : List Nat} {fl low mem : Nat} (h : leaves ts fl = true ∨ (ups ts low).length = 0 ∨ mem ≠ low) : fewV ts fl low mem = .int ((fewN ts fl low mem : Nat) : Int) := by
  unfold fewV fewN
  split
  · rfl
  · rename_i a
    split
    · rfl
    · rename_i b
      rw [if_neg (by rcases h with h | h | h; exact absurd h a; exact absurd h b; exact h)]
def OkW (n : Nat) (w : List Nat × Nat) : Prop := Ts w.1 ∧ w.1.length = n
theorem thenW_ok {n : Nat} {u w : List Nat × Nat} (hu : OkW n u) (hw : OkW n w) : OkW n (thenW u w) := by
  refine ⟨cT_ok hu.1 hw.1 (hu.2.trans hw.2.symm), ?_⟩
  show (cT u.1 w.1).length = n
  unfold cT
  rw [List.length_map]
  exact hu.2
theorem fold_ok {n : Nat} : ∀ {ws : List (List Nat × Nat)} {u}, OkW n u → (∀ w ∈ ws, OkW n w) → OkW n (ws.foldl thenW u)
  | [], _, hu, _ => hu
  | w :: ws, u, hu, h => fold_ok (ws := ws) (u := thenW u w) (thenW_ok hu (h w (by simp))) fun x hx => h x (by simp [hx])
theorem ups_then {n low : Nat} {u w : List Nat × Nat} (hu : OkW n u) (hw : OkW n w) (hl : low ≤ n) (a : ups u.1 low = []) (b : ups w.1 low = []) : ups (thenW u w).1 low = [] := by
  rw [ups_nil] at a b ⊢
  intro t ht
  unfold thenW cT at ht
  rw [← List.map_take] at ht
  obtain ⟨x, hx, rfl⟩ := List.mem_map.mp ht
  have xl := a x hx
  refine b _ ?_
  have g : w.1[x]? = some (w.1.getD x 0) := getD_some (by rw [hw.2]; omega)
  exact List.mem_of_getElem? (i := x) (by rw [List.getElem?_take, if_pos xl, g])
theorem fold_ups {n low : Nat} (hl : low ≤ n) : ∀ {ws : List (List Nat × Nat)} {u}, OkW n u → (∀ w ∈ ws, OkW n w) → ups u.1 low = [] → (∀ w ∈ ws, ups w.1 low = []) → ups (ws.foldl thenW u).1 low = []
  | [], _, _, _, a, _ => a
  | w :: ws, u, hu, h, a, b => fold_ups hl (ws := ws) (u := thenW u w) (thenW_ok hu (h w (by simp))) (fun x hx => h x (by simp [hx])) (ups_then hu (h w (by simp)) hl a (b w (by simp))) fun x hx => b x (by simp [hx])
/-- where the row does the turn by passes, there is a least number of passes -/
theorem row_few {n low mem : Nat} {ts : List Nat} {fl : Nat} {ws : List (List Nat × Nat)} (hl : low ≤ n) (h : ∀ w ∈ ws, OkW n w) (h1 : 1 ≤ ws.length) (hw : wholeW ws = (ts, fl)) (hc : ∀ w ∈ ws, (ups w.1 low).length ≤ mem - low) : fewV ts fl low mem = .int ((fewN ts fl low mem : Nat) : Int) := by
  refine few_fewN ?_
  by_cases c : mem = low
  · refine .inr (.inl ?_)
    match ws, h1 with
    | w :: ws, _ =>
      have z : ∀ x ∈ w :: ws, ups x.1 low = [] := fun x hx => List.length_eq_zero_iff.mp (by have := hc x hx; omega)
      have e := fold_ups (ws := ws) (u := w) hl (h w (by simp)) (fun x hx => h x (by simp [hx])) (z w (by simp)) (fun x hx => z x (by simp [hx]))
      have e2 : ws.foldl thenW w = (ts, fl) := hw
      rw [e2] at e
      rw [show ups ts low = [] from e]
      rfl
  · exact .inr (.inr c)
theorem g_maxN {K : PySem.W.Frag} {H : Hp} {p : Addr} {Q : VK} {l : List Nat} (h : H p = some (.lst (nv l))) (hl : 0 < l.length) (q : ∀ m : Nat, m ∈ l → (∀ y ∈ l, y ≤ m) → Q (.int (m : Int)) H) : rMax K [.ref p] H Q := by
  refine ⟨p, l.map (fun n : Nat => (n : Int)), rfl, SqL.of (by rw [List.map_map]; exact h), by rw [List.length_map]; exact hl, fun m hm all => ?_⟩
  obtain ⟨k, hk, rfl⟩ := List.mem_map.mp hm
  exact q k hk fun y hy => by have := all (y : Int) (List.mem_map.mpr ⟨y, hy, rfl⟩); omega
abbrev sp_extra_passes (K : PySem.W.Frag) (C : Addr) : Sp := sp4 fun a b c d H Q => ∃ (ts : List Nat) (fl low mem : Nat) (p : Addr) (ws : List (List Nat × Nat)), IsT C H a ts fl ∧ b = .int (low : Int) ∧ c = .int (mem : Int) ∧ d = .ref p ∧ low ≤ mem ∧ mem ≤ ts.length ∧ Row C H p ws ∧ 1 ≤ ws.length ∧ ws.length ≤ 20 ∧ (∀ w ∈ ws, w.1.length = ts.length) ∧ ∀ H', Ext H H' → Q (exV ts fl low mem ws) H'
end G

/-! a != b, where the class tells == alone. -/
namespace G
open PySem PySem.Spec PyProof.Rows L2 M
open PySem.W
section
variable {prog : Program} {w : World} {A : Around} {E : Value → Shared → Prop} {s : Shared} {K : Frag} {x C L f : Addr} {h₀ : Heap} {m : Str → Option Value} {ox : Obj} {od : Option Obj} {b tb : Value}
theorem ifNe_K {M : Model} {args : List Value} {Q : Option Value → Shared → Prop} (X : K.In s.heap) (I : InstAt s.heap x ox C od) (hs : findIn K (.ref C) "__ne__" = some (some (.builtin "object.__ne__")))
    (h : wpAny M A (call (.builtin "object.__ne__") (.ref x :: args)) (fun v => Q (some v)) E s) : wpAny M A (callSpecialIfBound? (.ref x) "__ne__" args) Q E s := by
  simp only [callSpecialIfBound?, bindSpecialIfBound?]
  refine wpAny_holding (wpAny_bind (wpAny_bind (wpAny_bind (I.type.here ((looks_findIn X hs).here ?_)))))
  simp only [PySem.F.cmp_object.ne.bind]
  refine wpAny_bind (wpAny_askSetting (wpAny_ite ?_))
  have fin : wpAny M A (call (.builtin "object.__ne__") ([.ref x] ++ args) >>= fun v => pure (some v)) Q E s := wpAny_bind (wpAny_mono h (fun v s' h' => wpAny_pure h') fun _ _ h' => h')
  split
  · exact wpAny_bind (wpAny_pure (wpAny_pure fin))
  · exact wpAny_tryCatch (wpAny_bind (wpAny_pure (wpAny_pure fin)))
theorem ne_call {Q : Value → Shared → Prop} (hu : A.in1.units < cLine) (X : K.In s.heap) (I : InstAt s.heap x ox C od) (hm : mroIn K C (.type "object") = some true)
    (hs : findIn K (.ref C) "__eq__" = some (some (.ref f))) (hf : isFn K (.ref f) = true)
    (h : wpAny (model prog w) A.in1 (call (.ref f) [.ref x, b]) (fun v s' => ∃ r : Bool, v = .bool r ∧ Q (.bool (!r)) s') E s) : wpAny (model prog w) A (call (.builtin "object.__ne__") [.ref x, b]) Q E s := by
  obtain ⟨hp, g, dr, t, os⟩ := s
  have L0 := I.type (M := model prog w)
  have L1 := looks_mroIn (M := model prog w) X hm
  refine wpAny_call (codeAny_call_builtin PySem.F.cmp_object.ne.plain PySem.F.cmpEntry_ne ?_)
  simp only [checkBuiltinCall, PySem.F.cmpKind_ne, PySem.F.cmpSplit_ne]
  unfold isInstance
  have h2 : wpAny (model prog w) A.in1 (callSpecialIfBound? (.ref x) (Str.ofString "__eq__") [b]) (fun r s' => ∃ k : Bool, r = some (.bool k) ∧ Q (.bool (!k)) s') E ⟨hp, g, dr, t, os⟩ := by
    refine ifBound_K X I hs hf (wpAny_mono h (fun v s' hv => ?_) fun _ _ e => e)
    obtain ⟨r, rfl, hq⟩ := hv
    exact ⟨r, rfl, hq⟩
  repeat (first | with_reducible refine wpAny_cRoomFor hu ?_ | with_reducible refine wpAny_mono h2 (fun r s' hr => ?_) (fun _ _ e => e) | lk)
  obtain ⟨k, rfl, hq⟩ := hr
  repeat lk
  exact hq
theorem ne_K {Q : Value → Shared → Prop} (hu : A.units < cLine) (F : Fr h₀ L s.heap m) (X₀ : K.In h₀) (I : InstAt s.heap x ox C od) (hb : Looks (model prog w) s.heap (typeOf b) tb) (hn : notFirst K C tb = true)
    (hs : findIn K (.ref C) "__ne__" = some (some (.builtin "object.__ne__")))
    (h : wpAny (model prog w) A (call (.builtin "object.__ne__") [.ref x, b]) (PySem.W.CmpBack Q) E s) : wpAny (model prog w) A (richCompare .NotEq (.ref x) b) Q E s := by
  have X := X₀.keeps F.keep
  have one : wpAny (model prog w) A (tryCompare (.ref x) (cmpInfo .NotEq).2.1 b) (fun r s' => ∃ v, r = some v ∧ Q v s') E s := by
    unfold tryCompare
    refine wpAny_bind (ifNe_K X I hs (wpAny_mono h (fun v s' hv => ?_) fun _ _ e => e))
    cases v <;> first | exact hv.elim | exact wpAny_pure ⟨_, rfl, hv⟩
  unfold richCompare
  simp only [oneThing_ref]
  refine wpAny_holding (wpAny_bind (wpAny_cRoomFor hu ?_))
  refine wpAny_bind (I.type.here (wpAny_bind (hb.here ?_)))
  split
  · rename_i q
    have e : subIn K tb (.ref C) = some false := by
      rcases Bool.or_eq_true_iff.mp hn with e | e
      · rw [beq_iff_eq.mp e] at q; simp at q
      · exact beq_iff_eq.mp e
    refine wpAny_bind ((looks_subIn X e).here ?_)
    simp only [Bool.false_eq_true, if_false]
    refine wpAny_bind (wpAny_mono one (fun r s' z => ?_) fun _ _ e => e)
    obtain ⟨v, rfl, hq⟩ := z
    exact wpAny_pure hq
  · refine wpAny_bind (wpAny_pure ?_)
    simp only [Bool.false_eq_true, if_false]
    refine wpAny_bind (wpAny_mono one (fun r s' z => ?_) fun _ _ e => e)
    obtain ⟨v, rfl, hq⟩ := z
    exact wpAny_pure hq
end
structure TurnNe (K : PySem.W.Frag) (C : Addr) : Prop where
  ne : PySem.W.findIn K (.ref C) "__ne__" = some (some (.builtin "object.__ne__"))
/-- a != b, a a turn -/
def rTurnNe (K : PySem.W.Frag) (C : Addr) : R2 := fun a b H Q => ∃ (x l : Addr) (ts : List Nat) (fl : Nat) (r : Bool), a = .ref x ∧ TurnAt C H x l ts fl ∧ EqTo K C H b ts fl r ∧ Q (.bl (!r)) H
theorem op_Turn_ne0 {X : Cx} {C : Addr} {j : Nat} (tc : TurnT X.prog X.w X.K X.mg X.base C) (tn : TurnNe X.K C) (hr : Room j X.A) (hj : 7 ≤ j) : OpR X (compareOp .NotEq) (rTurnNe X.K C) := by
  obtain ⟨g, fd, ps, hs, hf, F, B⟩ := tc.eq
  intro pins s σ H x y v u Q I rx ry h
  obtain ⟨a, l, ts, fl, r, rfl, at_, eq, q⟩ := h
  obtain ⟨dx, hx⟩ := at_.ob
  have key : ∃ t, TyX X.K H y t ∧ PySem.W.notFirst X.K C t = true := by
    rcases eq with ⟨b, l', ts', fl', rfl, bt, er⟩ | ⟨⟨T, ty, mem⟩, er⟩
    · exact ⟨_, tc.tx.ty bt, tc.tx.firstC⟩
    · exact ⟨_, ty, tc.tx.first mem⟩
  obtain ⟨t, ty, nf⟩ := key
  cases (show v = Value.ref a from rx)
  obtain ⟨mA, O, _⟩ := ins_get I.hok hx
  obtain ⟨od, J, _⟩ := O.look
  obtain ⟨Z, kx, hz, _⟩ := kit_of I ry ty
  obtain ⟨m, hF⟩ := I.fr
  show wpAny _ _ (richCompare .NotEq (.ref a) u) _ _ _
  have hr7 : Room 7 X.A := hr.mono hj
  refine ne_K hr.units0 hF I.ok.mod.kin J (kx.ty _ _ I.kIn hz) nf tn.ne ?_
  refine ne_call (hr7.in1 (k := 6)).units0 I.kIn J tc.tx.cm hs hf ?_
  have h' : sp_Turn_eq X.K C [.ref a, y] H (fun v H' => v = .bl r ∧ H' = H) E0 := ⟨_, _, rfl, a, l, ts, fl, r, rfl, at_, eq, rfl, rfl⟩
  have r2 : Vals [.ref a, y] [.ref a, u] := .cons rfl (.cons ry .nil)
  have hl : ([Value.ref a, u] ++ ([] : List Value)).length = ps.length := by
    rw [← F.len _ _ _ _ h']
    rfl
  refine wpAny_call (codeAny_mono (F.run X.A.in1 X.stack s H ⟨[.ref a, u], []⟩ [.ref a, u] [.ref a, y] _ E0 (hr7.in1 (k := 6)) I.env0.in1 (B s [.ref a, u] I.kIn hl) r2 h') fun z s' hq => ?_)
  cases z with
  | error er => exact pass0 pins σ H s er s' I hq
  | ok flw =>
    cases flw with
    | ret w =>
      obtain ⟨v', H', I3, rv, e1, e2⟩ := I.after hq
      subst e1 e2
      cases (show w = Value.bool r from rv)
      exact ⟨r, rfl, cmp_back (z := .bl (!r)) rfl ⟨.bl (!r), _, I3, rfl, q⟩⟩
    | next => exact False.elim hq
    | brk => exact False.elim hq
    | cont => exact False.elim hq
theorem op_Turn_ne {X : Cx} {C : Addr} {j : Nat} {K0 : PySem.W.Frag} (tc : TurnT X.prog X.w X.K X.mg X.base C) (tn : TurnNe X.K C) (hr : Room j X.A) (hj : 7 ≤ j) (hK : X.K = K0 := by rfl) : OpR X (compareOp .NotEq) (rTurnNe K0 C) := hK ▸ op_Turn_ne0 tc tn hr hj
end G

/-! A row of passes, each of which exchanges so many bits within a page with as many above. -/
namespace G
open PySem PySem.Spec PyProof.Rows L2 M
theorem flips_zero {ts : List Nat} {fl : Nat} (ok : Ts ts) (hf : fl < 2 ^ ts.length) : go ts fl 0 = fl := bits_ext (go_lt ts fl 0) hf fun t ht => by
  rw [go_bit ok fl 0 (ok.get_idx ht), Nat.zero_testBit, Bool.false_xor]
theorem tb_get {ts : List Nat} {b t : Nat} (h : ts[b]? = some t) : tb ts b = t := by
  unfold tb
  rw [List.getD_eq_getElem?_getD, h]
  rfl
/-- the bits within a page that go above it, those above that go into it -/
def upb (ts : List Nat) (low i : Nat) : List Nat := (List.range i).filter fun b => decide (low ≤ tb ts b)
def dnb (ts : List Nat) (low i : Nat) : List Nat := ((List.range i).map (low + ·)).filter fun b => decide (tb ts b < low)
theorem upb_succ (ts : List Nat) (low i : Nat) : upb ts low (i + 1) = upb ts low i ++ (if low ≤ tb ts i then [i] else []) := by
  unfold upb
  rw [List.range_succ, List.filter_append]
  congr 1
  by_cases c : low ≤ tb ts i <;> simp [c]
theorem dnb_succ (ts : List Nat) (low i : Nat) : dnb ts low (i + 1) = dnb ts low i ++ (if tb ts (low + i) < low then [low + i] else []) := by
  unfold dnb
  rw [List.range_succ, List.map_append, List.filter_append]
  congr 1
  by_cases c : tb ts (low + i) < low <;> simp [c]
theorem upb_len (ts : List Nat) (low i : Nat) : (upb ts low i).length ≤ i := by
  unfold upb
  refine Nat.le_trans (List.length_filter_le _ _) ?_
  rw [List.length_range]
  exact Nat.le_refl _
theorem dnb_len (ts : List Nat) (low i : Nat) : (dnb ts low i).length ≤ i := by
  unfold dnb
  refine Nat.le_trans (List.length_filter_le _ _) ?_
  rw [List.length_map, List.length_range]
  exact Nat.le_refl _
theorem upb_mem {ts : List Nat} {low i b : Nat} : b ∈ upb ts low i ↔ b < i ∧ low ≤ tb ts b := by
  unfold upb
  rw [List.mem_filter, List.mem_range, decide_eq_true_iff]
theorem dnb_mem {ts : List Nat} {low i b : Nat} : b ∈ dnb ts low i ↔ low ≤ b ∧ b < low + i ∧ tb ts b < low := by
  unfold dnb
  rw [List.mem_filter, List.mem_map, decide_eq_true_iff]
  constructor
  · rintro ⟨⟨k, hk, rfl⟩, h⟩
    have := List.mem_range.mp hk
    exact ⟨by omega, by omega, h⟩
  · rintro ⟨h1, h2, h3⟩
    exact ⟨⟨b - low, List.mem_range.mpr (by omega), by show low + (b - low) = b; omega⟩, h3⟩
theorem upb_nd (ts : List Nat) (low i : Nat) : (upb ts low i).Nodup := List.nodup_range.filter _
theorem dnb_nd (ts : List Nat) (low i : Nat) : (dnb ts low i).Nodup := by
  exact List.Pairwise.filter _ (List.pairwise_map.mpr (List.nodup_range.imp fun h e => h (by omega)))
theorem filter_sm (p : Nat → Prop) [DecidablePred p] (i : Nat) : ((List.range i).filter fun b => decide (p b)).length = sm i fun b => cc (p b) := by
  rw [filter_len]
  refine sm_congr fun b _ => ?_
  unfold cc
  by_cases c : p b <;> simp [c]
theorem upb_sm (ts : List Nat) (low i : Nat) : (upb ts low i).length = sm i fun b => cc (low ≤ tb ts b) := filter_sm (fun b => low ≤ tb ts b) i
theorem dnb_sm (ts : List Nat) (low i : Nat) : (dnb ts low i).length = sm i fun b => cc (tb ts (low + b) < low) := by
  unfold dnb
  rw [List.filter_map, List.length_map]
  exact filter_sm (fun b => tb ts (low + b) < low) i
theorem ups_upb {ts : List Nat} {low : Nat} (h : low ≤ ts.length) : (ups ts low).length = (upb ts low low).length := by
  rw [upb_sm]
  exact ups_sm ts low low h
theorem below_count {ts : List Nat} (ok : Ts ts) {low : Nat} (h : low ≤ ts.length) : (sm ts.length fun b => cc (tb ts b < low)) = low := by
  have e : ts = (List.range ts.length).map (tb ts) := by
    refine List.ext_getElem (by simp) fun i h1 h2 => ?_
    rw [List.getElem_map, List.getElem_range]
    exact (tb_get (List.getElem?_eq_getElem h1)).symm
  have a : (ts.filter fun t => decide (t < low)).length = sm ts.length fun b => cc (tb ts b < low) := by
    rw [← filter_sm fun b => tb ts b < low]
    conv => lhs; rw [e, List.filter_map, List.length_map]
    rfl
  rw [← a, (ok.perm.filter _).length_eq, filter_sm fun t => t < low, sm_below low ts.length h]
theorem up_dn {ts : List Nat} (ok : Ts ts) {low : Nat} (h : low ≤ ts.length) : (upb ts low low).length = (dnb ts low (ts.length - low)).length := by
  rw [upb_sm, dnb_sm]
  have b := below_count ok h
  obtain ⟨k, hk⟩ := Nat.le.dest h
  rw [← hk, sm_split] at b
  have c : (sm low fun b => cc (tb ts b < low)) + (sm low fun b => cc (low ≤ tb ts b)) = low := by
    rw [← sm_add, sm_congr (g := fun _ => 1) fun b _ => by unfold cc; (repeat' split) <;> omega, sm_const]
    omega
  rw [show ts.length - low = k by omega]
  omega
/-- a list that exchanges bits of two lists, so far -/
structure Swp (n low : Nat) (us ds S : List Nat) : Prop where
  len : S.length = n
  lt : ∀ b, b < n → tb S b < n
  inv : ∀ b, b < n → tb S (tb S b) = b
  up : ∀ b, b ∈ us → tb S b ∈ ds
  dn : ∀ b, b ∈ ds → tb S b ∈ us
  no : ∀ b, b < n → b ∉ us → b ∉ ds → tb S b = b
theorem swp_nil (n low : Nat) : Swp n low [] [] (List.range n) := by
  have e : ∀ b, b < n → tb (List.range n) b = b := fun b hb => tb_get (List.getElem?_range hb)
  exact ⟨List.length_range, fun b hb => by rw [e b hb]; exact hb, fun b hb => by rw [e b hb, e b hb], fun b hb => absurd hb (by simp), fun b hb => absurd hb (by simp), fun b hb _ _ => e b hb⟩
theorem tb_set {l : List Nat} {i v b : Nat} (hi : i < l.length) : tb (l.set i v) b = if b = i then v else tb l b := by
  unfold tb
  rw [List.getD_eq_getElem?_getD, List.getD_eq_getElem?_getD, List.getElem?_set]
  by_cases c : i = b
  · subst c
    rw [if_pos rfl, if_pos hi, if_pos rfl]
    rfl
  · rw [if_neg c, if_neg (Ne.symm c)]
theorem swp_step {n low u d : Nat} {us ds S : List Nat} (h : Swp n low us ds S) (hu : u < n) (hd : d < n) (ne : u ≠ d) (u1 : u ∉ us) (u2 : u ∉ ds) (d1 : d ∉ us) (d2 : d ∉ ds) (du : ∀ b ∈ us, b ∉ ds) (nu : ∀ b ∈ us, b < n) (nd : ∀ b ∈ ds, b < n) : Swp n low (us ++ [u]) (ds ++ [d]) ((S.set u d).set d u) := by
  have t : ∀ b, tb ((S.set u d).set d u) b = if b = d then u else if b = u then d else tb S b := fun b => by
    rw [tb_set (by rw [List.length_set, h.len]; exact hd), tb_set (by rw [h.len]; exact hu)]
  have fu := h.no u hu u1 u2
  have fd := h.no d hd d1 d2
  refine ⟨by rw [List.length_set, List.length_set, h.len], fun b hb => ?_, fun b hb => ?_, fun b hb => ?_, fun b hb => ?_, fun b hb hbu hbd => ?_⟩
  · rw [t]
    split
    · exact hu
    · split
      · exact hd
      · exact h.lt b hb
  · rw [t b]
    by_cases c : b = d
    · rw [if_pos c, t, if_neg ne, if_pos rfl, c]
    · rw [if_neg c]
      by_cases c2 : b = u
      · rw [if_pos c2, t, if_pos rfl, c2]
      · rw [if_neg c2, t]
        have i := h.inv b hb
        rw [if_neg, if_neg, i]
        · intro e
          rw [e, fu] at i
          exact c2 i.symm
        · intro e
          rw [e, fd] at i
          exact c i.symm
  · rw [t]
    rcases List.mem_append.mp hb with k | k
    · have e1 : b ≠ d := fun z => d1 (z ▸ k)
      have e2 : b ≠ u := fun z => u1 (z ▸ k)
      rw [if_neg e1, if_neg e2]
      exact List.mem_append_left _ (h.up b k)
    · rw [List.mem_singleton.mp k, if_neg ne, if_pos rfl]
      exact List.mem_append_right _ (by simp)
  · rw [t]
    rcases List.mem_append.mp hb with k | k
    · have e1 : b ≠ d := fun z => d2 (z ▸ k)
      have e2 : b ≠ u := fun z => u2 (z ▸ k)
      rw [if_neg e1, if_neg e2]
      exact List.mem_append_left _ (h.dn b k)
    · rw [List.mem_singleton.mp k, if_pos rfl]
      exact List.mem_append_right _ (by simp)
  · have e1 : b ≠ d := fun z => hbd (by rw [z]; simp)
    have e2 : b ≠ u := fun z => hbu (by rw [z]; simp)
    rw [t, if_neg e1, if_neg e2]
    exact h.no b hb (fun k => hbu (List.mem_append_left _ k)) fun k => hbd (List.mem_append_left _ k)
section
variable {n low : Nat} {us ds S left : List Nat} {fl : Nat}
theorem swp_ts (h : Swp n low us ds S) (h1 : 1 ≤ n) (h2 : n ≤ 100) : Ts S := by
  refine ⟨by rw [h.len]; exact h1, by rw [h.len]; exact h2, fun t ht => ?_, ?_⟩
  · obtain ⟨b, hb⟩ := List.mem_iff_getElem?.mp ht
    have bl := (List.getElem?_eq_some_iff.mp hb).1
    rw [← tb_get hb, h.len]
    exact h.lt b (by rw [← h.len]; exact bl)
  · refine List.pairwise_iff_getElem.mpr fun i j hi hj hij e => ?_
    have gi := tb_get (List.getElem?_eq_getElem hi)
    have gj := tb_get (List.getElem?_eq_getElem hj)
    have a := h.inv i (by rw [← h.len]; exact hi)
    have b := h.inv j (by rw [← h.len]; exact hj)
    rw [gi] at a
    rw [gj] at b
    rw [e, b] at a
    omega
/-- what is left behind a pass, and the pass itself -/
theorem swp_left (h : Swp n low us ds S) (ok : Ts left) (ln : left.length = n) (hf : fl < 2 ^ n) (hl : low ≤ n) (hu : ∀ b ∈ us, b ∈ upb left low low) (hd : ∀ b ∈ ds, b ∈ dnb left low (n - low)) (nu : us.Nodup) :
    OkW n (cT S left, fl) ∧ thenW (S, 0) (cT S left, fl) = (left, fl) ∧ (ups S low).length = us.length ∧ (ups (cT S left) low).length + us.length = (ups left low).length := by
  have h1 := ok.one
  have h2 := ok.most
  rw [ln] at h1 h2
  have oS := swp_ts h h1 h2
  have lS := h.len
  have okc : Ts (cT S left) := cT_ok oS ok (lS.trans ln.symm)
  have lc : (cT S left).length = n := by unfold cT; rw [List.length_map, lS]
  have tc : ∀ b, b < n → tb (cT S left) b = tb left (tb S b) := fun b hb => by
    have g : S[b]? = some (tb S b) := getD_some (by omega)
    rw [tb_get (cT_get g)]
    rfl
  have uL : ∀ b ∈ us, b < low ∧ low ≤ tb left b := fun b hb => upb_mem.mp (hu b hb)
  have dL : ∀ b ∈ ds, low ≤ b ∧ b < low + (n - low) ∧ tb left b < low := fun b hb => dnb_mem.mp (hd b hb)
  have cnt : (sm low fun b => cc (b ∈ us)) = us.length := by
    rw [← filter_sm fun b => b ∈ us]
    refine ((List.perm_ext_iff_of_nodup (List.nodup_range.filter _) nu).mpr fun b => ?_).length_eq
    rw [List.mem_filter, List.mem_range, decide_eq_true_iff]
    exact ⟨fun z => z.2, fun z => ⟨(uL b z).1, z⟩⟩
  refine ⟨⟨okc, lc⟩, ?_, ?_, ?_⟩
  · have e1 : cT S (cT S left) = left := by
      refine List.ext_getElem (by unfold cT; rw [List.length_map, lS, ln]) fun i i1 i2 => ?_
      have il : i < n := by rw [← ln]; exact i2
      have g : S[i]? = some (tb S i) := getD_some (by omega)
      have a := tb_get (cT_get (us := cT S left) g)
      have a2 := tb_get (List.getElem?_eq_getElem i1)
      have b := tb_get (List.getElem?_eq_getElem i2)
      rw [a] at a2
      rw [← a2, ← b]
      show tb (cT S left) (tb S i) = tb left i
      rw [tc _ (h.lt i il), h.inv i il]
    unfold thenW
    show (cT S (cT S left), go (cT S left) fl 0) = _
    rw [e1, flips_zero okc (by rw [lc]; exact hf)]
  · rw [ups_upb (by rw [lS]; exact hl), upb_sm, ← cnt]
    refine sm_congr fun b hb => cc_congr ⟨fun z => ?_, fun z => ?_⟩
    · refine Decidable.byContradiction fun c => ?_
      have nd : b ∉ ds := fun k => by have := (dL b k).1; omega
      rw [h.no b (by omega) c nd] at z
      omega
    · exact (dL _ (h.up b z)).1
  · rw [ups_upb (by rw [lc]; exact hl), ups_upb (by rw [ln]; exact hl), upb_sm, upb_sm, ← cnt, ← sm_add]
    refine sm_congr fun b hb => ?_
    rw [tc b (by omega)]
    by_cases c : b ∈ us
    · have k := (dL _ (h.up b c)).2.2
      have k2 := (uL b c).2
      rw [cc_no (by omega), cc_yes c, cc_yes k2]
    · have nd : b ∉ ds := fun k => by have := (dL b k).1; omega
      rw [h.no b (by omega) c nd, cc_no c, Nat.add_zero]
end
theorem thenW_assoc {n : Nat} {u v w : List Nat × Nat} (hu : OkW n u) (hv : OkW n v) (hw : OkW n w) : thenW (thenW u v) w = thenW u (thenW v w) := by
  have e := then_assoc (fl := u.2) (gl := v.2) (hl := w.2) hu.1 hv.1 hw.1 (hu.2.trans hv.2.symm) (hv.2.trans hw.2.symm)
  unfold thenW
  rw [e.1, e.2]
theorem wholeW_snoc {ws : List (List Nat × Nat)} (h : ws ≠ []) (w : List Nat × Nat) : wholeW (ws ++ [w]) = thenW (wholeW ws) w := by
  cases ws with
  | nil => exact absurd rfl h
  | cons a b =>
    show (b ++ [w]).foldl thenW a = _
    rw [List.foldl_append]
    rfl
theorem wholeW_ok {n : Nat} {ws : List (List Nat × Nat)} (h : ws ≠ []) (hw : ∀ w ∈ ws, OkW n w) : OkW n (wholeW ws) := by
  cases ws with
  | nil => exact absurd rfl h
  | cons a b => exact fold_ok (hw a (by simp)) fun w k => hw w (by simp [k])
theorem whole_step {n : Nat} {ws : List (List Nat × Nat)} {a b c : List Nat × Nat} (hw : ∀ w ∈ ws, OkW n w) (ha : OkW n a) (hb : OkW n b) (e : thenW a b = c) : wholeW ((ws ++ [a]) ++ [b]) = wholeW (ws ++ [c]) := by
  rw [wholeW_snoc (by simp)]
  by_cases h : ws = []
  · subst h
    exact e
  · rw [wholeW_snoc h, wholeW_snoc h, thenW_assoc (wholeW_ok h hw) ha hb, e]
end G

/-! list != [], whatever the items are -/
namespace G
open PySem PySem.Spec PyProof.Rows L2 M
section
variable {prog : Program} {w : World} {A : Around} {E : Value → Shared → Prop} {s : Shared}
theorem ne_lens {a b : Addr} {xs ys : Array Value} {Q : Value → Shared → Prop} (ha : s.heap.IsList a xs) (hb : s.heap.IsList b ys) (hu : A.units < cLine) (hl : xs.size ≠ ys.size) (h : Q (.bool true) s) :
    wpAny (model prog w) A (richCompare .NotEq (.ref a) (.ref b)) Q E s := by
  have ta := ha.typeIs
  have tb := hb.typeIs
  obtain ⟨⟨c, dct, dt, sl⟩, h1, h2, n, h3⟩ := ha
  obtain ⟨⟨c', dct', dt', sl'⟩, k1, k2, n', k3⟩ := hb
  replace h2 : c = .type "list" := h2
  replace h3 : dt = .seq xs n := h3
  replace k2 : c' = .type "list" := k2
  replace k3 : dt' = .seq ys n' := k3
  subst h2 h3 k2 k3
  refine wpAny_richCompare_same_room (op := .NotEq) ta tb PySem.F.slot_list_ne ?_ hu
  exact call_meets PySem.F.slot_list_ne ta PySem.F.entry_list_ne (PySem.F.args_list_ne_2 _ _) (PySem.SeqAt.list_ne_lengthsAt a b xs ys n n' dct dct' sl sl' (by simpa using hl)) ⟨h1, k1, ⟨fun z => by (cases z), h⟩⟩
end
/-- xs != [] -/
def rNeE (K : PySem.W.Frag) : R2 := fun x y H Q => ∃ (a b : Addr) (xs : List V), x = .ref a ∧ y = .ref b ∧ SqL K H a xs ∧ SqL K H b [] ∧ Q (.bl (!xs.isEmpty)) H
theorem op_neE0 {X : Cx} {j : Nat} (hr : Room j X.A) : OpR X (compareOp .NotEq) (rNeE X.K) := by
  intro pins s σ H x y v u Q I rx ry h
  obtain ⟨a, b, xs, rfl, rfl, ha, hb, q⟩ := h
  cases xs with
  | nil =>
    have un : X.A.units + 64 < cLine := by have := hr.un; omega
    refine op_neD un pins s σ H _ _ v u Q I rx ry ⟨.list [], .list [], .lst ha .nil, .lst hb .nil, by decide +kernel, by decide +kernel, ?_⟩
    exact q
  | cons x0 xs =>
    cases (show v = Value.ref a from rx)
    cases (show u = Value.ref b from ry)
    obtain ⟨its, rv, p1, _⟩ := I.list ha
    obtain ⟨its2, rv2, p2, _⟩ := I.list hb
    have l1 := rv.length
    have l2 := rv2.length
    show wpAny _ _ (richCompare .NotEq (.ref a) (.ref b)) _ _ _
    refine ne_lens p1.isList p2.isList hr.units0 ?_ ⟨.bl true, H, I, rfl, q⟩
    rw [List.size_toArray, List.size_toArray, ← l1, ← l2]
    simp
theorem op_neE {X : Cx} {j : Nat} {K0 : PySem.W.Frag} (hr : Room j X.A) (hK : X.K = K0 := by rfl) : OpR X (compareOp .NotEq) (rNeE K0) := hK ▸ op_neE0 hr
end G

/-! Rows of passes: a pass put in twice, and a row without its first. -/
namespace G
open PySem PySem.Spec PyProof.Rows L2 M
theorem cT_len' (ts us : List Nat) : (cT ts us).length = ts.length := by unfold cT; rw [List.length_map]
theorem range_cT (ts : List Nat) : cT (List.range ts.length) ts = ts := by
  refine List.ext_getElem (by rw [cT_len', List.length_range]) fun i h1 h2 => ?_
  have a := cT_get (us := ts) (List.getElem?_range h2)
  rw [List.getElem?_eq_getElem h1, List.getD_eq_getElem?_getD, List.getElem?_eq_getElem h2] at a
  exact Option.some.inj a
theorem id_thenW {n : Nat} {w : List Nat × Nat} (hw : OkW n w) (hf : w.2 < 2 ^ n) : thenW (List.range n, 0) w = w := by
  obtain ⟨ok, rfl⟩ := hw
  unfold thenW
  rw [range_cT, flips_zero ok hf]
theorem thenW_idr {n : Nat} {u : List Nat × Nat} (hu : OkW n u) (hf : u.2 < 2 ^ n) : thenW u (List.range n, 0) = u := by
  have e := then_id (fl := u.2) hu.1 (by rw [hu.2]; exact hf)
  rw [hu.2] at e
  unfold thenW
  rw [e.1, e.2]
theorem thenW_lt {n : Nat} {u w : List Nat × Nat} (hw : OkW n w) : (thenW u w).2 < 2 ^ n := by
  have := go_lt w.1 w.2 u.2
  rw [hw.2] at this
  exact this
theorem fold_lt {n : Nat} : ∀ {ws : List (List Nat × Nat)} {u : List Nat × Nat}, u.2 < 2 ^ n → (∀ w ∈ ws, OkW n w) → (ws.foldl thenW u).2 < 2 ^ n
  | [], _, hu, _ => hu
  | w :: ws, u, hu, h => fold_lt (ws := ws) (u := thenW u w) (thenW_lt (h w (by simp))) fun x hx => h x (by simp [hx])
theorem fold_then {n : Nat} : ∀ {ws : List (List Nat × Nat)} {u v : List Nat × Nat}, OkW n u → OkW n v → (∀ w ∈ ws, OkW n w) → ws.foldl thenW (thenW u v) = thenW u (ws.foldl thenW v)
  | [], _, _, _, _, _ => rfl
  | w :: ws, u, v, hu, hv, h => by
    show ws.foldl thenW (thenW (thenW u v) w) = thenW u (ws.foldl thenW (thenW v w))
    rw [thenW_assoc hu hv (h w (by simp))]
    exact fold_then (ws := ws) hu (thenW_ok hv (h w (by simp))) fun x hx => h x (by simp [hx])
theorem idW {n : Nat} (h1 : 1 ≤ n) (h2 : n ≤ 100) : OkW n (List.range n, 0) := ⟨ts_range h1 h2, List.length_range⟩
theorem fold_id {n : Nat} {ws : List (List Nat × Nat)} (ne : ws ≠ []) (hw : ∀ w ∈ ws, OkW n w) (hf : ∀ w ∈ ws, w.2 < 2 ^ n) : ws.foldl thenW (List.range n, 0) = wholeW ws := by
  cases ws with
  | nil => exact absurd rfl ne
  | cons a b =>
    show b.foldl thenW (thenW (List.range n, 0) a) = b.foldl thenW a
    rw [id_thenW (hw a (by simp)) (hf a (by simp))]
theorem fold_tail {n : Nat} (h1 : 1 ≤ n) (h2 : n ≤ 100) {a : List Nat × Nat} {b : List (List Nat × Nat)} (ne : b ≠ []) (hw : ∀ w ∈ a :: b, OkW n w) (hf : ∀ w ∈ a :: b, w.2 < 2 ^ n) : wholeW (a :: b) = thenW a (wholeW b) := by
  have oa := hw a (by simp)
  have fa := hf a (by simp)
  have ob : ∀ w ∈ b, OkW n w := fun w h => hw w (by simp [h])
  have fb : ∀ w ∈ b, w.2 < 2 ^ n := fun w h => hf w (by simp [h])
  show b.foldl thenW a = _
  rw [← fold_id ne ob fb, ← fold_then oa (idW h1 h2) ob, thenW_idr oa fa]
theorem cancelW {n : Nat} {a x : List Nat × Nat} (ha : OkW n a) (fa : a.2 < 2 ^ n) (hx : OkW n x) (fx : x.2 < 2 ^ n) (e : thenW a x = x) : a = (List.range n, 0) := by
  obtain ⟨oa, la⟩ := ha
  obtain ⟨ox, lx⟩ := hx
  obtain ⟨as, af⟩ := a
  obtain ⟨xs, xf⟩ := x
  have e1 : cT as xs = xs := congrArg Prod.fst e
  have e2 : go xs xf af = xf := congrArg Prod.snd e
  have lx' : xs.length = n := lx
  have la' : as.length = n := la
  have z : go xs xf 0 = xf := flips_zero ox (by rw [lx']; exact fx)
  have f0 : af = 0 := go_inj ox (by rw [lx']; exact fa) (Nat.two_pow_pos _) (e2.trans z.symm)
  refine Prod.ext ?_ f0
  show as = List.range n
  refine List.ext_getElem (by rw [List.length_range]; exact la') fun i h1 h2 => ?_
  rw [List.getElem_range]
  have g : as[i]? = some as[i] := List.getElem?_eq_getElem h1
  have c := cT_get (us := xs) g
  rw [e1] at c
  have k := oa.lt as[i] (List.getElem_mem h1)
  have d := ox.getD (e := as[i]) (by rw [lx', ← la']; exact k)
  exact (ox.inj c d).symm
/-- without its first pass a row does another turn -/
theorem tail_other {n : Nat} (h1 : 1 ≤ n) (h2 : n ≤ 100) {a : List Nat × Nat} {b : List (List Nat × Nat)} (ne : b ≠ []) (hw : ∀ w ∈ a :: b, OkW n w) (hf : ∀ w ∈ a :: b, w.2 < 2 ^ n) (na : a ≠ (List.range n, 0)) : wholeW b ≠ wholeW (a :: b) := fun e => by
  have ob : ∀ w ∈ b, OkW n w := fun w h => hw w (by simp [h])
  have t := fold_tail h1 h2 ne hw hf
  rw [← e] at t
  have f := fold_lt (n := n) (u := (List.range n, 0)) (Nat.two_pow_pos n) ob
  rw [fold_id ne ob fun w h => hf w (by simp [h])] at f
  exact na (cancelW (hw a (by simp)) (hf a (by simp)) (wholeW_ok ne ob) f t.symm)
theorem back_get {n i : Nat} (h : i < n) : (List.range n).reverse[i]? = some (n - 1 - i) := by
  rw [List.getElem?_reverse (by rw [List.length_range]; exact h), List.length_range, List.getElem?_range (by omega)]
theorem back_back {n : Nat} (h1 : 1 ≤ n) (h2 : n ≤ 100) : thenW ((List.range n).reverse, 0) ((List.range n).reverse, 0) = (List.range n, 0) := by
  obtain ⟨ok, ln⟩ := Ts.of_perm (List.reverse_perm (List.range n)) h1 h2
  unfold thenW
  refine Prod.ext ?_ (flips_zero ok (Nat.two_pow_pos _))
  show cT (List.range n).reverse (List.range n).reverse = List.range n
  refine List.ext_getElem (by rw [cT_len', ln, List.length_range]) fun i j1 j2 => ?_
  have il : i < n := by rw [List.length_range] at j2; exact j2
  have a := cT_get (us := (List.range n).reverse) (back_get il)
  rw [List.getElem?_eq_getElem j1, List.getD_eq_getElem?_getD, back_get (by omega)] at a
  rw [List.getElem_range, Option.some.inj a]
  show n - 1 - (n - 1 - i) = i
  omega
/-- a pass that undoes itself, put in twice, changes nothing -/
theorem twice {n k : Nat} (h1 : 1 ≤ n) (h2 : n ≤ 100) {ws : List (List Nat × Nat)} {v : List Nat × Nat} (ne : ws ≠ []) (hw : ∀ w ∈ ws, OkW n w) (hf : ∀ w ∈ ws, w.2 < 2 ^ n) (hv : OkW n v) (fv : v.2 < 2 ^ n) (vv : thenW v v = (List.range n, 0)) : wholeW (ws.take k ++ [v, v] ++ ws.drop k) = wholeW ws := by
  have ot : ∀ w ∈ ws.take k, OkW n w := fun w h => hw w (List.mem_of_mem_take h)
  have od : ∀ w ∈ ws.drop k, OkW n w := fun w h => hw w (List.mem_of_mem_drop h)
  have all : ∀ (P : List Nat × Nat → Prop), (∀ w ∈ ws, P w) → P v → ∀ w ∈ ws.take k ++ [v, v] ++ ws.drop k, P w := fun P h p w m => by
    rcases List.mem_append.mp m with m | m
    · rcases List.mem_append.mp m with m | m
      · exact h w (List.mem_of_mem_take m)
      · have : w = v := by
          rcases List.mem_cons.mp m with e | m
          · exact e
          · exact List.mem_singleton.mp m
        rw [this]
        exact p
    · exact h w (List.mem_of_mem_drop m)
  rw [← fold_id ne hw hf, ← fold_id (n := n) (by simp) (all _ hw hv) (all _ hf fv), List.foldl_append, List.foldl_append]
  have ou : OkW n ((ws.take k).foldl thenW (List.range n, 0)) := fold_ok (idW h1 h2) ot
  have fu : ((ws.take k).foldl thenW (List.range n, 0)).2 < 2 ^ n := fold_lt (Nat.two_pow_pos n) ot
  show (ws.drop k).foldl thenW (thenW (thenW _ v) v) = _
  rw [thenW_assoc ou hv hv, vv, thenW_idr ou fu, ← List.foldl_append, List.take_append_drop]
end G

/-! Pairs of pages, each once: dicts whose keys are pairs of numbers. -/
namespace G
open PySem PySem.Spec PyProof.Rows L2 M
def pk (x : Nat × Nat) : List Key := [Sum.inl (x.1 : Int), Sum.inl (x.2 : Int)]
theorem pk_inj {x y : Nat × Nat} (h : pk x = pk y) : x = y := by
  unfold pk at h
  injection h with h1 h2
  injection h2 with h2 _
  have e1 := Sum.inl.inj h1
  have e2 := Sum.inl.inj h2
  exact Prod.ext (by omega) (by omega)
def pset (M : List (Nat × Nat)) : List (List Key × V) := M.map fun x => (pk x, V.bl true)
theorem pset_any (M : List (Nat × Nat)) (x : Nat × Nat) : ((pset M).any fun kv => decide (kv.1 = pk x)) = decide (x ∈ M) := by
  rw [Bool.eq_iff_iff, List.any_eq_true, decide_eq_true_iff]
  unfold pset
  constructor
  · rintro ⟨kv, hk, e⟩
    obtain ⟨y, hy, rfl⟩ := List.mem_map.mp hk
    rw [← pk_inj (of_decide_eq_true e)]
    exact hy
  · exact fun h => ⟨_, List.mem_map.mpr ⟨x, h, rfl⟩, decide_eq_true rfl⟩
/-- each once -/
def once (M : List (Nat × Nat)) (x : Nat × Nat) : List (Nat × Nat) := if x ∈ M then M else M ++ [x]
theorem pset_put (M : List (Nat × Nat)) (x : Nat × Nat) : putK (pset M) (pk x) (.bl true) = pset (once M x) := by
  unfold putK once
  rw [pset_any]
  by_cases h : x ∈ M
  · rw [if_pos (decide_eq_true h), if_pos h]
    unfold pset
    rw [List.map_map]
    refine List.map_congr_left fun y _ => ?_
    show (if pk y = pk x then (pk y, V.bl true) else (pk y, V.bl true)) = _
    rw [ite_self]
  · rw [if_neg (fun z => h (of_decide_eq_true z)), if_neg h]
    unfold pset
    rw [List.map_append]
    rfl
theorem pset_len (M : List (Nat × Nat)) : (pset M).length = M.length := List.length_map _
def onces (L : List (Nat × Nat)) : List (Nat × Nat) := L.foldl once []
theorem onces_snoc (L : List (Nat × Nat)) (x : Nat × Nat) : onces (L ++ [x]) = once (onces L) x := by
  unfold onces
  rw [List.foldl_append]
  rfl
theorem once_mem (M : List (Nat × Nat)) (x y : Nat × Nat) : y ∈ once M x ↔ y ∈ M ∨ y = x := by
  unfold once
  split
  · rename_i h
    exact ⟨.inl, fun z => z.elim id fun e => e ▸ h⟩
  · rw [List.mem_append, List.mem_singleton]
theorem once_nd {M : List (Nat × Nat)} (x : Nat × Nat) (h : M.Nodup) : (once M x).Nodup := by
  unfold once
  split
  · exact h
  · rename_i c
    exact nd_snoc h c
theorem onces_gen : ∀ (L M : List (Nat × Nat)), M.Nodup → (L.foldl once M).Nodup ∧ ∀ y, y ∈ L.foldl once M ↔ y ∈ M ∨ y ∈ L
  | [], M, h => ⟨h, fun y => by simp⟩
  | x :: L, M, h => by
    obtain ⟨a, b⟩ := onces_gen L (once M x) (once_nd x h)
    refine ⟨a, fun y => ?_⟩
    show y ∈ L.foldl once (once M x) ↔ _
    rw [b, once_mem, List.mem_cons, or_assoc]
theorem onces_nd (L : List (Nat × Nat)) : (onces L).Nodup := (onces_gen L [] List.nodup_nil).1
theorem onces_mem (L : List (Nat × Nat)) (y : Nat × Nat) : y ∈ onces L ↔ y ∈ L := by
  rw [show onces L = L.foldl once [] from rfl, (onces_gen L [] List.nodup_nil).2]
  simp
/-! ### numbers some of whose bits are given -/
def okB (fx c : Nat → Bool) (m b : Nat) : Bool := (List.range m).all fun j => !fx j || (b.testBit j == c j)
theorem okB_succ (fx c : Nat → Bool) (m b : Nat) : okB fx c (m + 1) b = (okB fx c m b && (!fx m || (b.testBit m == c m))) := by
  unfold okB
  rw [List.range_succ, List.all_append]
  simp
theorem okB_iff (fx c : Nat → Bool) (m b : Nat) : okB fx c m b = true ↔ ∀ j, j < m → fx j = true → b.testBit j = c j := by
  unfold okB
  rw [List.all_eq_true]
  constructor
  · intro h j hj f
    have := h j (List.mem_range.mpr hj)
    rw [f] at this
    simpa using this
  · intro h j hj
    cases f : fx j with
    | false => rfl
    | true => simp [h j (List.mem_range.mp hj) f]
theorem okB_high (fx c : Nat → Bool) {m b : Nat} (k : Nat) (hb : k ≤ m) : okB fx c k (2 ^ m + b) = okB fx c k b := by
  unfold okB
  refine Bool.eq_iff_iff.mpr ?_
  rw [List.all_eq_true, List.all_eq_true]
  refine forall_congr' fun j => ?_
  refine forall_congr' fun hj => ?_
  rw [Nat.testBit_two_pow_add_gt (by have := List.mem_range.mp hj; omega)]
theorem count_fix (fx c : Nat → Bool) : ∀ m, (sm (2 ^ m) fun b => if okB fx c m b then 1 else 0) = 2 ^ sm m fun j => if fx j then 0 else 1
  | 0 => by
    show (if okB fx c 0 0 then 1 else 0) + 0 = 1
    rfl
  | m + 1 => by
    have ih := count_fix fx c m
    rw [sm_pow]
    have lo : (sm (2 ^ m) fun b => if okB fx c (m + 1) b then 1 else 0) = (sm (2 ^ m) fun b => if okB fx c m b then 1 else 0) * (if !fx m || (false == c m) then 1 else 0) := by
      rw [Nat.mul_comm, ← sm_mul]
      refine sm_congr fun b hb => ?_
      rw [okB_succ, Nat.testBit_lt_two_pow hb]
      cases okB fx c m b <;> cases (!fx m || (false == c m)) <;> rfl
    have hi : (sm (2 ^ m) fun b => if okB fx c (m + 1) (2 ^ m + b) then 1 else 0) = (sm (2 ^ m) fun b => if okB fx c m b then 1 else 0) * (if !fx m || (true == c m) then 1 else 0) := by
      rw [Nat.mul_comm, ← sm_mul]
      refine sm_congr fun b hb => ?_
      rw [okB_succ, okB_high fx c m (Nat.le_refl m), Nat.testBit_two_pow_add_eq, Nat.testBit_lt_two_pow hb]
      show (if (okB fx c m b && (!fx m || (true == c m))) = true then 1 else 0) = _
      cases okB fx c m b <;> cases (!fx m || (true == c m)) <;> rfl
    rw [lo, hi, ih]
    have e : (sm (m + 1) fun j => if fx j then 0 else 1) = (sm m fun j => if fx j then 0 else 1) + (if fx m then 0 else 1) := rfl
    rw [e, ← Nat.mul_add]
    cases fx m with
    | true => cases c m <;> simp
    | false => cases c m <;> simp [Nat.pow_succ]
/-! ### the pages that the places of a page go to -/
section
variable {ts : List Nat} {fl low : Nat}
def fxP (ts : List Nat) (low j : Nat) : Bool := decide (low ≤ ts.idxOf (low + j))
def cP (ts : List Nat) (fl low a j : Nat) : Bool := a.testBit (ts.idxOf (low + j) - low) ^^ fl.testBit (low + j)
theorem div_lt_pages {n p : Nat} (h : low ≤ n) (hp : p < 2 ^ n) : p / 2 ^ low < 2 ^ (n - low) := by
  refine Nat.div_lt_of_lt_mul ?_
  rw [← Nat.pow_add, show low + (n - low) = n by omega]
  exact hp
theorem page_go (ok : Ts ts) (h : low ≤ ts.length) {a b : Nat} (ha : a < 2 ^ (ts.length - low)) :
    (∃ p, p < 2 ^ ts.length ∧ p / 2 ^ low = a ∧ go ts fl p / 2 ^ low = b) ↔ b < 2 ^ (ts.length - low) ∧ okB (fxP ts low) (cP ts fl low a) (ts.length - low) b = true := by
  rw [okB_iff]
  constructor
  · rintro ⟨p, hp, rfl, rfl⟩
    refine ⟨div_lt_pages h (go_lt _ _ _), fun j hj f => ?_⟩
    have f' : low ≤ ts.idxOf (low + j) := of_decide_eq_true f
    unfold cP
    rw [Nat.testBit_div_two_pow, Nat.testBit_div_two_pow, Nat.add_comm j low, go_bit ok fl p (ok.get_idx (show low + j < ts.length by omega)), show ts.idxOf (low + j) - low + low = ts.idxOf (low + j) by omega]
  · rintro ⟨hb, hc⟩
    refine ⟨nb ts.length fun e => if low ≤ e then a.testBit (e - low) else (b.testBit (tb ts e - low) ^^ fl.testBit (tb ts e)), nb_lt _ _, ?_, ?_⟩
    · refine bits_ext (n := ts.length - low) (div_lt_pages h (nb_lt _ _)) ha fun j hj => ?_
      rw [Nat.testBit_div_two_pow, testBit_nb, decide_eq_true (show j + low < ts.length by omega), Bool.true_and, if_pos (by omega), show j + low - low = j by omega]
    · refine bits_ext (n := ts.length - low) (div_lt_pages h (go_lt _ _ _)) hb fun j hj => ?_
      have g := ok.get_idx (show low + j < ts.length by omega)
      have il := ok.idx_lt (show low + j < ts.length by omega)
      rw [Nat.testBit_div_two_pow, Nat.add_comm j low, go_bit ok fl _ g, testBit_nb, decide_eq_true il, Bool.true_and]
      by_cases c : low ≤ ts.idxOf (low + j)
      · rw [if_pos c, hc j hj (decide_eq_true c)]
        rfl
      · rw [if_neg c, tb_get g, show low + j - low = j by omega]
        cases b.testBit j <;> cases fl.testBit (low + j) <;> rfl
theorem free_count (ok : Ts ts) (h : low ≤ ts.length) : (sm (ts.length - low) fun j => if fxP ts low j then 0 else 1) = (ups ts low).length := by
  have e1 : (sm (ts.length - low) fun j => if fxP ts low j then 0 else 1) = ((List.range (ts.length - low)).filter fun j => !fxP ts low j).length := by
    rw [filter_len]
    refine sm_congr fun j _ => ?_
    cases fxP ts low j <;> rfl
  rw [e1, ← List.length_map (f := fun j => low + j)]
  refine ((List.perm_ext_iff_of_nodup ?_ ?_).mpr fun t => ?_).length_eq
  · refine List.pairwise_map.mpr ((List.Pairwise.filter _ List.nodup_range).imp fun h e => h (by omega))
  · exact List.Pairwise.filter _ (List.Pairwise.sublist (List.take_sublist _ _) ok.nd)
  · rw [List.mem_map]
    unfold ups
    rw [List.mem_filter, decide_eq_true_iff]
    constructor
    · rintro ⟨j, hj, rfl⟩
      obtain ⟨j1, j2⟩ := List.mem_filter.mp hj
      have jl := List.mem_range.mp j1
      have g := ok.get_idx (show low + j < ts.length by omega)
      have lt : ts.idxOf (low + j) < low := by
        unfold fxP at j2
        rw [Bool.not_eq_true', decide_eq_false_iff_not] at j2
        omega
      exact ⟨List.mem_of_getElem? (i := ts.idxOf (low + j)) (by rw [List.getElem?_take, if_pos lt, g]), by omega⟩
    · rintro ⟨h1, h2⟩
      obtain ⟨e, he⟩ := List.mem_iff_getElem?.mp h1
      rw [List.getElem?_take] at he
      split at he
      · rename_i el
        have tl := ok.lt t (List.mem_of_getElem? he)
        refine ⟨t - low, List.mem_filter.mpr ⟨List.mem_range.mpr (by omega), ?_⟩, by show low + (t - low) = t; omega⟩
        unfold fxP
        rw [show low + (t - low) = t by omega, ok.idx_get he, Bool.not_eq_true', decide_eq_false_iff_not]
        omega
      · cases he
/-- all pairs of a page and a page that it goes to, place by place -/
def pgs (ts : List Nat) (fl low k : Nat) : List (Nat × Nat) := (List.range k).map fun p => (p / 2 ^ low, go ts fl p / 2 ^ low)
theorem pgs_succ (ts : List Nat) (fl low k : Nat) : onces (pgs ts fl low (k + 1)) = once (onces (pgs ts fl low k)) (k / 2 ^ low, go ts fl k / 2 ^ low) := by
  rw [← onces_snoc]
  unfold pgs
  rw [List.range_succ, List.map_append]
  rfl
theorem once_len (M : List (Nat × Nat)) (x : Nat × Nat) : (once M x).length ≤ M.length + 1 := by
  unfold once
  split
  · omega
  · rw [List.length_append]
    exact Nat.le_refl _
theorem pgs_len (ts : List Nat) (fl low : Nat) : ∀ k, (onces (pgs ts fl low k)).length ≤ k
  | 0 => Nat.le_refl _
  | k + 1 => by
    rw [pgs_succ]
    have := once_len (onces (pgs ts fl low k)) (k / 2 ^ low, go ts fl k / 2 ^ low)
    have := pgs_len ts fl low k
    omega
theorem page_many (ok : Ts ts) (h : low ≤ ts.length) {a : Nat} (ha : a < 2 ^ (ts.length - low)) : ((onces (pgs ts fl low (2 ^ ts.length))).filter fun x => decide (x.1 = a)).length = 2 ^ (ups ts low).length := by
  rw [← free_count ok h, ← count_fix (fxP ts low) (cP ts fl low a), ← filter_len, ← List.length_map (f := Prod.snd)]
  refine ((List.perm_ext_iff_of_nodup ?_ (List.Pairwise.filter _ List.nodup_range)).mpr fun b => ?_).length_eq
  · refine List.pairwise_map.mpr ((List.Pairwise.filter _ (onces_nd _)).imp_of_mem fun {x y} hx hy hne e => hne (Prod.ext ?_ e))
    rw [of_decide_eq_true (List.mem_filter.mp hx).2, of_decide_eq_true (List.mem_filter.mp hy).2]
  · rw [List.mem_filter, List.mem_range, ← page_go (fl := fl) ok h ha, List.mem_map]
    constructor
    · rintro ⟨x, hx, rfl⟩
      obtain ⟨h1, h2⟩ := List.mem_filter.mp hx
      rw [onces_mem] at h1
      obtain ⟨p, hp, rfl⟩ := List.mem_map.mp h1
      exact ⟨p, List.mem_range.mp hp, of_decide_eq_true h2, rfl⟩
    · rintro ⟨p, hp, e1, e2⟩
      refine ⟨(a, b), List.mem_filter.mpr ⟨?_, decide_eq_true rfl⟩, rfl⟩
      rw [onces_mem]
      exact List.mem_map.mpr ⟨p, List.mem_range.mpr hp, by rw [e1, e2]⟩
theorem parted (N : Nat) : ∀ (M : List (Nat × Nat)), (∀ x ∈ M, x.1 < N) → M.length = sm N fun a => (M.filter fun x => decide (x.1 = a)).length
  | [], _ => (sm_zero fun _ _ => rfl).symm
  | x :: M, h => by
    have ih := parted N M fun y hy => h y (by simp [hy])
    have hx := h x (by simp)
    have e : ∀ a, ((x :: M).filter fun x => decide (x.1 = a)).length = cc (a = x.1) + (M.filter fun x => decide (x.1 = a)).length := fun a => by
      rw [List.filter_cons]
      by_cases c : x.1 = a
      · rw [if_pos (decide_eq_true c), cc_yes c.symm, List.length_cons]
        omega
      · rw [if_neg (fun z => c (of_decide_eq_true z)), cc_no fun z => c z.symm]
        omega
    rw [sm_congr fun a _ => e a, sm_add, sm_only x.1 N hx, ← ih, List.length_cons]
    omega
theorem pairs_many (ok : Ts ts) (h : low ≤ ts.length) : (onces (pgs ts fl low (2 ^ ts.length))).length = 2 ^ (ts.length - low + (ups ts low).length) := by
  rw [parted (2 ^ (ts.length - low)) _ fun x hx => ?_, sm_congr fun a ha => page_many ok h ha, sm_const, ← Nat.pow_add]
  rw [onces_mem] at hx
  obtain ⟨p, hp, rfl⟩ := List.mem_map.mp hx
  exact div_lt_pages h (List.mem_range.mp hp)
end
section
variable {K : PySem.W.Frag} {H : Hp} {σ : L2.St} {vs : List Nat} {Q : VK} {tt : TT} {te : TE} {d : Addr} {od : Obj} {M : List (Nat × Nat)}
/-- [e for u, v in dict if t]: the dict's keys are pairs -/
theorem u_lckT {c e n : Nat} (hx : H d = some (.frz od (.dT (pset M)))) (Pv : Addr → Nat → Hp → Prop) (h0 : ∀ D, H D = none → Pv D 0 (upd H D (.lst []))) (hG : ∀ D i H', H D = none → i ≤ M.length → Pv D i H' → H' d = some (.frz od (.dT (pset M))))
    (hs : ∀ D i x H', H D = none → M[i]? = some x → Pv D i H' → tt (((wipe σ vs).set c (some (.int (x.1 : Int)))).set e (some (.int (x.2 : Int)))) H' fun b H3 => if b = true then te (((wipe σ vs).set c (some (.int (x.1 : Int)))).set e (some (.int (x.2 : Int)))) H3 fun y H4 => ∃ acc, H4 D = some (.lst acc) ∧ acc.length < sizeLine ∧ Pv D (i + 1) (upd H4 D (.lst (acc ++ [y]))) else Pv D (i + 1) H3)
    (hd : ∀ D H', H D = none → Pv D M.length H' → Q (.ref D) H') (hn : n = 2 := by rfl) (hw : ∀ x y, wipe (((wipe σ vs).set c (some x)).set e (some y)) vs = wipe σ vs := by intro x y; rfl) :
    ∃ d' o', V.ref d = .ref d' ∧ ((∃ kvs, H d' = some (.frz o' (.dK kvs)) ∧ LcW (gTup K n (gCons (gName c) (gCons (gName e) gNil))) tt te vs σ Q (Itk d' o' kvs) H) ∨ ∃ kvs, H d' = some (.frz o' (.dT kvs)) ∧ LcW (gTup K n (gCons (gName c) (gCons (gName e) gNil))) tt te vs σ Q (Itkt d' o' kvs) H) := by
  subst hn
  have ln := pset_len M
  refine ⟨d, od, rfl, .inr ⟨_, hx, fun D hD => lc_it walk_keysT (Pv D) (h0 D hD) (fun i H' hi p => hG D i H' hD (by omega) p) (fun i v H H' hi p y => ?_) (fun H' p => hd D H' hD (by rw [← ln]; exact p))⟩⟩
  obtain ⟨rfl, k, w, q, hk, rfl, hq⟩ := y
  unfold pset at hk
  rw [List.getElem?_map] at hk
  obtain ⟨x, hx', e2⟩ := Option.map_eq_some_iff.mp hk
  cases e2
  refine ⟨q, _, rfl, SqT.of hq, rfl, _, _, rfl, _, _, rfl, rfl, hw _ _, ?_⟩
  exact hs D i x _ hD hx' p
end
section
variable {σ : L2.St} {H : Hp} {R : It → Hp → Prop} {te : TE}
theorem g_ikeys (h : te σ H fun x H1 => ∃ d o, x = .ref d ∧ ((∃ kvs, H1 d = some (.frz o (.dK kvs)) ∧ R (Itk d o kvs) H1) ∨ ∃ kvs, H1 d = some (.frz o (.dT kvs)) ∧ R (Itkt d o kvs) H1)) : iKeys te σ H R := h
end
end G

/-! {k: v}, the key a tuple. -/
namespace G
open PySem PySem.Spec PyProof.Rows L2 M
section
variable {prog : Program} {w : World} {K : Type} [DecidableEq K] {knd : HeapKind prog w K} {A : Around} {E : Value → Shared → Prop} {s : Shared}
theorem dict_pairsD {env : Env} {keys : List (Option Expr)} {values : List Expr} {pos : Pos} {Q : Value → Shared → Prop} (hu : knd.room A)
    (hall : keys.all (·.isSome) = true) (hl : keys.length = values.length) (h0 : keys ≠ []) (hlen : keys.length ≤ 15)
    (h : wpAny (model prog w) A (evalPairs (pairTrees keys values env pos)) (fun vs s₁ => ∃ ps, CarriesH knd s₁.heap vs ps ∧ s₁.heap.DictOfH knd s.heap.objs.size [] ∧
      ∀ h' tk, h'.DictOfH knd s.heap.objs.size (storedAllH [] ps) → Heap.SameBut s.heap.objs.size s₁.heap h' → Q (.ref s.heap.objs.size) { s₁ with heap := h', toks := tk }) E
      { s with heap := s.heap.push { cls := .type "dict", data := .dict #[] } }) :
    wpAny (model prog w) A (eval (.Dict keys values pos) env) Q E s := by
  have hn := pairTrees_length keys values env pos hall hl
  have hz := zip_pairTrees keys values env pos hall hl
  have hne : pairTrees keys values env pos ≠ [] := by
    intro he
    rw [he] at hn
    exact h0 (List.length_eq_zero_iff.mp hn.symm)
  rw [arm_eval_Dict, hz, dictDisplay_pairs _ hne (by omega)]
  exact wpAny_bind (wpAny_standAt (wpAny_bind (wpAny_subDictH (knd := knd) (Q := fun d s' => wpAny (model prog w) A (pure (Value.ref d)) Q E s') hu (by omega)
    (wpAny_mono h (fun vs s₁ h₁ => by obtain ⟨ps, hc, hm, hq⟩ := h₁; exact ⟨ps, hc, hm, fun h' tk a b => wpAny_pure (hq h' tk a b)⟩) fun _ _ e => e))))
end
/-- {k: v}, k a tuple of ints and texts -/
def tDispT (tk tv : TE) : TE := fun σ H Q => ∀ p, H p = none → tk σ (upd H p (.dT [])) fun x H1 => tv σ H1 fun y H2 => H2 p = some (.dT []) ∧ ∃ (b : Addr) (k : List Key), x = .ref b ∧ H2 b = some (.tup (k.map kV)) ∧ Q (.ref p) (upd H2 p (.dT [(k, y)]))
theorem pe_dispT {X : Cx} {pos : Pos} {k v : Expr} {tk tv : TE} (hu : X.A.units + 1 < cLine) (hk : PE X k tk) (hv : PE X v tv) : PE X (.Dict [some k] [v] pos) (tDispT tk tv) := by
  refine ⟨fun pins s σ H Q I q => ?_⟩
  have hn := I.hok.fresh (Nat.le_refl s.heap.objs.size)
  have I1 := I.laid (a := s.heap.objs.size) (o := .dT []) (h' := s.heap.push { cls := .type "dict", data := .dict #[] }) (t' := s.toks) (fun _ _ q => Heap.get?_push_of_some _ q) (Nat.le_refl _) (dt_empty s.heap I.big)
  have hu0 : X.A.units < cLine := by omega
  refine dict_pairsD (knd := tupleKind (mixKind X.prog X.w)) hu0 rfl rfl (by simp) (show 1 ≤ 15 by decide) (thn ((pps_cons hk hv pps_nil).run pins _ σ _ (fun ps H2 => match ps with
    | [(x, y)] => H2 s.heap.objs.size = some (.dT []) ∧ ∃ (b : Addr) (k : List Key), x = .ref b ∧ H2 b = some (.tup (k.map kV)) ∧ Q (.ref s.heap.objs.size) (upd H2 s.heap.objs.size (.dT [(k, y)]))
    | _ => False) I1 (q _ hn)) fun us s2 ⟨ps, H2, I2, rel, m⟩ => ?_)
  match ps, rel, m with
  | [(x, y)], rel, m =>
    obtain ⟨ed, b, kk, ex, eb, q2⟩ := m
    subst ex
    cases rel with
    | @cons p0 q0 ps0 qs0 h t =>
      cases t
      obtain ⟨r1, r2⟩ := h
      obtain ⟨u1, u2⟩ := q0
      cases (show u1 = Value.ref b from r1)
      obtain ⟨z, hd, ys, rel2, dd⟩ := dt_of I2.hok ed
      cases rel2
      have kb := key_of (P := X.prog) (w := X.w) I2.hok eb
      refine ⟨[(kk, b, u2)], ⟨rfl, rfl, kb, trivial⟩, dd, fun h' tk' dd' hs => ⟨.ref s.heap.objs.size, _, ?_, rfl, q2⟩⟩
      obtain ⟨qq, es, ep, hq, h2, h3, h4, _, h5⟩ := dd'
      refine d_write I2 (by rw [ed]; exact True.intro) hs ⟨qq, hq⟩ ⟨by show 1 ≤ _; decide, hd, _, ?_, qq, es, ep, hq, h2, h3, h4, h5⟩
      refine Paired.cons (a := (kk, y)) (b := (kk, b, u2)) ⟨rfl, ?_, r2⟩ .nil
      rw [upd_ne (ne_of eb ed (fun z => nomatch z))]
      exact eb
theorem g_dispT {tk tv : TE} {σ : L2.St} {H : Hp} {Q : VK} (h : ∀ p, H p = none → tk σ (upd H p (.dT [])) fun x H1 => tv σ H1 fun y H2 => H2 p = some (.dT []) ∧ ∃ (b : Addr) (k : List Key), x = .ref b ∧ H2 b = some (.tup (k.map kV)) ∧ Q (.ref p) (upd H2 p (.dT [(k, y)]))) : tDispT tk tv σ H Q := h
theorem g_tupRg {ta : TE} {σ : L2.St} {H : Hp} {Q : VK} (h : ta σ H fun x H1 => ∃ n, x = .int n ∧ RgOk 0 n ∧ ∀ q, H1 q = none → Q (.ref q) (upd H1 q (.tup (rgV 0 n)))) : tTupRg (tRg1 ta) σ H Q := h
end G

/-! A search breadth first over all rows of a few bits, by exchanges. -/
namespace G
open PySem PySem.Spec PyProof.Rows L2 M
def swp2 (one : List Nat) (p : Nat × Nat) : List Nat := (one.set p.1 (one.getD p.2 0)).set p.2 (one.getD p.1 0)
abbrev BF := List (List Nat × Nat) × List (List Nat)
def hasK (found : List (List Nat × Nat)) (o : List Nat) : Bool := found.any fun kv => decide (kv.1 = o)
def bfs1 (many : Nat) (st : BF) (o : List Nat) : BF := if hasK st.1 o then st else (st.1 ++ [(o, many)], st.2 ++ [o])
def bfsO (ps : List (Nat × Nat)) (front : List (List Nat)) : List (List Nat) := front.flatMap fun one => ps.map (swp2 one)
def bfsR (ps : List (Nat × Nat)) (k : Nat) (st : BF) : BF := (bfsO ps st.2).foldl (bfs1 k) (st.1, [])
def bfsF (ps : List (Nat × Nat)) : Nat → Nat → BF → Option (List (List Nat × Nat))
  | 0, _, _ => none
  | f + 1, k, st => if st.2.isEmpty then some st.1 else bfsF ps f (k + 1) (bfsR ps (k + 1) st)
def bfsI (n : Nat) : BF := ([(List.range n, 0)], [List.range n])
/-! ### sizes -/
theorem bfs1_len (k : Nat) (st : BF) (o : List Nat) : st.1.length ≤ (bfs1 k st o).1.length ∧ (st.2.length ≤ st.1.length → (bfs1 k st o).2.length ≤ (bfs1 k st o).1.length) := by
  unfold bfs1
  split
  · exact ⟨Nat.le_refl _, id⟩
  · refine ⟨by rw [List.length_append]; omega, fun h => ?_⟩
    rw [List.length_append, List.length_append]
    show _ + 1 ≤ _ + 1
    omega
theorem bfs_fold (k : Nat) : ∀ (os : List (List Nat)) (st : BF), st.1.length ≤ (os.foldl (bfs1 k) st).1.length ∧ (st.2.length ≤ st.1.length → (os.foldl (bfs1 k) st).2.length ≤ (os.foldl (bfs1 k) st).1.length)
  | [], st => ⟨Nat.le_refl _, id⟩
  | o :: os, st => by
    obtain ⟨a, b⟩ := bfs1_len k st o
    obtain ⟨c, d⟩ := bfs_fold k os (bfs1 k st o)
    exact ⟨Nat.le_trans a c, fun h => d (b h)⟩
theorem bfsR_len (ps : List (Nat × Nat)) (k : Nat) (st : BF) : st.1.length ≤ (bfsR ps k st).1.length ∧ (bfsR ps k st).2.length ≤ (bfsR ps k st).1.length := by
  obtain ⟨a, b⟩ := bfs_fold k (bfsO ps st.2) (st.1, [])
  exact ⟨a, b (Nat.zero_le _)⟩
theorem bfsF_len (ps : List (Nat × Nat)) : ∀ {f k : Nat} {st : BF} {F : List (List Nat × Nat)}, bfsF ps f k st = some F → st.1.length ≤ F.length
  | 0, _, _, _, h => by cases h
  | f + 1, k, st, F, h => by
    unfold bfsF at h
    split at h
    · cases h
      exact Nat.le_refl _
    · exact Nat.le_trans (bfsR_len ps (k + 1) st).1 (bfsF_len ps h)
/-! ### keys -/
def tk (l : List Nat) : List Key := l.map fun n : Nat => Sum.inl (n : Int)
theorem tk_inj : ∀ {a b : List Nat}, tk a = tk b → a = b
  | [], [], _ => rfl
  | [], _ :: _, h => by cases h
  | _ :: _, [], h => by cases h
  | x :: a, y :: b, h => by
    have h' : (Sum.inl (x : Int) : Key) :: tk a = Sum.inl (y : Int) :: tk b := h
    injection h' with h1 h2
    have := Sum.inl.inj h1
    rw [tk_inj h2, show x = y by omega]
theorem tk_nv (l : List Nat) : (tk l).map kV = nv l := by
  unfold tk nv
  rw [List.map_map]
  rfl
def enc (F : List (List Nat × Nat)) : List (List Key × V) := F.map fun kv => (tk kv.1, V.int (kv.2 : Int))
theorem enc_len (F : List (List Nat × Nat)) : (enc F).length = F.length := List.length_map _
theorem enc_val : ∀ (F : List (List Nat × Nat)) (o : List Nat), valV (enc F) (tk o) = (F.find? fun kv => decide (kv.1 = o)).map fun kv => V.int (kv.2 : Int)
  | [], _ => rfl
  | kv :: F, o => by
    show valV ((tk kv.1, V.int (kv.2 : Int)) :: enc F) (tk o) = _
    rw [List.find?_cons]
    by_cases c : kv.1 = o
    · rw [valV_pos (show (tk kv.1, V.int (kv.2 : Int)).1 = tk o from congrArg tk c), decide_eq_true c]
      rfl
    · rw [valV_neg (show ¬ (tk kv.1, V.int (kv.2 : Int)).1 = tk o from fun z => c (tk_inj z)), decide_eq_false c, enc_val F o]
theorem enc_has (F : List (List Nat × Nat)) (o : List Nat) : (valV (enc F) (tk o)).isSome = hasK F o := by
  rw [enc_val, Option.isSome_map]
  unfold hasK
  induction F with
  | nil => rfl
  | cons kv F ih =>
    rw [List.find?_cons, List.any_cons]
    cases decide (kv.1 = o) with
    | true => rfl
    | false => rw [ih]; rfl
theorem enc_put {F : List (List Nat × Nat)} {o : List Nat} {k : Nat} (h : hasK F o = false) : putK (enc F) (tk o) (.int (k : Int)) = enc (F ++ [(o, k)]) := by
  rw [putK_new]
  · unfold enc
    rw [List.map_append]
    rfl
  · have := enc_has F o
    rw [h] at this
    exact Option.isSome_eq_false_iff.mp this |> Option.isNone_iff_eq_none.mp
/-! ### all rows of a few bits -/
def nearP (n : Nat) : List (Nat × Nat) := (List.range (n - 1)).map fun i => (i, i + 1)
def everyP (n : Nat) : List (Nat × Nat) := (List.range n).flatMap fun h => (List.range h).map fun l => (l, h)
def farCheck (n : Nat) : Bool := match bfsF (nearP n) 12 0 (bfsI n), bfsF (everyP n) 12 0 (bfsI n) with
  | some A, some B => A.length == B.length && decide (A.length ≤ 200) && A.all fun kv => decide (kv.1.Perm (List.range n)) && decide (nsw kv.1 = kv.2) && (match B.find? fun x => decide (x.1 = kv.1) with
    | some x => decide (x.2 ≤ n) && decide (2 ^ (n - x.2) = stN kv.1 0 (2 ^ n))
    | none => false)
  | _, _ => false
/-! ### heaps -/
/-- all stays but two -/
def St2 (a b : Addr) (H H' : Hp) : Prop := ∀ c o, H c = some o → c ≠ a → c ≠ b → H' c = some o
theorem St2.refl (a b : Addr) (H : Hp) : St2 a b H H := fun _ _ h _ _ => h
theorem St2.ext {a b : Addr} {H H1 H2 : Hp} (s : St2 a b H H1) (e : Ext H1 H2) : St2 a b H H2 := fun c o h n1 n2 => e _ _ (s c o h n1 n2)
theorem St2.putA {a b : Addr} {H H1 : Hp} {o : HO} (s : St2 a b H H1) : St2 a b H (upd H1 a o) := fun c u h n1 n2 => by
  rw [upd_ne n1]
  exact s c u h n1 n2
theorem St2.putB {a b : Addr} {H H1 : Hp} {o : HO} (s : St2 a b H H1) : St2 a b H (upd H1 b o) := fun c u h n1 n2 => by
  rw [upd_ne n2]
  exact s c u h n1 n2
theorem St2.out {a b : Addr} {H H1 H2 : Hp} (e : Ext H H1) (s : St2 a b H1 H2) (ha : H a = none) (hb : H b = none) : Ext H H2 := fun c o h => s c o (e c o h) (ne_of_none h ha) (ne_of_none h hb)
/-- a list of rows, each a tuple -/
def Tups (H : Hp) (p : Addr) (rows : List (List Nat)) : Prop := ∃ as : List Addr, H p = some (.lst (as.map V.ref)) ∧ as.length = rows.length ∧ ∀ (i : Nat) (r : List Nat), rows[i]? = some r → ∃ a, as[i]? = some a ∧ H a = some (.tup (nv r))
theorem Tups.ext {H H' : Hp} {p : Addr} {rows : List (List Nat)} (t : Tups H p rows) (e : Ext H H') : Tups H' p rows := by
  obtain ⟨as, h, l, g⟩ := t
  exact ⟨as, e _ _ h, l, fun i r hr => by obtain ⟨a, h1, h2⟩ := g i r hr; exact ⟨a, h1, e _ _ h2⟩⟩
theorem Tups.at {H : Hp} {p : Addr} {rows : List (List Nat)} (t : Tups H p rows) : ∃ xs : List V, H p = some (.lst xs) ∧ xs.length = rows.length ∧ ∀ (i : Nat) (v : V), xs[i]? = some v → ∃ a r, v = .ref a ∧ rows[i]? = some r ∧ H a = some (.tup (nv r)) := by
  obtain ⟨as, h, l, g⟩ := t
  refine ⟨as.map V.ref, h, by rw [List.length_map, l], fun i v hv => ?_⟩
  rw [List.getElem?_map] at hv
  obtain ⟨a, ha, rfl⟩ := Option.map_eq_some_iff.mp hv
  have il : i < rows.length := by rw [← l]; exact (List.getElem?_eq_some_iff.mp ha).1
  obtain ⟨b, h1, h2⟩ := g i _ (List.getElem?_eq_getElem il)
  rw [ha] at h1
  cases h1
  exact ⟨a, _, rfl, List.getElem?_eq_getElem il, h2⟩
theorem Tups.one {H : Hp} {p a : Addr} {r : List Nat} (h : H p = some (.lst [.ref a])) (ha : H a = some (.tup (nv r))) : Tups H p [r] := by
  refine ⟨[a], h, rfl, fun i x hx => ?_⟩
  have il := (List.getElem?_eq_some_iff.mp hx).1
  have e0 : i = 0 := by
    have : [r].length = 1 := rfl
    omega
  subst e0
  cases hx
  exact ⟨a, rfl, ha⟩
theorem Tups.push {H : Hp} {p a : Addr} {rows : List (List Nat)} {r : List Nat} {xs : List V} (t : Tups H p rows) (hx : H p = some (.lst xs)) (ha : H a = some (.tup (nv r))) : Tups (upd H p (.lst (xs ++ [.ref a]))) p (rows ++ [r]) := by
  obtain ⟨as, h, l, g⟩ := t
  rw [hx] at h
  cases h
  have ne : ∀ {b : Addr} {ys : List V}, H b = some (.tup ys) → b ≠ p := fun hb z => by rw [z, hx] at hb; cases hb
  refine ⟨as ++ [a], by rw [upd_same, List.map_append]; rfl, by rw [List.length_append, List.length_append, l]; rfl, fun i x hx2 => ?_⟩
  by_cases c : i < rows.length
  · rw [List.getElem?_append_left c] at hx2
    obtain ⟨b, h1, h2⟩ := g i x hx2
    exact ⟨b, by rw [List.getElem?_append_left (by omega), h1], by rw [upd_ne (ne h2)]; exact h2⟩
  · have il := (List.getElem?_eq_some_iff.mp hx2).1
    rw [List.length_append] at il
    have e0 : i = rows.length := by
      have : [r].length = 1 := rfl
      omega
    subst e0
    rw [List.getElem?_append_right (Nat.le_refl _), Nat.sub_self] at hx2
    cases hx2
    exact ⟨a, by rw [List.getElem?_append_right (by omega), l, Nat.sub_self]; rfl, by rw [upd_ne (ne ha)]; exact ha⟩
theorem Tups.st2 {H H' : Hp} {p a b : Addr} {rows : List (List Nat)} {x : List (List Key × V)} {y : List V} (t : Tups H p rows) (s : St2 a b H H') (ha : H a = some (.dT x)) (hb : H b = some (.lst y)) (nb : p ≠ b) : Tups H' p rows := by
  obtain ⟨as, h, l, g⟩ := t
  refine ⟨as, s _ _ h (fun z => by rw [z, ha] at h; cases h) nb, l, fun i r hr => ?_⟩
  obtain ⟨c, h1, h2⟩ := g i r hr
  exact ⟨c, h1, s _ _ h2 (fun z => by rw [z, ha] at h2; cases h2) fun z => by rw [z, hb] at h2; cases h2⟩
/-- a list of pairs of numbers -/
def Prs (H : Hp) (p : Addr) (ps : List (Nat × Nat)) : Prop := ∃ as : List Addr, H p = some (.lst (as.map V.ref)) ∧ as.length = ps.length ∧ ∀ (i : Nat) (q : Nat × Nat), ps[i]? = some q → ∃ a, as[i]? = some a ∧ H a = some (.tup [.int (q.1 : Int), .int (q.2 : Int)])
theorem Prs.ext {H H' : Hp} {p : Addr} {ps : List (Nat × Nat)} (t : Prs H p ps) (e : Ext H H') : Prs H' p ps := by
  obtain ⟨as, h, l, g⟩ := t
  exact ⟨as, e _ _ h, l, fun i r hr => by obtain ⟨a, h1, h2⟩ := g i r hr; exact ⟨a, h1, e _ _ h2⟩⟩
theorem Prs.at {H : Hp} {p : Addr} {ps : List (Nat × Nat)} (t : Prs H p ps) : ∃ xs : List V, H p = some (.lst xs) ∧ xs.length = ps.length ∧ ∀ (i : Nat) (v : V), xs[i]? = some v → ∃ a q, v = .ref a ∧ ps[i]? = some q ∧ H a = some (.tup [.int (q.1 : Int), .int (q.2 : Int)]) := by
  obtain ⟨as, h, l, g⟩ := t
  refine ⟨as.map V.ref, h, by rw [List.length_map, l], fun i v hv => ?_⟩
  rw [List.getElem?_map] at hv
  obtain ⟨a, ha, rfl⟩ := Option.map_eq_some_iff.mp hv
  have il : i < ps.length := by rw [← l]; exact (List.getElem?_eq_some_iff.mp ha).1
  obtain ⟨b, h1, h2⟩ := g i _ (List.getElem?_eq_getElem il)
  rw [ha] at h1
  cases h1
  exact ⟨a, _, rfl, List.getElem?_eq_getElem il, h2⟩
/-! ### parts of a round -/
theorem swp2_len (one : List Nat) (p : Nat × Nat) : (swp2 one p).length = one.length := by unfold swp2; rw [List.length_set, List.length_set]
theorem bfs1_rows {n k : Nat} {st : BF} {o : List Nat} (ho : o.length = n) (h : ∀ r ∈ st.2, r.length = n) : ∀ r ∈ (bfs1 k st o).2, r.length = n := by
  unfold bfs1
  split
  · exact h
  · intro r hr
    rcases List.mem_append.mp hr with m | m
    · exact h r m
    · rw [List.mem_singleton.mp m]
      exact ho
/-- the state within a round: so many rows done, of the next one so many pairs -/
def bfsM (ps : List (Nat × Nat)) (k : Nat) (st : BF) (i j : Nat) : BF := ((bfsO ps (st.2.take i)) ++ (ps.take j).map (swp2 (st.2.getD i []))).foldl (bfs1 k) (st.1, [])
theorem bfsM_zero (ps : List (Nat × Nat)) (k : Nat) (st : BF) : bfsM ps k st 0 0 = (st.1, []) := rfl
theorem bfsM_pair {ps : List (Nat × Nat)} {k : Nat} {st : BF} {i j : Nat} {q : Nat × Nat} (h : ps[j]? = some q) : bfsM ps k st i (j + 1) = bfs1 k (bfsM ps k st i j) (swp2 (st.2.getD i []) q) := by
  unfold bfsM
  rw [List.take_add_one, h]
  show (_ ++ ((ps.take j) ++ [q]).map _).foldl _ _ = _
  rw [List.map_append, ← List.append_assoc, List.foldl_append]
  rfl
theorem bfsM_row {ps : List (Nat × Nat)} {k : Nat} {st : BF} {i : Nat} {r : List Nat} (h : st.2[i]? = some r) : bfsM ps k st i ps.length = bfsM ps k st (i + 1) 0 := by
  unfold bfsM
  rw [List.take_of_length_le (Nat.le_refl _), List.take_zero, List.map_nil, List.append_nil, List.take_add_one, h]
  unfold bfsO
  rw [List.flatMap_append, List.getD_eq_getElem?_getD, h]
  show _ = ((st.2.take i).flatMap _ ++ [r].flatMap _).foldl _ _
  rw [List.flatMap_cons, List.flatMap_nil, List.append_nil]
  rfl
theorem bfsM_all (ps : List (Nat × Nat)) (k : Nat) (st : BF) : bfsM ps k st st.2.length 0 = bfsR ps k st := by
  unfold bfsM bfsR
  rw [List.take_of_length_le (Nat.le_refl _), List.take_zero, List.map_nil, List.append_nil]
theorem bfsM_len {ps : List (Nat × Nat)} {k : Nat} {st : BF} {i : Nat} (j : Nat) (h : i < st.2.length) : (bfsM ps k st i j).1.length ≤ (bfsR ps k st).1.length ∧ (bfsM ps k st i j).2.length ≤ (bfsM ps k st i j).1.length := by
  refine ⟨?_, (bfs_fold k _ (st.1, [])).2 (Nat.zero_le _)⟩
  have e : bfsO ps st.2 = (bfsO ps (st.2.take i) ++ (ps.take j).map (swp2 (st.2.getD i []))) ++ ((ps.drop j).map (swp2 (st.2.getD i [])) ++ bfsO ps (st.2.drop (i + 1))) := by
    have g : st.2.getD i [] = st.2[i] := by rw [List.getD_eq_getElem?_getD, List.getElem?_eq_getElem h]; rfl
    rw [g]
    conv => lhs; rw [← List.take_append_drop i st.2, List.drop_eq_getElem_cons h]
    unfold bfsO
    rw [List.flatMap_append, List.flatMap_cons, List.append_assoc, ← List.append_assoc ((ps.take j).map (swp2 st.2[i])), ← List.map_append, List.take_append_drop]
  unfold bfsR
  rw [e, List.foldl_append]
  exact (bfs_fold k _ _).1
theorem bfsM_rows {n k : Nat} : ∀ (os : List (List Nat)), (∀ o ∈ os, o.length = n) → ∀ s : BF, (∀ r ∈ s.2, r.length = n) → ∀ r ∈ (os.foldl (bfs1 k) s).2, r.length = n
  | [], _, s, hs => hs
  | o :: os, ho, s, hs => bfsM_rows os (fun x hx => ho x (by simp [hx])) (bfs1 k s o) (bfs1_rows (ho o (by simp)) hs)
theorem bfsR_rows {ps : List (Nat × Nat)} {n k : Nat} {st : BF} (h : ∀ r ∈ st.2, r.length = n) : ∀ r ∈ (bfsR ps k st).2, r.length = n := by
  refine bfsM_rows _ (fun o ho => ?_) _ (fun r hr => by cases hr)
  obtain ⟨one, h1, h2⟩ := List.mem_flatMap.mp ho
  obtain ⟨p, _, rfl⟩ := List.mem_map.mp h2
  rw [swp2_len]
  exact h one h1
theorem St2.mut {a b x : Addr} {H H1 : Hp} {o : HO} (s : St2 a b H H1) (h : H x = none) : St2 a b H (upd H1 x o) := fun c u hc n1 n2 => by
  rw [upd_ne (ne_of_none hc h)]
  exact s c u hc n1 n2
theorem g_dnotin {te ta : TE} {σ : L2.St} {H : Hp} {Q : VK} (h : te σ H fun y H1 => ta σ H1 fun x H2 => ∃ a o, x = .ref a ∧ DGet H2 a y o ∧ Q (.bl (!o.isSome)) H2) : tDNotIn te ta σ H Q := h
theorem Prs.nil {H : Hp} {p : Addr} (h : H p = some (.lst [])) : Prs H p [] := ⟨[], h, rfl, fun i q hq => by cases hq⟩
theorem Prs.push {H : Hp} {p a : Addr} {ps : List (Nat × Nat)} {q : Nat × Nat} {xs : List V} (t : Prs H p ps) (hx : H p = some (.lst xs)) (ha : H a = some (.tup [.int (q.1 : Int), .int (q.2 : Int)])) : Prs (upd H p (.lst (xs ++ [.ref a]))) p (ps ++ [q]) := by
  obtain ⟨as, h, l, g⟩ := t
  rw [hx] at h
  cases h
  have ne : ∀ {b : Addr} {ys : List V}, H b = some (.tup ys) → b ≠ p := fun hb z => by rw [z, hx] at hb; cases hb
  refine ⟨as ++ [a], by rw [upd_same, List.map_append]; rfl, by rw [List.length_append, List.length_append, l]; rfl, fun i x hx2 => ?_⟩
  by_cases c : i < ps.length
  · rw [List.getElem?_append_left c] at hx2
    obtain ⟨b, h1, h2⟩ := g i x hx2
    exact ⟨b, by rw [List.getElem?_append_left (by omega), h1], by rw [upd_ne (ne h2)]; exact h2⟩
  · have il := (List.getElem?_eq_some_iff.mp hx2).1
    rw [List.length_append] at il
    have e0 : i = ps.length := by
      have : [q].length = 1 := rfl
      omega
    subst e0
    rw [List.getElem?_append_right (Nat.le_refl _), Nat.sub_self] at hx2
    cases hx2
    exact ⟨a, by rw [List.getElem?_append_right (by omega), l, Nat.sub_self]; rfl, by rw [upd_ne (ne ha)]; exact ha⟩
theorem Prs.cat {H : Hp} {p p2 : Addr} {ps qs : List (Nat × Nat)} {xs ys : List V} (t : Prs H p ps) (u : Prs H p2 qs) (hx : H p = some (.lst xs)) (hy : H p2 = some (.lst ys)) : Prs (upd H p (.lst (xs ++ ys))) p (ps ++ qs) := by
  obtain ⟨as, h, l, g⟩ := t
  obtain ⟨bs, h2, l2, g2⟩ := u
  rw [hx] at h
  cases h
  rw [hy] at h2
  cases h2
  have ne : ∀ {b : Addr} {ys : List V}, H b = some (.tup ys) → b ≠ p := fun hb z => by rw [z, hx] at hb; cases hb
  refine ⟨as ++ bs, by rw [upd_same, List.map_append], by rw [List.length_append, List.length_append, l, l2], fun i x hx2 => ?_⟩
  by_cases c : i < ps.length
  · rw [List.getElem?_append_left c] at hx2
    obtain ⟨b, h1, h2⟩ := g i x hx2
    exact ⟨b, by rw [List.getElem?_append_left (by omega), h1], by rw [upd_ne (ne h2)]; exact h2⟩
  · rw [List.getElem?_append_right (by omega)] at hx2
    obtain ⟨b, h1, h2⟩ := g2 _ x hx2
    exact ⟨b, by rw [List.getElem?_append_right (by omega), l, h1], by rw [upd_ne (ne h2)]; exact h2⟩
theorem nearP_succ (n i : Nat) : ((List.range (i + 1)).map fun i => (i, i + 1)) = ((List.range i).map fun i => (i, i + 1)) ++ [(i, i + 1)] := by
  rw [List.range_succ, List.map_append]
  rfl
theorem everyP_succ (n : Nat) : everyP (n + 1) = everyP n ++ (List.range n).map fun l => (l, n) := by
  unfold everyP
  rw [List.range_succ, List.flatMap_append, List.flatMap_cons, List.flatMap_nil, List.append_nil]
theorem everyP_len : ∀ n, n ≤ 5 → (everyP n).length ≤ 10 := by decide +kernel
theorem nearP_ok {n : Nat} : ∀ q ∈ nearP n, q.1 < n ∧ q.2 < n := fun q hq => by
  obtain ⟨i, hi, rfl⟩ := List.mem_map.mp hq
  have := List.mem_range.mp hi
  exact ⟨by show i < n; omega, by show i + 1 < n; omega⟩
theorem everyP_ok {n : Nat} : ∀ q ∈ everyP n, q.1 < n ∧ q.2 < n := fun q hq => by
  obtain ⟨h, hh, hm⟩ := List.mem_flatMap.mp hq
  obtain ⟨l, hl, rfl⟩ := List.mem_map.mp hm
  have := List.mem_range.mp hh
  have := List.mem_range.mp hl
  exact ⟨by show l < n; omega, by show h < n; omega⟩
theorem Prs.stp {H H' : Hp} {p r : Addr} {ps : List (Nat × Nat)} {xs : List V} (t : Prs H p ps) (s : Stp r H H') (hr : H r = some (.lst xs)) (np : p ≠ r) : Prs H' p ps := by
  obtain ⟨as, h, l, g⟩ := t
  refine ⟨as, s _ _ h np, l, fun i q hq => ?_⟩
  obtain ⟨a, h1, h2⟩ := g i q hq
  exact ⟨a, h1, s _ _ h2 fun z => by rw [z, hr] at h2; cases h2⟩
theorem everyP_most {n m : Nat} (h : m ≤ n) (h5 : n ≤ 5) : (everyP m).length ≤ 10 := everyP_len m (by omega)
section
variable {K : PySem.W.Frag} {H : Hp} {σ : L2.St} {d : Addr} {od : Obj} {F : List (List Nat × Nat)} {tb : TS} {D : Ends}
/-- for x in dict: the dict's keys are rows -/
theorem u_forT {c : Nat} (hx : H d = some (.frz od (.dT (enc F)))) (Pv : Nat → L2.St → Hp → Prop) (h0 : Pv 0 σ H) (hG : ∀ i σ H, i ≤ F.length → Pv i σ H → H d = some (.frz od (.dT (enc F))))
    (hs : ∀ i kv b σ H, F[i]? = some kv → Pv i σ H → H b = some (.tup (nv kv.1)) → tb { D with nx := Pv (i + 1), ct := Pv (i + 1), bk := D.nx } (σ.set c (some (.ref b))) H) (hd : ∀ σ H, Pv F.length σ H → D.nx σ H) :
    ∃ d' o', V.ref d = .ref d' ∧ ((∃ kvs, H d' = some (.frz o' (.dK kvs)) ∧ ForW (gName c) tb D σ (Itk d' o' kvs) H) ∨ ∃ kvs, H d' = some (.frz o' (.dT kvs)) ∧ ForW (gName c) tb D σ (Itkt d' o' kvs) H) := by
  have ln := enc_len F
  refine ⟨d, od, rfl, .inr ⟨_, hx, for_it walk_keysT Pv h0 (fun i σ H hi p => hG i σ H (by omega) p) (fun i v σ H H' hi p y => ?_) fun σ H p => hd σ H (by rw [← ln]; exact p)⟩⟩
  obtain ⟨rfl, k, w, q, hk, rfl, hq⟩ := y
  unfold enc at hk
  rw [List.getElem?_map] at hk
  obtain ⟨kv, hkv, e2⟩ := Option.map_eq_some_iff.mp hk
  cases e2
  exact hs i kv q σ _ hkv p (by rw [hq, tk_nv])
end
theorem enc_at {A : List (List Nat × Nat)} {f : List Nat → Nat} (h : ∀ kv ∈ A, f kv.1 = kv.2) {kv : List Nat × Nat} (hk : kv ∈ A) : valV (enc A) (tk kv.1) = some (.int (f kv.1 : Int)) := by
  rw [enc_val]
  cases e : A.find? fun x => decide (x.1 = kv.1) with
  | none => exact absurd (decide_eq_true rfl) (List.find?_eq_none.mp e kv hk)
  | some x =>
    have e1 : x.1 = kv.1 := of_decide_eq_true (List.find?_some (p := fun x : List Nat × Nat => decide (x.1 = kv.1)) e)
    have e2 := h x (List.mem_of_find?_eq_some e)
    show some (V.int (x.2 : Int)) = _
    rw [← e2, e1]
theorem g_dget {te ta : TE} {σ : L2.St} {H : Hp} {Q : VK} (h : ta σ H fun x H1 => te σ H1 fun y H2 => ∃ a v, x = .ref a ∧ DGet H2 a y (some v) ∧ Q v H2) : tDGet ta te σ H Q := h
theorem dget_row {H : Hp} {a b : Addr} {F : List (List Nat × Nat)} {r : List Nat} {v : V} (h : Rd H a (.dT (enc F))) (hb : H b = some (.tup (nv r))) (e : valV (enc F) (tk r) = some v) : DGet H a (.ref b) (some v) :=
  .inr ⟨enc F, tk r, b, h, rfl, by rw [tk_nv]; exact hb, e.symm⟩
theorem nsw_le {ts : List Nat} (ok : Ts ts) : nsw ts ≤ ts.length * ts.length := by
  unfold nsw
  refine sm_const_le fun e he => ?_
  have g := ok.getD he
  have t := ok.lt _ (List.mem_of_getElem? g)
  have : cr ts e ≤ tb ts e := Nat.sub_le _ _
  have : tb ts e = ts.getD e 0 := rfl
  omega
/-! ### the law's own counts -/
theorem dset_has (L : List Nat) (n : Nat) : (valV (dset L) (Sum.inl (n : Int))).isSome = decide (n ∈ L) := by
  have gen : ∀ (L : List Nat) (acc : List (Key × V)), (valV (L.foldl dput1 acc) (Sum.inl (n : Int))).isSome = (decide (n ∈ L) || (valV acc (Sum.inl (n : Int))).isSome) := by
    intro L
    induction L with
    | nil => intro acc; simp
    | cons x L ih =>
      intro acc
      show (valV (L.foldl dput1 (dput1 acc x)) _).isSome = _
      rw [ih]
      unfold dput1
      rw [valV_put]
      by_cases e : n = x
      · subst e
        rw [if_pos rfl]
        simp
      · rw [if_neg fun z => e (by have := Sum.inl.inj z; omega)]
        simp [e]
  have g := gen L []
  rw [show valV ([] : List (Key × V)) (Sum.inl (n : Int)) = none from rfl] at g
  rw [Option.isSome_none, Bool.or_false] at g
  exact g
theorem nsw_inv {ts : List Nat} (ok : Ts ts) : nsw ts = sm ts.length fun b => sm b fun o => cc (tb ts b < tb ts o) := by
  have c : ∀ e, e < ts.length → cr ts e = sm ts.length fun h => cc (e < h ∧ tb ts h < tb ts e) := fun e he => by
    have a : sm ts.length (fun h => cc (tb ts h < tb ts e)) = tb ts e := oth_all ok he
    have b : sm ts.length (fun h => cc (h < e ∧ tb ts h < tb ts e)) = oth ts e e := sm_upto (Nat.le_of_lt he) fun h => tb ts h < tb ts e
    have s : sm ts.length (fun h => cc (tb ts h < tb ts e)) = sm ts.length (fun h => cc (h < e ∧ tb ts h < tb ts e)) + sm ts.length (fun h => cc (e < h ∧ tb ts h < tb ts e)) := by
      rw [← sm_add]
      refine sm_congr fun h _ => ?_
      unfold cc
      by_cases c1 : tb ts h < tb ts e
      · have ne : h ≠ e := fun z => by rw [z] at c1; omega
        (repeat' split) <;> omega
      · (repeat' split) <;> omega
    have : cr ts e = tb ts e - oth ts e e := rfl
    omega
  unfold nsw
  rw [sm_congr c, sm_swap]
  refine sm_congr fun h hh => ?_
  exact sm_upto (Nat.le_of_lt hh) fun e => tb ts h < tb ts e
theorem cyc_uniq {ts : List Nat} (ok : Ts ts) {cs ds : List (List Nat)} (a : Good ts cs) (b : Good ts ds) : cs.length = ds.length :=
  (Nat.pow_right_inj (show 1 < 2 by decide)).mp ((cyc_many ok a).symm.trans (cyc_many ok b))
theorem cov_seen {ts : List Nat} {cs : List (List Nat)} {vs : List Bool} {i e : Nat} (h : Cov ts cs vs i) : vs[e]? = some true ↔ e ∈ cs.flatten := by
  rw [List.mem_flatten]
  exact ⟨h.sub e, fun ⟨c, h1, h2⟩ => h.sup c h1 e h2⟩
theorem cov_flat {ts : List Nat} {cs : List (List Nat)} {vs : List Bool} {i : Nat} (h : Cov ts cs vs i) : cs.flatten.length ≤ ts.length := by
  refine nodup_lt_length h.nd fun x hx => ?_
  have e := (cov_seen h).mpr hx
  rw [← h.len]
  exact (List.getElem?_eq_some_iff.mp e).1
end G

namespace L
open PySem PySem.Spec PyProof.Rows L2 G M
/-! ### the steps that need no word -/
local macro_rules | `(tactic| walk_at "go1") => `(tactic| first
  | (with_reducible first
    | refine g_seq ?_ | refine g_next ?_ | refine g_asg ?_ | refine g_drop ?_ | refine g_ret ?_ | refine g_if ?_ | refine g_par ?_ | refine g_par2 ?_ | refine g_name ?_ | refine g_gcons ?_ | refine g_gnil ?_ | refine g_gsub ?_
    | refine g_c ?_ | refine g_op ?_ | refine g_un ?_ | refine g_I0 ?_ | refine g_U ?_ | refine g_test ?_ | refine g_B ?_ | refine g_bl ?_ | refine g_yes ?_ | refine g_and ?_ | refine g_or ?_ | refine g_not ?_
    | refine g_andV ?_ | refine g_orV ?_ | refine g_notV ?_ | refine g_ifE ?_ | refine g_chain ?_ | refine g_nil ?_ | refine g_cons ?_ | refine g_cal ?_ | refine g_cb ?_ | refine g_sp1 ?_ | refine g_sp2 ?_ | refine g_sp3 ?_ | refine g_sp4 ?_ | refine g_sp5 ?_
    | refine g_tupT ?_ | refine g_lstT ?_ | refine g_sfld ?_ | refine g_dput ?_ | refine g_din ?_ | refine g_dnew ?_ | refine g_for ?_ | refine g_lc ?_ | refine g_ienum ?_ | refine g_irng1 ?_ | refine g_ilist ?_ | refine g_itup ?_
    | refine g_mkT ?_ | refine g_nn ?_ | refine g_intI ?_ | refine g_intB ?_ | refine g_two ?_ | refine g_one ?_ | refine g_lstRg ?_ | refine g_sl ?_ | refine g_nopart ?_ | refine g_part ?_ | refine g_revl ?_ | refine g_exI ?_)
  | (with_reducible first | refine g_terrV ?_ | refine g_terrS ?_ | refine g_terrT ?_ | refine g_terrR ?_ | refine g_terrF ?_ | refine g_callS ?_)
  | ((with_reducible refine' g_var ?e ?_); (case e => rfl))
  | ((with_reducible refine' g_eq ?e ?_); (case e => rfl))
  | ((with_reducible refine' g_ne ?e ?_); (case e => rfl))
  | ((with_reducible refine' g_short ?e ?_); (case e => rfl))
  | ((with_reducible refine' g_Ip ?c ?_); (case c => exact ⟨by decide, by decide +kernel⟩))
  | ((with_reducible refine' g_Im ?c ?_); (case c => first | decide | omega))
  | ((with_reducible refine' g_Id ?c ?_); (case c => exact ⟨by decide, by decide +kernel⟩))
  | (with_reducible refine g_Is ?_))
local macro_rules | `(tactic| walk_at "go") => `(tactic| repeat (walk_at "go1"))

/-! ### the text by places -/
def top (i : Nat) : Stmt := PySem.Challenge.pw_indexturns_k29_exchanges.main.body.getD i (.Pass ⟨0, 0, 0, 0⟩)
structure Txt (K : PySem.W.Frag) (mg : Str → Option Value) (CT : Addr) : Prop where
  n_bool : mg "bool" = none
  n_enumerate : mg "enumerate" = none
  n_int : mg "int" = none
  n_isinstance : mg "isinstance" = none
  n_len : mg "len" = none
  n_list : mg "list" = none
  n_max : mg "max" = none
  n_range : mg "range" = none
  n_repr : mg "repr" = none
  n_sum : mg "sum" = none
  n_tuple : mg "tuple" = none
  m_MOST_BITS : ∃ u, mg "MOST_BITS" = some u ∧ RelV (.int 100) u
  m_Turn : mg "Turn" = some (.ref CT)
abbrev sp_law_targets (K : PySem.W.Frag) : Sp := sp2 fun a b H Q => ∃ (r : Addr) (bits n : Nat), a = .ref r ∧ b = .int (bits : Int) ∧ Bag H r n ∧ n < 2 ^ 39 ∧ bits ≤ 100 ∧
  ∀ (l : Addr) (ts : List Nat) (H' : Hp), Stp r H H' → Bag H' r (n + 300) → H l = none → H' l = some (.lst (nv ts)) → ts.Perm (List.range bits) → Q (.ref l) H'

abbrev sp_law_flips (K : PySem.W.Frag) : Sp := sp2 fun a b H Q => ∃ (r : Addr) (bits n : Nat), a = .ref r ∧ b = .int (bits : Int) ∧ Bag H r n ∧ n < 2 ^ 39 ∧ 1 ≤ bits ∧ bits ≤ 100 ∧
  ∀ (fl : Nat) (H' : Hp), Stp r H H' → Bag H' r (n + 10) → fl < 2 ^ bits → Q (.int (fl : Int)) H'

abbrev sp_law_great (K : PySem.W.Frag) : Sp := sp1 fun a H Q => ∃ (r : Addr) (n : Nat), a = .ref r ∧ Bag H r n ∧ n < 2 ^ 38 ∧
  ∀ (p l : Addr) (ts : List Nat) (fl : Nat) (H' : Hp), Stp r H H' → Bag H' r (n + 400) → H p = none → H l = none → H' p = some (.tup [.ref l, .int (fl : Int)]) → H' l = some (.lst (nv ts)) → Ts ts → fl < 2 ^ ts.length → Q (.ref p) H'

abbrev sp_law_far (K : PySem.W.Frag) : Sp := sp2 fun a b H Q => ∃ (n : Nat) (p : Addr) (ps : List (Nat × Nat)) (F : List (List Nat × Nat)), a = .int (n : Int) ∧ b = .ref p ∧ Prs H p ps ∧ 1 ≤ n ∧ n ≤ 5 ∧ (∀ q ∈ ps, q.1 < n ∧ q.2 < n) ∧ bfsF ps 12 0 (bfsI n) = some F ∧ F.length ≤ 200 ∧
  ∀ (d : Addr) H', Ext H H' → H d = none → H' d = some (.dT (enc F)) → Q (.ref d) H'

theorem farCheck_all : ((List.range 5).all fun i => farCheck (i + 1)) = true := by decide +kernel
theorem far_known {n : Nat} (h1 : 1 ≤ n) (h5 : n ≤ 5) : ∃ A B, bfsF (nearP n) 12 0 (bfsI n) = some A ∧ bfsF (everyP n) 12 0 (bfsI n) = some B ∧ A.length = B.length ∧ A.length ≤ 200 ∧
    ∀ kv ∈ A, kv.1.Perm (List.range n) ∧ nsw kv.1 = kv.2 ∧ ∃ u : Nat, valV (enc B) (tk kv.1) = some (.int (u : Int)) ∧ u ≤ n ∧ 2 ^ (n - u) = stN kv.1 0 (2 ^ n) := by
  have h : farCheck n = true := by
    have := List.all_eq_true.mp farCheck_all (n - 1) (List.mem_range.mpr (by omega))
    rw [show n - 1 + 1 = n by omega] at this
    exact this
  unfold farCheck at h
  split at h
  · rename_i A B ea eb
    rw [Bool.and_eq_true, Bool.and_eq_true, beq_iff_eq, decide_eq_true_iff, List.all_eq_true] at h
    obtain ⟨⟨a, b⟩, c⟩ := h
    refine ⟨A, B, ea, eb, a, b, fun kv hk => ?_⟩
    have d := c kv hk
    rw [Bool.and_eq_true, Bool.and_eq_true, decide_eq_true_iff, decide_eq_true_iff] at d
    obtain ⟨⟨d1, d2⟩, d3⟩ := d
    refine ⟨d1, d2, ?_⟩
    rw [enc_val]
    split at d3
    · rename_i x ex
      rw [Bool.and_eq_true, decide_eq_true_iff, decide_eq_true_iff] at d3
      exact ⟨x.2, by rw [ex]; rfl, d3.1, d3.2⟩
    · cases d3
  · cases h
abbrev sp_law_small_right (K : PySem.W.Frag) : Sp := sp1 fun a H Q => ∃ (r : Addr) (n : Nat), a = .ref r ∧ Bag H r n ∧ n < 2 ^ 37 ∧ ∀ H', Stp r H H' → Bag H' r (n + 3000) → Q (.bl true) H'

abbrev sp_law_great_right (K : PySem.W.Frag) : Sp := sp1 fun a H Q => ∃ (r : Addr) (n : Nat), a = .ref r ∧ Bag H r n ∧ n < 2 ^ 37 ∧ ∀ H', Stp r H H' → Bag H' r (n + 1000) → Q (.bl true) H'

abbrev sp_law (K : PySem.W.Frag) : Sp := sp1 fun a H Q => ∃ (l : Addr) (ns : List Int), a = .ref l ∧ SqL K H l (ns.map V.int) ∧ ∀ H', Q (.bl true) H'
def backC : List (List Nat) := (List.range 50).map fun i => [i, 99 - i]
theorem back_at {i : Nat} (h : i < 100) : (List.range 100).reverse[i]? = some (99 - i) := back_get h
theorem good_back : Good (List.range 100).reverse backC := by
  refine ⟨fun c hc => ?_, fun e he => ?_, ?_⟩
  · obtain ⟨i, hi, rfl⟩ := List.mem_map.mp hc
    have il := List.mem_range.mp hi
    refine ⟨⟨by show 1 ≤ 2; decide, fun j b hb => ?_⟩, by rw [List.length_reverse, List.length_range]; show 2 ≤ 100; decide⟩
    match j, hb with
    | 0, hb =>
      cases hb
      rw [back_at (by omega)]
      rfl
    | 1, hb =>
      cases hb
      rw [back_at (by omega), show 99 - (99 - i) = i by omega]
      show _ = [i, 99 - i][2 % 2]?
      rw [show 2 % 2 = 0 by decide]
      rfl
    | j + 2, hb => cases hb
  · rw [List.length_reverse, List.length_range] at he
    by_cases c : e < 50
    · exact ⟨[e, 99 - e], List.mem_map.mpr ⟨e, List.mem_range.mpr c, rfl⟩, by simp⟩
    · exact ⟨[99 - e, 99 - (99 - e)], List.mem_map.mpr ⟨99 - e, List.mem_range.mpr (by omega), rfl⟩, by rw [show 99 - (99 - e) = e by omega]; simp⟩
  · decide +kernel
theorem nsw_back : nsw (List.range 100).reverse = 4950 := by decide +kernel

abbrev s_is_integer : Stmt := top 8
abbrev N_is_integer : List Str := ["value"]
theorem sc_is_integer : FnScope N_is_integer ["value"] (defScope s_is_integer) := ⟨rfl, rfl, rfl, by decide +kernel, rfl, by decide +kernel, by decide +kernel⟩
theorem ok_is_integer {P : Program} {w : World} {K : PySem.W.Frag} {mg : Str → Option Value} {base : Heap} {f CT : Addr} {fd : FuncData} (F : Fun K "is_integer" "is_integer" s_is_integer f fd) (T : Txt K mg CT) : FnOk P w K mg base CX0 1 f fd ["value"] (sp_is_integer K) := by
  refine F.ok sc_is_integer sp1_len (fun cd A outer s H vs Q E hr h => ?_)
  obtain ⟨v, rfl, b, ⟨t, b1, b2, ty, k1, k2, rfl⟩, q⟩ := h
  refine ⟨_, (pss_one (ps_ret (pe_and (pe_callB (call_isiK (K0 := K)) rfl T.n_isinstance bt_isinstance (pa_cons (pv 0) (pa_cons (pe_bltn (v := .ty "int") rfl T.n_int bt_int rfl) pa_nil))) (pe_one (pe_not (pe_callB (call_isiK (K0 := K)) rfl T.n_isinstance bt_isinstance (pa_cons (pv 0) (pa_cons (pe_bltn (v := .ty "bool") rfl T.n_bool bt_bool rfl) pa_nil)))))))), ?_⟩
  walk_at "go"
  refine ⟨v, .ty "int", t, .type "int", b1, rfl, .ty "int", ty, k1, ?_⟩
  walk_at "go"
  cases b1 with
  | false => exact q
  | true =>
    refine iteT ?_
    walk_at "go"
    refine ⟨v, .ty "bool", t, .type "bool", b2, rfl, .ty "bool", ty, k2, ?_⟩
    walk_at "go"
    exact q

abbrev s_is_between : Stmt := top 9
abbrev N_is_between : List Str := ["value", "least", "greatest"]
theorem sc_is_between : FnScope N_is_between ["value", "least", "greatest"] (defScope s_is_between) := ⟨rfl, rfl, rfl, by decide +kernel, rfl, by decide +kernel, by decide +kernel⟩
theorem ok_is_between {P : Program} {w : World} {K : PySem.W.Frag} {mg : Str → Option Value} {base : Heap} {f CT : Addr} {fd : FuncData} (F : Fun K "is_between" "is_between" s_is_between f fd) (T : Txt K mg CT) (c_is_integer : CalO P w K mg base "is_integer" 1 (sp_is_integer K)) : FnOk P w K mg base CX0 2 f fd ["value", "least", "greatest"] (sp_is_between K) := by
  refine F.ok sc_is_between sp3_len (fun cd A outer s H vs Q E hr h => ?_)
  obtain ⟨v, lo, hi, rfl, b, i, j, rfl, rfl, hb, q0, q1⟩ := h
  refine ⟨_, (pss_one (ps_ret (pe_and (pe_o c_is_integer hr (by decide) rfl (pa_cons (pv 0) pa_nil)) (pe_one (pe_chain op_le op_le (pv 1) (pv 0) (pv 2)))))), ?_⟩
  walk_at "go"
  refine ⟨b, hb, ?_⟩
  walk_at "go"
  cases b with
  | false => exact q0 rfl
  | true =>
    obtain ⟨n, rfl, q⟩ := q1 rfl
    refine iteT ?_
    walk_at "go"
    by_cases h1 : i ≤ n
    · rw [decide_eq_true h1]
      refine iteT ?_
      walk_at "go"
      rw [decide_eq_true h1] at q
      exact q
    · rw [decide_eq_false h1]
      refine iteF ?_
      rw [decide_eq_false h1] at q
      exact q

abbrev s_Turn_init : Stmt := inClass (top 11) 0
abbrev N_Turn_init : List Str := ["self", "targets", "flips"]
theorem sc_Turn_init : FnScope N_Turn_init ["self", "targets", "flips"] (defScope s_Turn_init) := ⟨rfl, rfl, rfl, by decide +kernel, rfl, by decide +kernel, by decide +kernel⟩
theorem ok_Turn_init {P : Program} {w : World} {K : PySem.W.Frag} {mg : Str → Option Value} {base : Heap} {f CT : Addr} {fd : FuncData} (F : Fun K "__init__" "Turn.__init__" s_Turn_init f fd) (T : Txt K mg CT) (ct : TurnText K mg CT) (c_is_between : CalO P w K mg base "is_between" 2 (sp_is_between K)) (c_check_targets : CalO P w K mg base "check_targets" 3 (sp_check_targets K)) : FnOk P w K mg base CX0 4 f fd ["self", "targets", "flips"] (sp_Turn_init K CT) := by
  refine F.ok sc_Turn_init sp3_len (fun cd A outer s H vs Q E hr h => ?_)
  obtain ⟨self, a, b, rfl, x, dx, l, ts, fl, rfl, rfl, rfl, hx, hl, ok, hf, q⟩ := h
  have hm := ok.most
  refine ⟨_, (pss_cons (ps_expr (pe_o c_check_targets hr (by decide) rfl (pa_cons (pv 1) pa_nil)))
    (pss_cons (ps_if (pt_not (pt_val (pe_o c_is_between hr (by decide) rfl (pa_cons (pv 2) (pa_cons pe_int (pa_cons (pe_op op_sub (pe_op op_shlW pe_int (pe_callB (call_lenK (K0 := K)) rfl T.n_len bt_len (pa_cons (pv 1) pa_nil))) pe_int) pa_nil)))))) (pss_one ps_never) pss_nil)
    (pss_cons (ps_fld (pv 0) (pe_callTy (call_listK (K0 := K)) rfl T.n_list bt_list (pa_cons (pv 1) pa_nil)) rfl)
    (pss_one (ps_fld (pv 0) (pv 2) rfl))))), ?_⟩
  walk_at "go"
  refine ⟨l, ts, rfl, hl, ok, fun H1 e1 => ?_⟩
  walk_at "go"
  refine ⟨l, nv ts, rfl, .inl (SqL.of (e1 _ _ hl)), ?_⟩
  walk_at "go"
  refine g_I (cshl_one (by rw [nv_len]; omega)) ?_
  walk_at "go"
  refine ⟨true, 0, _, rfl, rfl, IsI.int _, (fun z => by cases z), fun _ => ⟨_, rfl, ?_⟩⟩
  walk_at "go"
  rw [in_places (by rw [nv_len]; exact hf)]
  refine iteF ?_
  walk_at "go"
  refine ⟨l, nv ts, rfl, .inl (SqL.of (e1 _ _ hl)), fun l' hl' => ?_⟩
  have hxl : x ≠ l' := ne_of_none (e1 _ _ hx) hl'
  walk_at "go"
  refine ⟨x, CT, dx, [], rfl, by rw [upd_ne hxl]; exact e1 _ _ hx, ct.cl, ct.nT, (by show 0 < 1000; decide), ?_⟩
  walk_at "go"
  refine ⟨x, CT, dx, _, rfl, upd_same, ct.cl, ct.nF, (by show 1 < 1000; decide), ?_⟩
  refine q _ l' (fun b o hb e => ?_) (e1.free hl') ⟨⟨dx, upd_same⟩, ?_, ok, hf⟩
  · rw [upd_ne hb, upd_ne hb, upd_ne (ne_of_none (e1 _ _ e) hl')]
    exact e1 _ _ e
  · rw [upd_ne (Ne.symm hxl), upd_ne (Ne.symm hxl), upd_same]

abbrev s_Turn_bits : Stmt := inClass (top 11) 1
abbrev N_Turn_bits : List Str := ["self"]
theorem sc_Turn_bits : FnScope N_Turn_bits ["self"] (defScope s_Turn_bits) := ⟨rfl, rfl, rfl, by decide +kernel, rfl, by decide +kernel, by decide +kernel⟩
theorem ok_Turn_bits {P : Program} {w : World} {K : PySem.W.Frag} {mg : Str → Option Value} {base : Heap} {f CT : Addr} {fd : FuncData} (F : Fun K "bits" "Turn.bits" s_Turn_bits f fd) (T : Txt K mg CT) (ct : TurnText K mg CT) : FnOk P w K mg base CX0 1 f fd ["self"] (sp_Turn_bits K CT) := by
  refine F.ok sc_Turn_bits sp1_len (fun cd A outer s H vs Q E hr h => ?_)
  obtain ⟨a, rfl, x, l, ts, fl, rfl, at_, q⟩ := h
  obtain ⟨dx, hx⟩ := at_.ob
  refine ⟨_, (pss_one (ps_ret (pe_callB (call_lenK (K0 := K)) rfl T.n_len bt_len (pa_cons (pe_fldK (K0 := K) (pv 0) rfl) pa_nil)))), ?_⟩
  walk_at "go"
  refine g_fld hx ct.cl ct.nT (flds_targets _ _) ?_
  walk_at "go"
  refine ⟨l, nv ts, rfl, .inl (SqL.of at_.ls), ?_⟩
  rw [nv_len]
  exact q

abbrev s_Turn_targets : Stmt := inClass (top 11) 2
abbrev N_Turn_targets : List Str := ["self"]
theorem sc_Turn_targets : FnScope N_Turn_targets ["self"] (defScope s_Turn_targets) := ⟨rfl, rfl, rfl, by decide +kernel, rfl, by decide +kernel, by decide +kernel⟩
theorem ok_Turn_targets {P : Program} {w : World} {K : PySem.W.Frag} {mg : Str → Option Value} {base : Heap} {f CT : Addr} {fd : FuncData} (F : Fun K "targets" "Turn.targets" s_Turn_targets f fd) (T : Txt K mg CT) (ct : TurnText K mg CT) : FnOk P w K mg base CX0 1 f fd ["self"] (sp_Turn_targets K CT) := by
  refine F.ok sc_Turn_targets sp1_len (fun cd A outer s H vs Q E hr h => ?_)
  obtain ⟨a, rfl, x, l, ts, fl, rfl, at_, q⟩ := h
  obtain ⟨dx, hx⟩ := at_.ob
  refine ⟨_, (pss_one (ps_ret (pe_callTy (call_listK (K0 := K)) rfl T.n_list bt_list (pa_cons (pe_fldK (K0 := K) (pv 0) rfl) pa_nil)))), ?_⟩
  walk_at "go"
  refine g_fld hx ct.cl ct.nT (flds_targets _ _) ?_
  walk_at "go"
  exact ⟨l, nv ts, rfl, .inl (SqL.of at_.ls), fun p hp => q p hp⟩

abbrev s_Turn_flips : Stmt := inClass (top 11) 3
abbrev N_Turn_flips : List Str := ["self"]
theorem sc_Turn_flips : FnScope N_Turn_flips ["self"] (defScope s_Turn_flips) := ⟨rfl, rfl, rfl, by decide +kernel, rfl, by decide +kernel, by decide +kernel⟩
theorem ok_Turn_flips {P : Program} {w : World} {K : PySem.W.Frag} {mg : Str → Option Value} {base : Heap} {f CT : Addr} {fd : FuncData} (F : Fun K "flips" "Turn.flips" s_Turn_flips f fd) (T : Txt K mg CT) (ct : TurnText K mg CT) : FnOk P w K mg base CX0 1 f fd ["self"] (sp_Turn_flips K CT) := by
  refine F.ok sc_Turn_flips sp1_len (fun cd A outer s H vs Q E hr h => ?_)
  obtain ⟨a, rfl, x, l, ts, fl, rfl, at_, q⟩ := h
  obtain ⟨dx, hx⟩ := at_.ob
  refine ⟨_, (pss_one (ps_ret (pe_fldK (K0 := K) (pv 0) rfl))), ?_⟩
  walk_at "go"
  exact g_fld hx ct.cl ct.nF (flds_flips _ _) q

abbrev s_Turn_eq : Stmt := inClass (top 11) 5
abbrev N_Turn_eq : List Str := ["self", "other"]
theorem sc_Turn_eq : FnScope N_Turn_eq ["self", "other"] (defScope s_Turn_eq) := ⟨rfl, rfl, rfl, by decide +kernel, rfl, by decide +kernel, by decide +kernel⟩
theorem ok_Turn_eq {P : Program} {w : World} {K : PySem.W.Frag} {mg : Str → Option Value} {base : Heap} {f CT : Addr} {fd : FuncData} (F : Fun K "__eq__" "Turn.__eq__" s_Turn_eq f fd) (T : Txt K mg CT) (ct : TurnText K mg CT) : FnOk P w K mg base CX0 1 f fd ["self", "other"] (sp_Turn_eq K CT) := by
  refine F.ok sc_Turn_eq sp2_len (fun cd A outer s H vs Q E hr h => ?_)
  obtain ⟨a, b, rfl, x, l, ts, fl, r, rfl, at_, eq, q⟩ := h
  obtain ⟨dx, hx⟩ := at_.ob
  refine ⟨_, (pss_one (ps_ret (pe_and (pe_callB (call_isiK (K0 := K)) rfl T.n_isinstance bt_isinstance (pa_cons (pv 1) (pa_cons (pe_glob (v := .ref CT) rfl T.m_Turn rfl) pa_nil))) (pe_and (pe_cmpR (op_eqDK (K0 := K) hr) (pe_fldK (K0 := K) (pv 0) rfl) (pe_fldK (K0 := K) (pv 1) rfl) (nomark _)) (pe_one (pe_cmpR op_eq (pe_fldK (K0 := K) (pv 0) rfl) (pe_fldK (K0 := K) (pv 1) rfl) (nomark _))))))), ?_⟩
  walk_at "go"
  rcases eq with ⟨y, l', ts', fl', rfl, bt, er⟩ | ⟨⟨t, ty, mem⟩, er⟩
  · obtain ⟨dy, hy⟩ := bt.ob
    refine ⟨_, .ref CT, .ref CT, .ref CT, true, rfl, .own CT, ct.ty bt, ct.isT, ?_⟩
    walk_at "go"
    refine iteT ?_
    walk_at "go"
    refine g_fld hx ct.cl ct.nT (flds_targets _ _) ?_
    walk_at "go"
    refine g_fld hy ct.cl ct.nT (flds_targets _ _) ?_
    refine ⟨_, _, dp_nv at_.ls, dp_nv bt.ls, nd_shaped _, nd_shaped _, ?_⟩
    walk_at "go"
    rw [nd_eq]
    by_cases e : ts = ts'
    · rw [decide_eq_true e]
      refine iteT ?_
      walk_at "go"
      refine g_fld hx ct.cl ct.nF (flds_flips _ _) ?_
      walk_at "go"
      refine g_fld hy ct.cl ct.nF (flds_flips _ _) ?_
      walk_at "go"
      have e2 : decide (V.int (fl : Int) = V.int (fl' : Int)) = r := by
        rw [er]
        simp [e]
        constructor
        · intro z
          cases z
          omega
        · rintro rfl
          rfl
      rw [e2]
      exact q
    · rw [decide_eq_false e]
      refine iteF ?_
      have e2 : r = false := by
        rw [er]
        simp [e]
      rw [e2] at q
      exact q
  · refine ⟨_, .ref CT, _, .ref CT, false, rfl, .own CT, ty, ct.notT mem, ?_⟩
    walk_at "go"
    refine iteF ?_
    rw [er] at q
    exact q

abbrev s_check_targets : Stmt := top 12
abbrev N_check_targets : List Str := ["targets", "ahead", "item", "target"]
theorem sc_check_targets : FnScope N_check_targets ["targets"] (defScope s_check_targets) := ⟨rfl, rfl, rfl, by decide +kernel, rfl, by decide +kernel, by decide +kernel⟩
theorem ok_check_targets {P : Program} {w : World} {K : PySem.W.Frag} {mg : Str → Option Value} {base : Heap} {f CT : Addr} {fd : FuncData} (F : Fun K "check_targets" "check_targets" s_check_targets f fd) (T : Txt K mg CT) (c_is_between : CalO P w K mg base "is_between" 2 (sp_is_between K)) : FnOk P w K mg base CX0 3 f fd ["targets"] (sp_check_targets K) := by
  refine F.ok sc_check_targets sp1_len (fun cd A outer s H vs Q E hr h => ?_)
  obtain ⟨a, rfl, l, ts, rfl, hl, ok, q⟩ := h
  have h1 := ok.one
  have h2 := ok.most
  refine ⟨_, (pss_cons (ps_if (PW.pt (pw_or (pt_not (pt_val (pe_callB (call_isiK (K0 := K)) rfl T.n_isinstance bt_isinstance (pa_cons (pv 0) (pa_cons (pe_bltn (v := .ty "list") rfl T.n_list bt_list rfl) pa_nil))))) (pw_or1 (pt_not (pt_chain op_le op_le pe_int (pe_callB (call_lenK (K0 := K)) rfl T.n_len bt_len (pa_cons (pv 0) pa_nil)) (pe_gc rfl T.m_MOST_BITS)))))) (pss_one ps_never) pss_nil)
    (pss_cons (ps_set (i := 1) sc_check_targets.nd rfl (.inl rfl) pe_dnewK)
    (pss_one (ps_for PassesOwn.never rfl (pi_enum rfl T.n_enumerate (pa_cons (pv 0) pa_nil)) (pg_tup rfl (pgs_cons (pg_name (i := 2) sc_check_targets.nd rfl (.inl rfl)) (pgs_cons (pg_name (i := 3) sc_check_targets.nd rfl (.inl rfl)) pgs_nil)))
    (pss_cons (ps_if (PW.pt (pw_or (pt_not (pt_val (pe_o c_is_between hr (by decide) rfl (pa_cons (pv 3) (pa_cons pe_int (pa_cons (pe_op op_sub (pe_callB (call_lenK (K0 := K)) rfl T.n_len bt_len (pa_cons (pv 0) pa_nil)) pe_int) pa_nil)))))) (pw_or1 (pt_cmp (pc_din (hu_of hr) (pv 3) (pv 1)))))) (pss_one ps_never) pss_nil)
    (pss_one (ps_dput (hu_of hr) (pv 1) (pv 3) pe_bl rfl))))))), ?_⟩
  walk_at "go"
  refine ⟨_, .ty "list", .type "list", .type "list", true, rfl, .ty "list", .base (.lst hl), kit_ty (by decide +kernel), ?_⟩
  walk_at "go"
  refine iteF ?_
  walk_at "go"
  refine ⟨l, nv ts, rfl, .inl (SqL.of hl), ?_⟩
  walk_at "go"
  rw [decide_eq_true (show (1 : Int) ≤ ((nv ts).length : Nat) by rw [nv_len]; omega)]
  refine iteT ?_
  walk_at "go"
  rw [decide_eq_true (show (((nv ts).length : Nat) : Int) ≤ 100 by rw [nv_len]; omega)]
  refine iteF ?_
  walk_at "go"
  intro d hd
  walk_at "go"
  have e0 : Ext H (upd H d (.dK [])) := Ext.new hd
  refine u_enum (SqL.of (e0 _ _ hl)) (fun i σ' H' => ∃ (u v : Option V) (kvs : List (Key × V)), σ' = [some (.ref l), some (.ref d), u, v] ∧ Ext H H' ∧ H' d = some (.dK kvs) ∧ kvs.length = i ∧ ∀ k, k ∈ kvs.map (·.1) → ∃ e t, e < i ∧ ts[e]? = some t ∧ k = Sum.inl (t : Int)) ?_ ?_ ?_ ?_
  · exact ⟨none, none, [], rfl, e0, upd_same, rfl, fun k hk => by cases hk⟩
  · rintro i σ' H' _ ⟨u, v, kvs, rfl, e, _⟩
    exact SqL.of (e _ _ hl)
  · rintro i x σ' H1 H2 hi ⟨u, v, kvs, rfl, e1, hd1, hlen, hk⟩ e2
    obtain ⟨t, ht, rfl⟩ := nv_get hi
    have htl := ok.lt t (List.mem_of_getElem? ht)
    have hit := (List.getElem?_eq_some_iff.mp ht).1
    walk_at "go"
    refine ⟨l, nv ts, rfl, .inl (SqL.of (e2 _ _ (e1 _ _ hl))), ?_⟩
    walk_at "go"
    refine ⟨true, 0, _, rfl, rfl, IsI.int _, (fun z => by cases z), fun _ => ⟨_, rfl, ?_⟩⟩
    walk_at "go"
    rw [decide_eq_true (show (0 : Int) ≤ (t : Int) by omega), decide_eq_true (show (t : Int) ≤ ((nv ts).length : Nat) - 1 by rw [nv_len]; omega)]
    refine iteF ?_
    have hn : valV kvs (Sum.inl (t : Int)) = none := by
      cases z : valV kvs (Sum.inl (t : Int)) with
      | none => rfl
      | some w =>
        obtain ⟨e, t', he, ht', hk'⟩ := hk _ (valV_in z)
        have tt : t' = t := by
          have := Sum.inl.inj hk'
          omega
        subst tt
        have a := ok.idx_get ht
        have b := ok.idx_get ht'
        omega
    walk_at "go"
    refine ⟨d, none, rfl, by rw [← hn]; exact DGet.k (k := Sum.inl (t : Int)) (e2 _ _ hd1), ?_⟩
    walk_at "go"
    refine iteF ?_
    walk_at "go"
    refine ⟨d, _, rfl, DPut.k (k := Sum.inl (t : Int)) (e2 _ _ hd1) (small1000 (by omega)), ?_⟩
    refine ⟨_, _, _, rfl, (e1.trans e2).mut hd, upd_same, ?_, ?_⟩
    · rw [putK_new _ hn, List.length_append, hlen]
      rfl
    · intro k hk'
      rw [putK_new _ hn, List.map_append] at hk'
      rcases List.mem_append.mp hk' with z | z
      · obtain ⟨e, t', he, h3, h4⟩ := hk k z
        exact ⟨e, t', by omega, h3, h4⟩
      · refine ⟨i, t, by omega, ht, ?_⟩
        simpa using z
  · rintro σ' H1 ⟨u, v, kvs, rfl, e1, _⟩
    exact q H1 e1

abbrev s_check_turn : Stmt := top 13
abbrev N_check_turn : List Str := ["turn"]
theorem sc_check_turn : FnScope N_check_turn ["turn"] (defScope s_check_turn) := ⟨rfl, rfl, rfl, by decide +kernel, rfl, by decide +kernel, by decide +kernel⟩
theorem ok_check_turn {P : Program} {w : World} {K : PySem.W.Frag} {mg : Str → Option Value} {base : Heap} {f CT : Addr} {fd : FuncData} (F : Fun K "check_turn" "check_turn" s_check_turn f fd) (T : Txt K mg CT) (ct : TurnText K mg CT) : FnOk P w K mg base CX0 1 f fd ["turn"] (sp_check_turn K CT) := by
  refine F.ok sc_check_turn sp1_len (fun cd A outer s H vs Q E hr h => ?_)
  obtain ⟨a, rfl, ts, fl, ⟨x, l, rfl, at_⟩, q⟩ := h
  refine ⟨_, (pss_one (ps_if (pt_not (pt_val (pe_callB (call_isiK (K0 := K)) rfl T.n_isinstance bt_isinstance (pa_cons (pv 0) (pa_cons (pe_glob (v := .ref CT) rfl T.m_Turn rfl) pa_nil))))) (pss_one ps_never) pss_nil)), ?_⟩
  walk_at "go"
  refine isi_turn ct at_ ?_
  walk_at "go"
  refine iteF ?_
  exact q

abbrev s_split_into_cycles : Stmt := top 14
abbrev N_split_into_cycles : List Str := ["targets", "cycles", "visited", "start", "cycle", "bit"]
theorem sc_split_into_cycles : FnScope N_split_into_cycles ["targets"] (defScope s_split_into_cycles) := ⟨rfl, rfl, rfl, by decide +kernel, rfl, by decide +kernel, by decide +kernel⟩
theorem ok_split_into_cycles {P : Program} {w : World} {K : PySem.W.Frag} {mg : Str → Option Value} {base : Heap} {f CT : Addr} {fd : FuncData} (F : Fun K "split_into_cycles" "split_into_cycles" s_split_into_cycles f fd) (T : Txt K mg CT) : FnOk P w K mg base CX0 1 f fd ["targets"] (sp_split_into_cycles K) := by
  refine F.ok sc_split_into_cycles sp1_len (fun cd A outer s H vs Q E hr h => ?_)
  obtain ⟨a, rfl, l, ts, rfl, hl, ok, q⟩ := h
  have hs : sizeLine = 16777216 := by decide
  have hm := ok.most
  refine ⟨_, (pss_cons (ps_set (i := 1) sc_split_into_cycles.nd rfl (.inl rfl) (pe_lst pa_nil))
    (pss_cons (ps_set (i := 2) sc_split_into_cycles.nd rfl (.inl rfl) (pe_op op_rep (pe_lst (pa_cons pe_bl pa_nil)) (pe_callB (call_lenK (K0 := K)) rfl T.n_len bt_len (pa_cons (pv 0) pa_nil))))
    (pss_cons (ps_for PassesOwn.never rfl (pi_range1 rfl T.n_range (pa_cons (pe_callB (call_lenK (K0 := K)) rfl T.n_len bt_len (pa_cons (pv 0) pa_nil)) pa_nil)) (pg_name (i := 3) sc_split_into_cycles.nd rfl (.inl rfl))
    (pss_cons (ps_set (i := 4) sc_split_into_cycles.nd rfl (.inl rfl) (pe_lst pa_nil))
    (pss_cons (ps_set (i := 5) sc_split_into_cycles.nd rfl (.inl rfl) (pv 3))
    (pss_cons (ps_while PassesOwn.never (pt_not (pt_val (pe_ix (ix_listK (K0 := K)) (pv 2) (pv 5) (fun _ _ => rfl)))) (pss_cons (ps_asg pe_bl (pg_sub (pv 2) (pv 5) set_list))
    (pss_cons (ps_expr (pe_bm PySem.F.plainAttrs_list PySem.F.slot_list_append PySem.F.type_list_append mt_append (pv 4) (pa_cons (pv 5) pa_nil)))
    (pss_one (ps_set (i := 5) sc_split_into_cycles.nd rfl (.inl rfl) (pe_ix (ix_listK (K0 := K)) (pv 0) (pv 5) (fun _ _ => rfl)))))))
    (pss_one (ps_if (pt_truth (pv 4) (by intro _; rfl)) (pss_one (ps_expr (pe_bm PySem.F.plainAttrs_list PySem.F.slot_list_append PySem.F.type_list_append mt_append (pv 1) (pa_cons (pv 4) pa_nil)))) pss_nil))))))
    (pss_one (ps_ret (pv 1)))))), ?_⟩
  walk_at "go"
  intro pc hpc
  walk_at "go"
  intro p1 hp1
  have nl1 : l ≠ pc := ne_of_none hl hpc
  have n1 : pc ≠ p1 := fun z => by rw [← z, upd_same] at hp1; cases hp1
  have nlp1 : l ≠ p1 := fun z => by rw [← z, upd_ne nl1, hl] at hp1; cases hp1
  walk_at "go"
  refine g_lenK (SqL.of (by rw [upd_ne nlp1, upd_ne nl1]; exact hl)) ?_
  walk_at "go"
  refine ⟨p1, _, [.bl false], rfl, rfl, upd_same, by rw [nv_len]; omega, by rw [nv_len]; omega, by rw [nv_len, Int.toNat_natCast, List.length_singleton, hs]; omega, fun pv hpv => ?_⟩
  rw [nv_len, Int.toNat_natCast, bv_rep]
  have E0 : Ext H (upd (upd H pc (.lst [])) p1 (.lst [.bl false])) := (Ext.new hpc).new' hp1
  have c0 : upd (upd H pc (.lst [])) p1 (.lst [.bl false]) pc = some (.lst []) := by rw [upd_ne n1, upd_same]
  have npv : pc ≠ pv := ne_of_none c0 hpv
  have hv0 : H pv = none := E0.free hpv
  have nlv : l ≠ pv := ne_of_none hl hv0
  have c1 : upd (upd (upd H pc (.lst [])) p1 (.lst [.bl false])) pv (.lst (bv (List.replicate ts.length false))) pc = some (.lst []) := by rw [upd_ne npv, c0]
  walk_at "go"
  refine g_lenK (SqL.of ((E0.new' hpv).keep hl)) ?_
  rw [nv_len]
  walk_at "go"
  refine u_range (n := ts.length) (by omega) (fun i σ' H' => ∃ (v3 v4 v5 : Option V) (cs : List (List Nat)) (vs : List Bool), σ' = [some (.ref l), some (.ref pc), some (.ref pv), v3, v4, v5] ∧ Ext H H' ∧ H' pv = some (.lst (bv vs)) ∧ Refs H oC H' pc cs ∧ Cov ts cs vs i) ?_ ?_ ?_
  · exact ⟨none, none, none, [], _, rfl, E0.new' hpv, upd_same, .nil c1, Cov.start ts⟩
  · rintro i σ' Hb hi ⟨v3, v4, v5, cs, vs0, rfl, e, ov, r, cov⟩
    walk_at "go"
    intro py hpy
    walk_at "go"
    have nvy : pv ≠ py := ne_of_none ov hpy
    have hl' := e.keep hl
    refine g_while (fun m σ2 H2 => ∃ (c : List Nat) (vs : List Bool) (b : Nat), m = ts.length - c.length ∧ σ2 = [some (.ref l), some (.ref pc), some (.ref pv), some (.int (i : Int)), some (.ref py), some (.int (b : Int))] ∧ Stp pv Hb H2 ∧ H2 pv = some (.lst (bv vs)) ∧ H2 py = some (.lst (nv c)) ∧ Mid ts cs vs0 i c vs b) _ ⟨[], vs0, i, rfl, rfl, (Ext.new hpy).stp, by rw [upd_ne nvy]; exact ov, upd_same, .start cov hi⟩ ?_
    rintro m σ2 H2 ⟨c, vs, b, rfl, rfl, s2, ov2, oy2, mid⟩
    obtain ⟨k, hk⟩ := mid.at
    walk_at "go"
    refine g_ixL (SqL.of ov2) (bv_at hk) ?_
    walk_at "go"
    cases k with
    | false =>
      refine iteT ?_
      refine ⟨fun σ3 H3 => σ3 = [some (.ref l), some (.ref pc), some (.ref pv), some (.int (i : Int)), some (.ref py), some (.int ((ts.getD b 0 : Nat) : Int))] ∧ Stp pv Hb H3 ∧ H3 pv = some (.lst (bv (vs.set b true))) ∧ H3 py = some (.lst (nv (c ++ [b]))), ?_, ?_⟩
      · rintro σ3 H3 ⟨rfl, s3, ov3, oy3⟩
        have nm := mid.next ok hk
        have fw := nm.few
        rw [List.length_append, List.length_singleton] at fw
        exact ⟨_, by rw [List.length_append, List.length_singleton]; omega, c ++ [b], _, _, rfl, rfl, s3, ov3, oy3, nm⟩
      · walk_at "go"
        have few := mid.few
        refine g_setL ov2 (ixN_nat (by rw [bv_len, mid.len]; exact mid.pth.end_)) ?_
        rw [bv_set]
        walk_at "go"
        have oy3 : upd H2 pv (.lst (bv (vs.set b true))) py = some (.lst (nv c)) := by rw [upd_ne (Ne.symm nvy)]; exact oy2
        refine ⟨_, rfl, .inl ⟨rfl, _, SqL.of oy3⟩, ?_⟩
        walk_at "go"
        refine ⟨py, _, _, rfl, rfl, oy3, by rw [nv_len]; omega, ?_⟩
        walk_at "go"
        have hl3 : upd (upd H2 pv (.lst (bv (vs.set b true)))) py (.lst (nv c ++ [.int (b : Int)])) l = some (.lst (nv ts)) := by
          rw [upd_ne (ne_of_none hl' hpy), upd_ne nlv]
          exact s2 _ _ hl' nlv
        refine g_ixL (SqL.of hl3) (atI_nv (ok.getD mid.pth.end_)) ?_
        walk_at "go"
        refine ⟨rfl, fun d o hd nd => ?_, by rw [upd_ne nvy, upd_same], by rw [upd_same, nv_append]; rfl⟩
        rw [upd_ne (ne_of_none hd hpy), upd_ne nd]
        exact s2 _ _ hd nd
    | true =>
      refine iteF ?_
      walk_at "go"
      have E2 : Ext H H2 := Stp.out e s2 hv0
      have r2 := r.stp s2 npv ov fun x hx => oC_ne (cov.cyc x hx).one
      rcases mid.done ok hk with ⟨rfl, cov2⟩ | ⟨ne, cov2⟩
      · refine ⟨false, .inl ⟨[], SqL.of oy2, rfl⟩, ?_⟩
        refine iteF ?_
        exact ⟨_, _, _, cs, vs, rfl, E2, ov2, r2, cov2⟩
      · refine ⟨true, .inl ⟨nv c, SqL.of oy2, ?_⟩, ?_⟩
        · cases c with
          | nil => exact absurd rfl ne
          | cons a c => rfl
        refine iteT ?_
        walk_at "go"
        obtain ⟨xs', hx, lx⟩ := r2.len
        have few := cov.few
        refine ⟨_, rfl, .inl ⟨rfl, _, SqL.of hx⟩, ?_⟩
        walk_at "go"
        refine ⟨pc, xs', .ref py, rfl, rfl, hx, by omega, ?_⟩
        have nyc : py ≠ pc := fun z => by
          obtain ⟨xs0, hx0, _⟩ := r.len
          rw [z, hx0] at hpy
          cases hpy
        refine ⟨_, _, _, cs ++ [c], vs, rfl, E2.mut hpc, by rw [upd_ne (Ne.symm npv)]; exact ov2, r2.push hx nyc oy2 (e.free hpy), cov2⟩
  · rintro σ' H' ⟨v3, v4, v5, cs, vs, rfl, e, ov, r, cov⟩
    walk_at "go"
    exact q pc cs H' e hpc r (fun c hc => ⟨cov.cyc c hc, cov.short c hc⟩) (fun b hb => cov.sub b (cov.upto b hb)) cov.few cov.perm

abbrev s_crossings : Stmt := top 15
abbrev N_crossings : List Str := ["targets", "found", "targets_left", "target", "crossing"]
theorem sc_crossings : FnScope N_crossings ["targets"] (defScope s_crossings) := ⟨rfl, rfl, rfl, by decide +kernel, rfl, by decide +kernel, by decide +kernel⟩
theorem ok_crossings {P : Program} {w : World} {K : PySem.W.Frag} {mg : Str → Option Value} {base : Heap} {f CT : Addr} {fd : FuncData} (F : Fun K "crossings" "crossings" s_crossings f fd) (T : Txt K mg CT) : FnOk P w K mg base CX0 1 f fd ["targets"] (sp_crossings K) := by
  refine F.ok sc_crossings sp1_len (fun cd A outer s H vs Q E hr h => ?_)
  obtain ⟨a, rfl, l, ts, rfl, hl, ok, q⟩ := h
  have hs : sizeLine = 16777216 := by decide
  have hm := ok.most
  refine ⟨_, (pss_cons (ps_set (i := 1) sc_crossings.nd rfl (.inl rfl) (pe_lst pa_nil))
    (pss_cons (ps_set (i := 2) sc_crossings.nd rfl (.inl rfl) (pe_listRg rfl rfl T.n_list (prg_1 rfl T.n_range (pe_callB (call_lenK (K0 := K)) rfl T.n_len bt_len (pa_cons (pv 0) pa_nil)))))
    (pss_cons (ps_for PassesOwn.never rfl (pi_list (pv 0)) (pg_name (i := 3) sc_crossings.nd rfl (.inl rfl))
    (pss_cons (ps_set (i := 4) sc_crossings.nd rfl (.inl rfl) (pe_bm PySem.F.plainAttrs_list PySem.F.slot_list_index PySem.F.type_list_index (mt_indexK (K0 := K)) (pv 2) (pa_cons (pv 3) pa_nil)))
    (pss_cons (ps_expr (pe_bm PySem.F.plainAttrs_list PySem.F.slot_list_pop PySem.F.type_list_pop mt_popAt (pv 2) (pa_cons (pv 4) pa_nil)))
    (pss_one (ps_expr (pe_bm PySem.F.plainAttrs_list PySem.F.slot_list_append PySem.F.type_list_append mt_append (pv 1) (pa_cons (pv 4) pa_nil)))))))
    (pss_one (ps_ret (pv 1)))))), ?_⟩
  walk_at "go"
  intro p hp
  walk_at "go"
  have npl : l ≠ p := ne_of_none hl hp
  refine g_lenK (SqL.of ((Ext.new hp) _ _ hl)) ?_
  rw [nv_len]
  walk_at "go"
  refine ⟨rg_ok (by omega), fun g hg => ?_⟩
  rw [rgV_nv]
  walk_at "go"
  have ngp : g ≠ p := fun z => by rw [z, upd_same] at hg; cases hg
  have hg0 : H g = none := (Ext.new hp).free hg
  refine u_list (SqL.of (((Ext.new hp).new' hg) _ _ hl)) (fun i σ' H' => ∃ v3 v4 : Option V, σ' = [some (.ref l), some (.ref p), some (.ref g), v3, v4] ∧ Ext H H' ∧ H' p = some (.lst (nv ((List.range i).map (cr ts)))) ∧ H' g = some (.lst (nv (lft ts i)))) ?_ ?_ ?_ ?_
  · exact ⟨none, none, rfl, (Ext.new hp).new' hg, by rw [upd_ne (Ne.symm ngp), upd_same]; rfl, by rw [upd_same, lft_zero]⟩
  · rintro i σ' H' _ ⟨v3, v4, rfl, e, _, _⟩
    exact SqL.of (e _ _ hl)
  · rintro i v σ' H' hi ⟨v3, v4, rfl, e, op, og⟩
    obtain ⟨t, ht, rfl⟩ := nv_get hi
    have il := (List.getElem?_eq_some_iff.mp ht).1
    have et : tb ts i = t := by unfold tb; rw [List.getD_eq_getElem?_getD, ht]; rfl
    obtain ⟨x, y, h1, h2, h3, h4⟩ := lft_step ok il
    rw [et] at h1 h4
    have ll := lft_len ts i
    have gx : (lft ts i)[cr ts i]? = some t := by rw [h1, ← h2, List.getElem?_append_right (Nat.le_refl _), Nat.sub_self]; rfl
    walk_at "go"
    refine ⟨_, rfl, .inl ⟨rfl, _, SqL.of og⟩, ?_⟩
    walk_at "go"
    refine ⟨_, _, _, cr ts i, .int (t : Int), rfl, rfl, SqL.of og, rfl, nv_flat _, nv_at gx, by simp [eqV], ?_, ?_⟩
    · intro m z hlt hz
      obtain ⟨n, hn, rfl⟩ := nv_get hz
      rw [h1, List.getElem?_append_left (by omega)] at hn
      have := h4 n (List.mem_of_getElem? hn)
      simp [eqV]
      omega
    walk_at "go"
    refine ⟨_, rfl, .inl ⟨rfl, _, SqL.of og⟩, ?_⟩
    walk_at "go"
    have kl : cr ts i < (lft ts i).length := (List.getElem?_eq_some_iff.mp gx).1
    refine ⟨g, _, _, cr ts i, _, rfl, rfl, og, by omega, by omega, by rw [nv_len]; exact seq_nat kl, nv_at gx, ?_⟩
    rw [nv_erase]
    have er : (lft ts i).eraseIdx (cr ts i) = lft ts (i + 1) := by
      rw [h1, h3, ← h2, List.eraseIdx_append_of_length_le (Nat.le_refl _), Nat.sub_self]
      rfl
    rw [er]
    walk_at "go"
    refine g_appV (xs := nv ((List.range i).map (cr ts))) (by rw [upd_ne (Ne.symm ngp)]; exact op) (by rw [nv_len, List.length_map, List.length_range]; omega) ?_
    rw [nv_succ]
    refine ⟨_, _, rfl, (e.mut hg0).mut hp, upd_same, by rw [upd_ne ngp, upd_same]⟩
  · rintro σ' H' ⟨v3, v4, rfl, e, op, og⟩
    rw [nv_len] at op
    walk_at "go"
    exact q p H' e hp op

abbrev s_swap_count : Stmt := top 17
abbrev N_swap_count : List Str := ["turn"]
theorem sc_swap_count : FnScope N_swap_count ["turn"] (defScope s_swap_count) := ⟨rfl, rfl, rfl, by decide +kernel, rfl, by decide +kernel, by decide +kernel⟩
theorem ok_swap_count {P : Program} {w : World} {K : PySem.W.Frag} {mg : Str → Option Value} {base : Heap} {f CT : Addr} {fd : FuncData} (F : Fun K "swap_count" "swap_count" s_swap_count f fd) (T : Txt K mg CT) (c_check_turn : CalO P w K mg base "check_turn" 1 (sp_check_turn K CT)) (c_split_into_cycles : CalO P w K mg base "split_into_cycles" 1 (sp_split_into_cycles K)) (tc : TurnT P w K mg base CT) : FnOk P w K mg base CX0 8 f fd ["turn"] (sp_swap_count K CT) := by
  refine F.ok sc_swap_count sp1_len (fun cd A outer s H vs Q E hr h => ?_)
  obtain ⟨a, rfl, ts, fl, ⟨x, l, rfl, at_⟩, q⟩ := h
  refine ⟨_, (pss_cons (ps_expr (pe_o c_check_turn hr (by decide) rfl (pa_cons (pv 0) pa_nil)))
    (pss_one (ps_ret (pe_op op_sub (pe_Turn_bits tc hr (by decide) (pv 0) rfl) (pe_callB (call_lenK (K0 := K)) rfl T.n_len bt_len (pa_cons (pe_o c_split_into_cycles hr (by decide) rfl (pa_cons (pe_Turn_targets tc hr (by decide) (pv 0) rfl) pa_nil)) pa_nil)))))), ?_⟩
  walk_at "go"
  refine ⟨ts, fl, ⟨x, l, rfl, at_⟩, ?_⟩
  walk_at "go"
  refine g_bits at_ ?_
  walk_at "go"
  refine g_targets at_ fun p hp => ?_
  walk_at "go"
  refine ⟨p, ts, rfl, upd_same, at_.ok, fun p2 cs H2 e2 hp2 rf cy cov fw pm => ?_⟩
  obtain ⟨xs, hx, lx⟩ := rf.len
  walk_at "go"
  refine g_lenK (SqL.of hx) ?_
  rw [lx]
  walk_at "go"
  exact q cs H2 ((Ext.new hp).trans e2) ⟨cy, cov, pm⟩ fw

abbrev s_neighbour_swaps : Stmt := top 18
abbrev N_neighbour_swaps : List Str := ["turn"]
theorem sc_neighbour_swaps : FnScope N_neighbour_swaps ["turn"] (defScope s_neighbour_swaps) := ⟨rfl, rfl, rfl, by decide +kernel, rfl, by decide +kernel, by decide +kernel⟩
theorem ok_neighbour_swaps {P : Program} {w : World} {K : PySem.W.Frag} {mg : Str → Option Value} {base : Heap} {f CT : Addr} {fd : FuncData} (F : Fun K "neighbour_swaps" "neighbour_swaps" s_neighbour_swaps f fd) (T : Txt K mg CT) (c_check_turn : CalO P w K mg base "check_turn" 1 (sp_check_turn K CT)) (c_crossings : CalO P w K mg base "crossings" 1 (sp_crossings K)) (tc : TurnT P w K mg base CT) : FnOk P w K mg base CX0 8 f fd ["turn"] (sp_neighbour_swaps K CT) := by
  refine F.ok sc_neighbour_swaps sp1_len (fun cd A outer s H vs Q E hr h => ?_)
  obtain ⟨a, rfl, ts, fl, ⟨x, l, rfl, at_⟩, q⟩ := h
  refine ⟨_, (pss_cons (ps_expr (pe_o c_check_turn hr (by decide) rfl (pa_cons (pv 0) pa_nil)))
    (pss_one (ps_ret (pe_callB (cr_sum rfl) rfl T.n_sum bt_sum (pa_cons (pe_o c_crossings hr (by decide) rfl (pa_cons (pe_Turn_targets tc hr (by decide) (pv 0) rfl) pa_nil)) pa_nil))))), ?_⟩
  walk_at "go"
  refine ⟨ts, fl, ⟨x, l, rfl, at_⟩, ?_⟩
  walk_at "go"
  refine g_targets at_ fun p hp => ?_
  walk_at "go"
  refine ⟨p, ts, rfl, upd_same, at_.ok, fun p2 H2 e2 hp2 o2 => ?_⟩
  walk_at "go"
  refine g_sum o2 ?_
  rw [← sm_list]
  exact q H2 ((Ext.new hp).trans e2)

abbrev s_law_bag : Stmt := top 20
abbrev N_law_bag : List Str := ["cell"]
theorem sc_law_bag : FnScope N_law_bag ["cell"] (defScope s_law_bag) := ⟨rfl, rfl, rfl, by decide +kernel, rfl, by decide +kernel, by decide +kernel⟩
theorem ok_law_bag {P : Program} {w : World} {K : PySem.W.Frag} {mg : Str → Option Value} {base : Heap} {f CT : Addr} {fd : FuncData} (F : Fun K "_law_bag" "_law_bag" s_law_bag f fd) (T : Txt K mg CT) : FnG P w K mg base CX0 1 f fd ["cell"] (sp_law_bag K) := by
  refine fn_G0 F sc_law_bag sp1_len (fun cd A outer s H vs Q E gd hr h => ?_)
  obtain ⟨a, rfl, c, rfl, q⟩ := h
  refine ⟨_, (pss_one (ps_ret (pe_lst (pa_cons (pe_callB (call_max2 rfl) rfl T.n_max bt_max (pa_cons pe_int (pa_cons (pe_op op_sub (pv 0) (pe_op op_powW pe_int pe_int)) pa_nil))) (pa_cons (pv 0) (pa_cons pe_int pa_nil)))))), ?_⟩
  walk_at "go"
  intro r hr
  refine q r _ (Ext.new hr) hr ⟨(if c - 10 ^ (18 : Int).toNat > 0 then c - 10 ^ (18 : Int).toNat else 0).toNat, c, 0, ?_, Nat.le_refl _⟩
  rw [upd_same, Int.toNat_of_nonneg (by split <;> omega)]
  rfl

abbrev s_law_pick : Stmt := top 21
abbrev N_law_pick : List Str := ["bag", "many", "told", "seed", "turn", "first", "second", "drawn"]
theorem sc_law_pick : FnScope N_law_pick ["bag", "many"] (defScope s_law_pick) := ⟨rfl, rfl, rfl, by decide +kernel, rfl, by decide +kernel, by decide +kernel⟩
theorem ok_law_pick {P : Program} {w : World} {K : PySem.W.Frag} {mg : Str → Option Value} {base : Heap} {f CT : Addr} {fd : FuncData} (F : Fun K "_law_pick" "_law_pick" s_law_pick f fd) (T : Txt K mg CT) : FnG P w K mg base CX0 1 f fd ["bag", "many"] (sp_law_pick K) := by
  refine fn_G0 F sc_law_pick sp2_len (fun cd A outer s H vs Q E gd hr h => ?_)
  obtain ⟨a, m, rfl, r, many, n, rfl, rfl, ⟨x, y, z, hr0, hz⟩, h1, h2, h3, q⟩ := h
  refine ⟨_, (pss_cons (ps_asg (pe_op op_add (pe_ix (ix_listK (K0 := K)) (pv 0) pe_int (fun _ _ => rfl)) pe_int) (pg_sub (pv 0) pe_int set_list))
    (pss_cons (ps_if (pt_cmpR op_gt (pe_ix (ix_listK (K0 := K)) (pv 0) pe_int (fun _ _ => rfl)) pe_int (nomark _)) (pss_cons (ps_set (i := 2) sc_law_pick.nd rfl (.inl rfl) (pe_op op_mod (pe_callTy call_int1 rfl T.n_int bt_int (pa_cons (pe_ix (ix_listK (K0 := K)) (pv 0) pe_int (fun _ _ => rfl)) pa_nil)) (pv 1)))
    (pss_cons (ps_asg (pe_op op_fdivW (pe_callTy call_int1 rfl T.n_int bt_int (pa_cons (pe_ix (ix_listK (K0 := K)) (pv 0) pe_int (fun _ _ => rfl)) pa_nil)) (pv 1)) (pg_sub (pv 0) pe_int set_list))
    (pss_one (ps_ret (pv 2))))) pss_nil)
    (pss_cons (ps_par (i := 3) (j := 4) rfl sc_law_pick.nd rfl rfl (by decide) rfl rfl (pa_cons (pe_callTy call_int1 rfl T.n_int bt_int (pa_cons (pe_ix (ix_listK (K0 := K)) (pv 0) pe_int (fun _ _ => rfl)) pa_nil)) (pa_cons (pe_callTy call_int1 rfl T.n_int bt_int (pa_cons (pe_ix (ix_listK (K0 := K)) (pv 0) pe_int (fun _ _ => rfl)) pa_nil)) pa_nil)) rfl)
    (pss_cons (ps_set (i := 5) sc_law_pick.nd rfl (.inl rfl) (pe_op op_mod (pe_callTy call_int1 rfl T.n_int bt_int (pa_cons (pe_op op_add (pe_op op_add (pe_op op_mulX (pe_op op_mod (pv 3) pe_int) pe_int) (pe_op op_mulX (pv 4) pe_int)) pe_int) pa_nil)) pe_int))
    (pss_cons (ps_set (i := 6) sc_law_pick.nd rfl (.inl rfl) (pe_op op_mod (pe_callTy call_int1 rfl T.n_int bt_int (pa_cons (pe_op op_add (pe_op op_mulX (pv 5) (pv 5)) (pe_op op_mulX (pv 4) pe_int)) pa_nil)) pe_int))
    (pss_cons (ps_set (i := 7) sc_law_pick.nd rfl (.inl rfl) (pe_op op_fdivW (pe_callTy call_int1 rfl T.n_int bt_int (pa_cons (pe_op op_add (pe_op op_mulX (pv 5) pe_int) (pv 6)) pa_nil)) pe_int))
    (pss_cons (ps_if (pt_cmpR op_gt (pv 1) (pe_op op_powW pe_int pe_int) (nomark _)) (pss_one (ps_set (i := 7) sc_law_pick.nd rfl (.inl rfl) (pe_op op_add (pe_op op_powW (pv 7) pe_int) (pv 6)))) pss_nil)
    (pss_one (ps_ret (pe_op op_mod (pe_callTy call_int1 rfl T.n_int bt_int (pa_cons (pv 7) pa_nil)) (pv 1))))))))))), ?_⟩
  have e40 : ((2 : Nat) ^ 40) = 1099511627776 := by decide
  have e100 : ((2 : Int) ^ 100) = 1267650600228229401496703205376 := by decide
  walk_at "go"
  refine g_ixL (SqL.of hr0) (i := 2) rfl ?_
  walk_at "go"
  refine g_setL hr0 (j := 2) rfl ?_
  walk_at "go"
  have hr1 : upd H r (.lst ([V.int (x : Int), .int y, .int (z : Int)].set 2 (.int ((z : Int) + 1)))) r = some (.lst [V.int (x : Int), .int y, .int ((z + 1 : Nat) : Int)]) := by
    rw [upd_same]
    rfl
  have s1 : Stp r H (upd H r (.lst ([V.int (x : Int), .int y, .int (z : Int)].set 2 (.int ((z : Int) + 1))))) := Stp.put
  revert hr1 s1
  generalize upd H r (.lst ([V.int (x : Int), .int y, .int (z : Int)].set 2 (.int ((z : Int) + 1)))) = H1
  intro hr1 s1
  refine g_ixL (SqL.of hr1) (i := 0) rfl ?_
  walk_at "go"
  by_cases hx : (0 : Int) < (x : Int)
  · rw [decide_eq_true hx]
    refine iteT ?_
    walk_at "go"
    refine g_ixL (SqL.of hr1) (i := 0) rfl ?_
    walk_at "go"
    refine g_ixL (SqL.of hr1) (i := 0) rfl ?_
    walk_at "go"
    refine g_I (div_ok h2 h3) ?_
    walk_at "go"
    refine g_setL hr1 (j := 0) rfl ?_
    walk_at "go"
    rw [show ((x : Int) % (many : Int)) = ((x % many : Nat) : Int) by simp]
    refine q _ _ (Nat.mod_lt _ h2) (s1.trans Stp.put) ⟨x / many, y, z + 1, ?_, by omega⟩
    rw [upd_same]
    simp
  · rw [decide_eq_false hx]
    refine iteF ?_
    walk_at "go"
    refine g_ixL (SqL.of hr1) (i := 1) rfl ?_
    walk_at "go"
    refine g_ixL (SqL.of hr1) (i := 2) rfl ?_
    walk_at "go"
    have a1 := Int.emod_nonneg y (show (2147483629 : Int) ≠ 0 by decide)
    have a2 := Int.emod_lt_of_pos y (show (0 : Int) < 2147483629 by decide)
    generalize y % 2147483629 = y1 at a1 a2 ⊢
    refine g_I (cmulx (a := 100) (b := 100) (by omega) (by omega) (by omega) (by omega) (by decide)) ?_
    walk_at "go"
    refine g_I (cmulx (a := 100) (b := 100) (by omega) (by omega) (by omega) (by omega) (by decide)) ?_
    walk_at "go"
    have b1 := Int.emod_nonneg (y1 * 48271 + ((z + 1 : Nat) : Int) * 69621 + 12345) (show (2147483647 : Int) ≠ 0 by decide)
    have b2 := Int.emod_lt_of_pos (y1 * 48271 + ((z + 1 : Nat) : Int) * 69621 + 12345) (show (0 : Int) < 2147483647 by decide)
    generalize (y1 * 48271 + ((z + 1 : Nat) : Int) * 69621 + 12345) % 2147483647 = f1 at b1 b2 ⊢
    refine g_I (cmulx (a := 100) (b := 100) (by omega) (by omega) (by omega) (by omega) (by decide)) ?_
    walk_at "go"
    refine g_I (cmulx (a := 100) (b := 100) (by omega) (by omega) (by omega) (by omega) (by decide)) ?_
    walk_at "go"
    have c1 := Int.emod_nonneg (f1 * f1 + ((z + 1 : Nat) : Int) * 40692) (show (2147483587 : Int) ≠ 0 by decide)
    have c2 := Int.emod_lt_of_pos (f1 * f1 + ((z + 1 : Nat) : Int) * 40692) (show (0 : Int) < 2147483587 by decide)
    generalize (f1 * f1 + ((z + 1 : Nat) : Int) * 40692) % 2147483587 = g1 at c1 c2 ⊢
    refine g_I (cmulx (a := 100) (b := 100) (by omega) (by omega) (by omega) (by omega) (by decide)) ?_
    walk_at "go"
    have d1 : 0 ≤ (f1 * 2147483587 + g1) / 32 := Int.ediv_nonneg (by omega) (by decide)
    have d2 : (f1 * 2147483587 + g1) / 32 < 2 ^ 100 := Int.ediv_lt_of_lt_mul (by decide) (by omega)
    generalize (f1 * 2147483587 + g1) / 32 = k1 at d1 d2 ⊢
    have fin : ∀ m2 : Int, ∃ d : Nat, d < many ∧ m2 % (many : Int) = (d : Int) := fun m2 => by
      have z1 := Int.emod_nonneg m2 (show (many : Int) ≠ 0 by omega)
      have z2 := Int.emod_lt_of_pos m2 (show (0 : Int) < (many : Int) by omega)
      exact ⟨(m2 % (many : Int)).toNat, by omega, (Int.toNat_of_nonneg z1).symm⟩
    by_cases big : (10 : Int) ^ (15 : Int).toNat < (many : Int)
    · refine iteD big ?_
      walk_at "go"
      refine g_I (cpow8 d1 d2) ?_
      walk_at "go"
      obtain ⟨d, hd, ed⟩ := fin (k1 ^ (8 : Int).toNat + g1)
      rw [ed]
      exact q d H1 hd s1 ⟨x, y, z + 1, hr1, by omega⟩
    · refine iteDn big ?_
      walk_at "go"
      obtain ⟨d, hd, ed⟩ := fin k1
      rw [ed]
      exact q d H1 hd s1 ⟨x, y, z + 1, hr1, by omega⟩

abbrev s_law_targets : Stmt := top 22
abbrev N_law_targets : List Str := ["bag", "bits", "kept", "left", "found"]
theorem sc_law_targets : FnScope N_law_targets ["bag", "bits"] (defScope s_law_targets) := ⟨rfl, rfl, rfl, by decide +kernel, rfl, by decide +kernel, by decide +kernel⟩
theorem ok_law_targets {P : Program} {w : World} {K : PySem.W.Frag} {mg : Str → Option Value} {base : Heap} {f CT : Addr} {fd : FuncData} (F : Fun K "_law_targets" "_law_targets" s_law_targets f fd) (T : Txt K mg CT) (c_law_pick : Cal P w K mg base "_law_pick" 1 (sp_law_pick K)) : FnG P w K mg base CX0 2 f fd ["bag", "bits"] (sp_law_targets K) := by
  refine fn_G0 F sc_law_targets sp2_len (fun cd A outer s H vs Q E gd hr h => ?_)
  obtain ⟨a, b, rfl, r, bits, n, rfl, rfl, hR, hn, hb2, q⟩ := h
  have e39 : ((2 : Nat) ^ 39) = 549755813888 := by decide
  have e40 : ((2 : Nat) ^ 40) = 1099511627776 := by decide
  have e1000 : 1000 < 2 ^ 1000 := many_lt
  have hs : sizeLine = 16777216 := by decide
  refine ⟨_, (pss_cons (ps_set (i := 2) sc_law_targets.nd rfl (.inl rfl) (pe_ix (ix_listK (K0 := K)) (pe_lst (pa_cons pe_int (pa_cons (pe_c c_law_pick gd hr (by decide) rfl (pa_cons (pv 0) (pa_cons (pe_op op_add (pv 1) pe_int) pa_nil))) pa_nil))) (pe_c c_law_pick gd hr (by decide) rfl (pa_cons (pv 0) (pa_cons pe_int pa_nil))) (fun _ _ => rfl)))
    (pss_cons (ps_par (i := 3) (j := 4) rfl sc_law_targets.nd rfl rfl (by decide) rfl rfl (pa_cons (pe_listRg rfl rfl T.n_list (prg_2 rfl T.n_range (pv 2) (pv 1))) (pa_cons (pe_listRg rfl rfl T.n_list (prg_1 rfl T.n_range (pv 2))) pa_nil)) rfl)
    (pss_cons (ps_while PassesOwn.never (pt_cmpR (op_neDK (K0 := K) hr) (pv 3) (pe_lst pa_nil) (nomark _)) (pss_one (ps_expr (pe_bm PySem.F.plainAttrs_list PySem.F.slot_list_append PySem.F.type_list_append mt_append (pv 4) (pa_cons (pe_bm PySem.F.plainAttrs_list PySem.F.slot_list_pop PySem.F.type_list_pop mt_popAt (pv 3) (pa_cons (pe_ix (ix_listK (K0 := K)) (pe_lst (pa_cons (pe_c c_law_pick gd hr (by decide) rfl (pa_cons (pv 0) (pa_cons (pe_callB (call_lenK (K0 := K)) rfl T.n_len bt_len (pa_cons (pv 3) pa_nil)) pa_nil))) (pa_cons pe_int pa_nil))) (pe_callTy call_int1 rfl T.n_int bt_int (pa_cons (pe_cmpR op_eq (pe_c c_law_pick gd hr (by decide) rfl (pa_cons (pv 0) (pa_cons pe_int pa_nil))) pe_int (nomark _)) pa_nil)) (fun _ _ => rfl)) pa_nil)) pa_nil)))))
    (pss_one (ps_ret (pv 4)))))), ?_⟩
  walk_at "go"
  rw [show (bits : Int) + 1 = ((bits + 1 : Nat) : Int) by omega]
  refine ⟨r, bits + 1, _, rfl, rfl, hR, by omega, by omega, by omega, fun d1 H1 hd1 s1 R1 => ?_⟩
  walk_at "go"
  intro p0 hp0
  walk_at "go"
  have np0 : p0 ≠ r := R1.ne hp0
  refine ⟨r, 2, _, rfl, rfl, R1.new hp0, by omega, by decide, by omega, fun c H2 hc s2 R2 => ?_⟩
  have o2 := s2 _ _ upd_same np0
  obtain ⟨kept, hk, kb⟩ : ∃ kept : Nat, [V.int 0, .int ((d1 : Nat) : Int)][c]? = some (.int (kept : Int)) ∧ kept ≤ bits := by
    rcases (by omega : c = 0 ∨ c = 1) with rfl | rfl
    · exact ⟨0, rfl, by omega⟩
    · exact ⟨d1, rfl, by omega⟩
  refine g_ixL (SqL.of o2) (atI_nat hk) ?_
  walk_at "go"
  have S2 : Stp r H H2 := (s1.new hp0).trans s2
  refine g_lstRg2 ?_
  walk_at "go"
  refine ⟨_, _, rfl, rfl, RgOk.of_le (by omega) (by omega) (by omega) (by omega), fun pl hpl => ?_⟩
  walk_at "go"
  refine ⟨rg_ok (by omega), fun pf hpf => ?_⟩
  rw [rgV_cut kb] at hpf
  rw [rgV_nv, rgV_cut kb]
  walk_at "go"
  have npl : pl ≠ r := R2.ne hpl
  have npf : pf ≠ r := (R2.new hpl).ne hpf
  have nlf : pl ≠ pf := fun z => by rw [← z, upd_same] at hpf; cases hpf
  have hpl0 : H pl = none := S2.free hpl npl
  have hpf0 : H pf = none := S2.free ((Ext.new hpl).free hpf) npf
  refine g_while (fun k σ' H' => ∃ lf fd : List Nat, k = lf.length ∧ σ' = [some (.ref r), some (.int (bits : Int)), some (.int (kept : Int)), some (.ref pl), some (.ref pf)] ∧ Stp r H H' ∧ Bag H' r (n + 2 + 2 * fd.length) ∧
    H' pl = some (.lst (nv lf)) ∧ H' pf = some (.lst (nv fd)) ∧ (lf ++ fd).Perm (List.range bits)) _ ⟨List.range' kept (bits - kept), List.range kept, rfl, rfl, S2.ext ((Ext.new hpl).new' hpf), ((R2.new hpl).new hpf).mono (by rw [List.length_range]; omega), by rw [upd_ne nlf, upd_same], upd_same, ?_⟩ ?_
  · refine List.perm_append_comm.trans ?_
    rw [range_cut kb]
  rintro k σ' H' ⟨lf, fd, rfl, rfl, S, R, ol, of, pm⟩
  have len := pm.length_eq
  rw [List.length_append, List.length_range] at len
  walk_at "go"
  intro p1 hp1
  refine ⟨_, _, dp_nv (by rw [upd_ne (ne_of_none ol hp1)]; exact ol), dp_nv (l := []) upd_same, nd_shaped _, nd_shaped _, ?_⟩
  rw [nd_eq]
  walk_at "go"
  have S1 := S.new (o := .lst []) hp1
  have Ra := R.new (o := .lst []) hp1
  have of1 : upd H' p1 (.lst []) pf = some (.lst (nv fd)) := by rw [upd_ne (ne_of_none of hp1)]; exact of
  have ol1 : upd H' p1 (.lst []) pl = some (.lst (nv lf)) := by rw [upd_ne (ne_of_none ol hp1)]; exact ol
  revert S1 Ra of1 ol1
  generalize upd H' p1 (.lst []) = Ha
  intro S1 Ra of1 ol1
  by_cases hne : lf = []
  · subst hne
    refine iteNn rfl ?_
    walk_at "go"
    refine q pf fd Ha S1 (Ra.mono ?_) hpf0 of1 pm
    simp at len
    omega
  refine iteN hne ?_
  have pos : 0 < lf.length := List.length_pos_iff.mpr hne
  refine ⟨fun σ3 H3 => ∃ lf2 fd2 : List Nat, lf2.length < lf.length ∧ σ3 = [some (.ref r), some (.int (bits : Int)), some (.int (kept : Int)), some (.ref pl), some (.ref pf)] ∧ Stp r H H3 ∧ Bag H3 r (n + 2 + 2 * fd2.length) ∧
    H3 pl = some (.lst (nv lf2)) ∧ H3 pf = some (.lst (nv fd2)) ∧ (lf2 ++ fd2).Perm (List.range bits), fun σ3 H3 ⟨lf2, fd2, hl2, h⟩ => ⟨_, hl2, lf2, fd2, rfl, h⟩, ?_⟩
  walk_at "go"
  refine ⟨_, rfl, .inl ⟨rfl, _, SqL.of of1⟩, ?_⟩
  walk_at "go"
  refine ⟨_, rfl, .inl ⟨rfl, _, SqL.of ol1⟩, ?_⟩
  walk_at "go"
  refine g_lenK (SqL.of ol1) ?_
  rw [nv_len]
  walk_at "go"
  refine ⟨r, lf.length, _, rfl, rfl, Ra, by omega, by omega, by omega, fun d2 H3 hd2 s3 R3 => ?_⟩
  walk_at "go"
  intro p3 hp3
  walk_at "go"
  have np3 : p3 ≠ r := R3.ne hp3
  refine ⟨r, 4, _, rfl, rfl, R3.new hp3, by omega, by decide, by omega, fun d3 H4 hd3 s4 R4 => ?_⟩
  walk_at "go"
  have o4 := s4 _ _ upd_same np3
  have s34 : Stp r Ha H4 := (s3.new hp3).trans s4
  have ol4 := s34 _ _ ol1 npl
  have of4 := s34 _ _ of1 npf
  obtain ⟨j, hj, jl⟩ : ∃ j : Nat, atI [V.int ((d2 : Nat) : Int), .int 0] (if decide (V.int ((d3 : Nat) : Int) = V.int 0) = true then 1 else 0) = some (.int (j : Int)) ∧ j < lf.length := by
    by_cases c : V.int ((d3 : Nat) : Int) = V.int 0
    · rw [decide_eq_true c]
      exact ⟨0, rfl, pos⟩
    · rw [decide_eq_false c]
      exact ⟨d2, rfl, hd2⟩
  refine g_ixL (SqL.of o4) hj ?_
  obtain ⟨x, hx⟩ : ∃ x, lf[j]? = some x := ⟨_, List.getElem?_eq_getElem jl⟩
  refine ⟨pl, _, _, j, _, rfl, rfl, ol4, by omega, by omega, by rw [nv_len]; exact seq_nat jl, nv_at hx, ?_⟩
  rw [nv_erase]
  walk_at "go"
  refine ⟨pf, _, _, rfl, rfl, by rw [upd_ne (Ne.symm nlf)]; exact of4, by rw [nv_len]; omega, ?_⟩
  refine ⟨lf.eraseIdx j, fd ++ [x], ?_, rfl, ((S1.trans s34).mut hpl0).mut hpf0, ((R4.mut npl).mut npf).mono (by rw [List.length_append, List.length_singleton]; omega), by rw [upd_ne nlf, upd_same], by rw [upd_same, nv_append]; rfl, ?_⟩
  · rw [List.length_eraseIdx, if_pos jl]
    omega
  · have pe := M.erase_perm lf j x hx
    refine List.Perm.trans ?_ pm
    rw [← List.append_assoc]
    refine List.Perm.trans (List.perm_append_singleton x (lf.eraseIdx j ++ fd)) ?_
    rw [← List.cons_append]
    exact List.Perm.append_right fd pe

abbrev s_law_flips : Stmt := top 23
abbrev N_law_flips : List Str := ["bag", "bits", "some"]
theorem sc_law_flips : FnScope N_law_flips ["bag", "bits"] (defScope s_law_flips) := ⟨rfl, rfl, rfl, by decide +kernel, rfl, by decide +kernel, by decide +kernel⟩
theorem ok_law_flips {P : Program} {w : World} {K : PySem.W.Frag} {mg : Str → Option Value} {base : Heap} {f CT : Addr} {fd : FuncData} (F : Fun K "_law_flips" "_law_flips" s_law_flips f fd) (T : Txt K mg CT) (c_law_pick : Cal P w K mg base "_law_pick" 1 (sp_law_pick K)) : FnG P w K mg base CX0 2 f fd ["bag", "bits"] (sp_law_flips K) := by
  refine fn_G0 F sc_law_flips sp2_len (fun cd A outer s H vs Q E gd hr h => ?_)
  obtain ⟨a, b, rfl, r, bits, n, rfl, rfl, hR, hn, hb1, hb2, q⟩ := h
  have e39 : ((2 : Nat) ^ 39) = 549755813888 := by decide
  have e40 : ((2 : Nat) ^ 40) = 1099511627776 := by decide
  have e1000 : 1000 < 2 ^ 1000 := many_lt
  refine ⟨_, (pss_cons (ps_set (i := 2) sc_law_flips.nd rfl (.inl rfl) (pe_lst (pa_cons pe_int (pa_cons (pe_op op_shlW pe_int (pe_c c_law_pick gd hr (by decide) rfl (pa_cons (pv 0) (pa_cons (pv 1) pa_nil)))) (pa_cons (pe_op op_sub (pe_op op_shlW pe_int (pv 1)) pe_int) (pa_cons (pe_c c_law_pick gd hr (by decide) rfl (pa_cons (pv 0) (pa_cons (pe_op op_shlW pe_int (pv 1)) pa_nil))) pa_nil))))))
    (pss_one (ps_ret (pe_ix (ix_listK (K0 := K)) (pv 2) (pe_c c_law_pick gd hr (by decide) rfl (pa_cons (pv 0) (pa_cons pe_int pa_nil))) (fun _ _ => rfl))))), ?_⟩
  walk_at "go"
  refine ⟨r, bits, _, rfl, rfl, hR, by omega, by omega, by omega, fun k H1 hk s1 R1 => ?_⟩
  refine g_I (cshl_one (by omega)) ?_
  walk_at "go"
  rw [one_shl]
  refine g_I (cshl_one (by omega)) ?_
  walk_at "go"
  rw [one_shl]
  walk_at "go"
  refine g_I (cshl_one (by omega)) ?_
  walk_at "go"
  rw [one_shl]
  have pos : 0 < 2 ^ bits := Nat.two_pow_pos _
  refine ⟨r, 2 ^ bits, _, rfl, rfl, R1, by omega, pos, places_lt hb2, fun d H2 hd s2 R2 => ?_⟩
  walk_at "go"
  intro p1 hp1
  walk_at "go"
  have n1 : p1 ≠ r := R2.ne hp1
  refine ⟨r, 4, _, rfl, rfl, R2.new hp1, by omega, by omega, by omega, fun c H3 hc s3 R3 => ?_⟩
  have o1 := s3 _ _ upd_same n1
  have S3 : Stp r H H3 := ((s1.trans s2).new hp1).trans s3
  have kb : 2 ^ k < 2 ^ bits := Nat.pow_lt_pow_right (by decide) hk
  obtain ⟨fl, hfl, fb⟩ : ∃ fl : Nat, [V.int 0, .int ((2 ^ k : Nat) : Int), .int (((2 ^ bits : Nat) : Int) - 1), .int ((d : Nat) : Int)][c]? = some (.int (fl : Int)) ∧ fl < 2 ^ bits := by
    rcases (by omega : c = 0 ∨ c = 1 ∨ c = 2 ∨ c = 3) with rfl | rfl | rfl | rfl
    · exact ⟨0, rfl, pos⟩
    · exact ⟨2 ^ k, rfl, kb⟩
    · exact ⟨2 ^ bits - 1, by rw [show (((2 ^ bits : Nat) : Int) - 1) = ((2 ^ bits - 1 : Nat) : Int) by omega]; rfl, by omega⟩
    · exact ⟨d, rfl, hd⟩
  refine g_ixL (SqL.of o1) (atI_nat hfl) ?_
  exact q fl _ S3 (R3.mono (by omega)) fb

abbrev s_law_great : Stmt := top 24
abbrev N_law_great : List Str := ["bag", "bits", "targets", "flips"]
theorem sc_law_great : FnScope N_law_great ["bag"] (defScope s_law_great) := ⟨rfl, rfl, rfl, by decide +kernel, rfl, by decide +kernel, by decide +kernel⟩
theorem ok_law_great {P : Program} {w : World} {K : PySem.W.Frag} {mg : Str → Option Value} {base : Heap} {f CT : Addr} {fd : FuncData} (F : Fun K "_law_great" "_law_great" s_law_great f fd) (T : Txt K mg CT) (c_law_pick : Cal P w K mg base "_law_pick" 1 (sp_law_pick K)) (c_law_targets : Cal P w K mg base "_law_targets" 2 (sp_law_targets K)) (c_law_flips : Cal P w K mg base "_law_flips" 2 (sp_law_flips K)) : FnG P w K mg base CX0 3 f fd ["bag"] (sp_law_great K) := by
  refine fn_G0 F sc_law_great sp1_len (fun cd A outer s H vs Q E gd hr h => ?_)
  obtain ⟨a, rfl, r, n, rfl, hR, hn, q⟩ := h
  have e38 : ((2 : Nat) ^ 38) = 274877906944 := by decide
  have e39 : ((2 : Nat) ^ 39) = 549755813888 := by decide
  have e40 : ((2 : Nat) ^ 40) = 1099511627776 := by decide
  have e1000 : 1000 < 2 ^ 1000 := many_lt
  refine ⟨_, (pss_cons (ps_set (i := 1) sc_law_great.nd rfl (.inl rfl) (pe_op op_add pe_int (pe_c c_law_pick gd hr (by decide) rfl (pa_cons (pv 0) (pa_cons (pe_ix (ix_listK (K0 := K)) (pe_lst (pa_cons pe_int (pa_cons pe_int pa_nil))) (pe_c c_law_pick gd hr (by decide) rfl (pa_cons (pv 0) (pa_cons pe_int pa_nil))) (fun _ _ => rfl)) pa_nil)))))
    (pss_cons (ps_par (i := 2) (j := 3) rfl sc_law_great.nd rfl rfl (by decide) rfl rfl (pa_cons (pe_c c_law_targets gd hr (by decide) rfl (pa_cons (pv 0) (pa_cons (pv 1) pa_nil))) (pa_cons (pe_c c_law_flips gd hr (by decide) rfl (pa_cons (pv 0) (pa_cons (pv 1) pa_nil))) pa_nil)) rfl)
    (pss_cons (ps_if (pt_cmpR op_eq (pe_c c_law_pick gd hr (by decide) rfl (pa_cons (pv 0) (pa_cons pe_int pa_nil))) pe_int (nomark _)) (pss_one (ps_set (i := 3) sc_law_great.nd rfl (.inl rfl) (pe_op op_and (pe_op op_shlW (pe_op op_shr (pv 3) (pe_c c_law_pick gd hr (by decide) rfl (pa_cons (pv 0) (pa_cons (pv 1) pa_nil)))) (pe_c c_law_pick gd hr (by decide) rfl (pa_cons (pv 0) (pa_cons (pv 1) pa_nil)))) (pe_op op_sub (pe_op op_shlW pe_int (pv 1)) pe_int)))) pss_nil)
    (pss_one (ps_ret (pe_tup (pa_cons (pv 2) (pa_cons (pv 3) pa_nil)))))))), ?_⟩
  walk_at "go"
  intro p1 hp1
  walk_at "go"
  have n1 : p1 ≠ r := hR.ne hp1
  refine ⟨r, 2, _, rfl, rfl, hR.new hp1, by omega, by decide, by omega, fun c H1 hc s1 R1 => ?_⟩
  obtain ⟨m, hm, mb, mb2⟩ : ∃ m : Nat, [V.int 12, .int 100][c]? = some (.int (m : Int)) ∧ 0 < m ∧ m ≤ 100 := by
    rcases (by omega : c = 0 ∨ c = 1) with rfl | rfl
    · exact ⟨12, rfl, by decide, by decide⟩
    · exact ⟨100, rfl, by decide, by decide⟩
  refine g_ixL (SqL.of (s1 _ _ upd_same n1)) (atI_nat hm) ?_
  walk_at "go"
  refine ⟨r, m, _, rfl, rfl, R1, by omega, mb, by omega, fun d H2 hd s2 R2 => ?_⟩
  walk_at "go"
  obtain ⟨bits, eb, b1, b2⟩ : ∃ bits : Nat, (1 : Int) + (d : Int) = (bits : Int) ∧ 1 ≤ bits ∧ bits ≤ 100 := ⟨1 + d, by omega, by omega, by omega⟩
  rw [eb]
  have S2 : Stp r H H2 := ((Stp.refl r H).new hp1).trans (s1.trans s2)
  refine ⟨r, bits, _, rfl, rfl, R2, by omega, b2, fun l ts H3 s3 R3 hl ol pm => ?_⟩
  have nl : l ≠ r := R2.ne hl
  obtain ⟨ok, len⟩ := Ts.of_perm pm b1 b2
  walk_at "go"
  refine ⟨r, bits, _, rfl, rfl, R3, by omega, b1, b2, fun fl H4 s4 R4 hf => ?_⟩
  walk_at "go"
  have ol4 := s4 _ _ ol nl
  have S4 := (S2.trans s3).trans s4
  refine ⟨r, 4, _, rfl, rfl, R4, by omega, by decide, by omega, fun c2 H5 hc2 s5 R5 => ?_⟩
  walk_at "go"
  have ol5 := s5 _ _ ol4 nl
  have S5 := S4.trans s5
  have hl0 : H l = none := S2.free hl nl
  have pos : 0 < 2 ^ bits := Nat.two_pow_pos _
  by_cases c : V.int ((c2 : Nat) : Int) = V.int 0
  · refine iteD c ?_
    walk_at "go"
    refine ⟨r, bits, _, rfl, rfl, R5, by omega, by omega, by omega, fun k1 H6 hk1 s6 R6 => ?_⟩
    walk_at "go"
    rw [shr_nat]
    refine ⟨r, bits, _, rfl, rfl, R6, by omega, by omega, by omega, fun k2 H7 hk2 s7 R7 => ?_⟩
    have fb : fl / 2 ^ k1 < 2 ^ 100 := Nat.lt_of_le_of_lt (Nat.div_le_self _ _) (Nat.lt_of_lt_of_le hf (Nat.pow_le_pow_right (by decide) b2))
    refine g_I (cshl_big (a := 100) fb (by omega) (by omega)) ?_
    walk_at "go"
    rw [shl_nat]
    refine g_I (cshl_one (by omega)) ?_
    walk_at "go"
    rw [one_shl, show (((2 ^ bits : Nat) : Int) - 1) = ((2 ^ bits - 1 : Nat) : Int) by omega, bitAnd_nat]
    intro p hp
    have np : p ≠ r := R7.ne hp
    have S7 := (S5.trans s6).trans s7
    refine q p l ts _ _ (S7.new hp) ((R7.new hp).mono (by omega)) (S7.free hp np) hl0 upd_same ?_ ok ?_
    · rw [upd_ne (ne_of_none (s7 _ _ (s6 _ _ ol5 nl) nl) hp)]
      exact s7 _ _ (s6 _ _ ol5 nl) nl
    · rw [len]
      refine Nat.lt_of_le_of_lt Nat.and_le_right (by omega)
  · refine iteDn c ?_
    walk_at "go"
    intro p hp
    have np : p ≠ r := R5.ne hp
    refine q p l ts fl _ (S5.new hp) ((R5.new hp).mono (by omega)) (S5.free hp np) hl0 upd_same ?_ ok (by rw [len]; exact hf)
    rw [upd_ne (ne_of_none ol5 hp)]
    exact ol5

abbrev s_law_far : Stmt := top 25
abbrev N_law_far : List Str := ["bits", "pairs", "front", "many", "found", "later", "one", "low", "high", "other"]
theorem sc_law_far : FnScope N_law_far ["bits", "pairs"] (defScope s_law_far) := ⟨rfl, rfl, rfl, by decide +kernel, rfl, by decide +kernel, by decide +kernel⟩
theorem ok_law_far {P : Program} {w : World} {K : PySem.W.Frag} {mg : Str → Option Value} {base : Heap} {f CT : Addr} {fd : FuncData} (F : Fun K "_law_far" "_law_far" s_law_far f fd) (T : Txt K mg CT) : FnG P w K mg base CX0 1 f fd ["bits", "pairs"] (sp_law_far K) := by
  refine fn_G0 F sc_law_far sp2_len (fun cd A outer s H vs Q E gd hr h => ?_)
  obtain ⟨a, b, rfl, n, pp, ps, F, rfl, rfl, PS, hn1, hn5, pb, run, fl, q⟩ := h
  have hsz : sizeLine = 16777216 := by decide
  refine ⟨_, (pss_cons (ps_par (i := 2) (j := 3) rfl sc_law_far.nd rfl rfl (by decide) rfl rfl (pa_cons (pe_lst (pa_cons (pe_tupRg rfl rfl T.n_tuple (prg_1 rfl T.n_range (pv 0))) pa_nil)) (pa_cons pe_int pa_nil)) rfl)
    (pss_cons (ps_set (i := 4) sc_law_far.nd rfl (.inl rfl) (pe_dispT (hu_of hr) (pe_ix (ix_listK (K0 := K)) (pv 2) pe_int (fun _ _ => rfl)) pe_int))
    (pss_cons (ps_while PassesOwn.never (pt_cmpR (op_neE (K0 := K) hr) (pv 2) (pe_lst pa_nil) (nomark _)) (pss_cons (ps_par (i := 3) (j := 5) rfl sc_law_far.nd rfl rfl (by decide) rfl rfl (pa_cons (pe_op op_add (pv 3) pe_int) (pa_cons (pe_lst pa_nil) pa_nil)) rfl)
    (pss_cons (ps_for PassesOwn.never rfl (pi_list (pv 2)) (pg_name (i := 6) sc_law_far.nd rfl (.inl rfl))
    (pss_one (ps_for PassesOwn.never rfl (pi_list (pv 1)) (pg_tup rfl (pgs_cons (pg_name (i := 7) sc_law_far.nd rfl (.inl rfl)) (pgs_cons (pg_name (i := 8) sc_law_far.nd rfl (.inl rfl)) pgs_nil)))
    (pss_cons (ps_set (i := 9) sc_law_far.nd rfl (.inl rfl) (pe_callTy (call_listK (K0 := K)) rfl T.n_list bt_list (pa_cons (pv 6) pa_nil)))
    (pss_cons (ps_asg (pe_tup (pa_cons (pe_ix (ix_tupK (K0 := K)) (pv 6) (pv 8) (fun _ _ => rfl)) (pa_cons (pe_ix (ix_tupK (K0 := K)) (pv 6) (pv 7) (fun _ _ => rfl)) pa_nil))) (pg_tup rfl (pgs_cons (pg_sub (pv 9) (pv 7) set_list) (pgs_cons (pg_sub (pv 9) (pv 8) set_list) pgs_nil))))
    (pss_one (ps_if (pt_cmp (pc_dnotin (hu_of hr) (pe_callTy call_tuple_of rfl T.n_tuple bt_tuple (pa_cons (pv 9) pa_nil)) (pv 4))) (pss_cons (ps_dput (hu_of hr) (pv 4) (pe_callTy call_tuple_of rfl T.n_tuple bt_tuple (pa_cons (pv 9) pa_nil)) (pv 3) rfl)
    (pss_one (ps_expr (pe_bm PySem.F.plainAttrs_list PySem.F.slot_list_append PySem.F.type_list_append mt_append (pv 5) (pa_cons (pe_callTy call_tuple_of rfl T.n_tuple bt_tuple (pa_cons (pv 9) pa_nil)) pa_nil))))) pss_nil)))))))
    (pss_one (ps_set (i := 2) sc_law_far.nd rfl (.inl rfl) (pv 5))))))
    (pss_one (ps_ret (pv 4)))))), ?_⟩
  walk_at "go"
  refine g_tupRg ?_
  walk_at "go"
  refine ⟨rg_ok (by omega), fun pt hpt => ?_⟩
  rw [rgV_nv]
  walk_at "go"
  intro p0 hp0
  walk_at "go"
  refine g_dispT fun pd hpd => ?_
  have n0d : p0 ≠ pd := ne_of_none upd_same hpd
  have E1 : Ext H (upd (upd (upd H pt (.tup (nv (List.range n)))) p0 (.lst [.ref pt])) pd (.dT [])) := ((Ext.new hpt).new' hp0).new' hpd
  have hd : H pd = none := ((Ext.new hpt).new' (o := .lst [.ref pt]) hp0).free hpd
  have od : upd (upd (upd H pt (.tup (nv (List.range n)))) p0 (.lst [.ref pt])) pd (.dT []) pd = some (.dT []) := upd_same
  have o0 : upd (upd (upd H pt (.tup (nv (List.range n)))) p0 (.lst [.ref pt])) pd (.dT []) p0 = some (.lst [.ref pt]) := by rw [upd_ne n0d, upd_same]
  have ot : upd (upd (upd H pt (.tup (nv (List.range n)))) p0 (.lst [.ref pt])) pd (.dT []) pt = some (.tup (nv (List.range n))) := (Ext.new hpd) _ _ ((Ext.new hp0) _ _ upd_same)
  revert E1 od o0 ot
  generalize upd (upd (upd H pt (.tup (nv (List.range n)))) p0 (.lst [.ref pt])) pd (.dT []) = H1
  intro E1 od o0 ot
  walk_at "go"
  refine g_ixL (SqL.of o0) (atI_nat (j := 0) rfl) ?_
  walk_at "go"
  refine ⟨od, pt, tk (List.range n), rfl, by rw [tk_nv]; exact ot, ?_⟩
  walk_at "go"
  have E2 : Ext H (upd H1 pd (.dT [(tk (List.range n), .int 0)])) := E1.mut hd
  have od2 : upd H1 pd (.dT [(tk (List.range n), .int 0)]) pd = some (.dT (enc (bfsI n).1)) := upd_same
  have ne : pt ≠ pd := fun z => by rw [z, od] at ot; cases ot
  have T2 : Tups (upd H1 pd (.dT [(tk (List.range n), .int 0)])) p0 [List.range n] := Tups.one (by rw [upd_ne n0d]; exact o0) (by rw [upd_ne ne]; exact ot)
  revert E2 od2 T2
  generalize upd H1 pd (.dT [(tk (List.range n), .int 0)]) = HB
  intro E2 od2 T2
  refine g_while (fun m σ' H' => ∃ (k : Nat) (st : BF) (pf : Addr) (v5 v6 v7 v8 v9 : Option V), σ' = [some (.int (n : Int)), some (.ref pp), some (.ref pf), some (.int (k : Int)), some (.ref pd), v5, v6, v7, v8, v9] ∧ Ext H H' ∧ H' pd = some (.dT (enc st.1)) ∧ Tups H' pf st.2 ∧ (∀ r ∈ st.2, r.length = n) ∧ st.2.length ≤ st.1.length ∧ k + m = 12 ∧ bfsF ps m k st = some F) 12 ⟨0, bfsI n, p0, _, _, _, _, _, rfl, E2, od2, T2, fun r hr => by rw [List.mem_singleton.mp hr]; exact List.length_range, Nat.le_refl _, rfl, run⟩ ?_
  rintro m σ2 H2 ⟨k, st, pf, v5, v6, v7, v8, v9, rfl, e2, od, T, rl, sl, km, rn⟩
  walk_at "go"
  intro pe hpe
  have x3 := Ext.new (o := .lst []) hpe
  have T3 := T.ext x3
  have e3 := e2.trans x3
  have od3 := x3 _ _ od
  have oe : upd H2 pe (.lst []) pe = some (.lst []) := upd_same
  revert T3 e3 od3 oe
  generalize upd H2 pe (.lst []) = H3
  intro T3 e3 od3 oe
  obtain ⟨xs, hx, lx, gx⟩ := T3.at
  refine ⟨pf, pe, xs, rfl, rfl, SqL.of hx, SqL.of oe, ?_⟩
  refine ⟨_, rfl, ?_⟩
  cases m with
  | zero => cases rn
  | succ f =>
    unfold bfsF at rn
    by_cases c : st.2.isEmpty = true
    · rw [if_pos c] at rn
      cases rn
      have xe : xs = [] := List.length_eq_zero_iff.mp (by rw [lx, List.isEmpty_iff.mp c]; rfl)
      rw [show (!xs.isEmpty) = false by rw [xe]; rfl, if_neg Bool.false_ne_true]
      walk_at "go"
      exact q pd _ e3 hd od3
    · rw [if_neg c] at rn
      have sne : st.2.length ≠ 0 := fun z => c (by rw [List.length_eq_zero_iff.mp z]; rfl)
      rw [show (!xs.isEmpty) = true by
        cases xs with
        | nil => exact absurd lx.symm sne
        | cons _ _ => rfl, if_pos rfl]
      have rl1 := bfsR_len ps (k + 1) st
      have fl1 := bfsF_len ps rn
      refine ⟨fun σ3 H3 => ∃ (pl : Addr) (v6 v7 v8 v9 : Option V), σ3 = [some (.int (n : Int)), some (.ref pp), some (.ref pl), some (.int ((k + 1 : Nat) : Int)), some (.ref pd), some (.ref pl), v6, v7, v8, v9] ∧ Ext H H3 ∧ H3 pd = some (.dT (enc (bfsR ps (k + 1) st).1)) ∧ Tups H3 pl (bfsR ps (k + 1) st).2, ?_, ?_⟩
      · rintro σ3 H4 ⟨pl, v6, v7, v8, v9, rfl, e4, od4, T4⟩
        exact ⟨f, Nat.lt_succ_self _, k + 1, _, pl, _, _, _, _, _, rfl, e4, od4, T4, bfsR_rows rl, rl1.2, by omega, rn⟩
      walk_at "go"
      intro pl hpl
      have hpl0 : H pl = none := e3.free hpl
      have ndl : pd ≠ pl := ne_of_none od3 hpl
      have nfl : pf ≠ pl := ne_of_none hx hpl
      have x4 := Ext.new (o := .lst []) hpl
      have T4 := T3.ext x4
      have e4 := e3.trans x4
      have od4 := x4 _ _ od3
      have ol4 : upd H3 pl (.lst []) pl = some (.lst []) := upd_same
      revert T4 e4 od4 ol4
      generalize upd H3 pl (.lst []) = H4
      intro T4 e4 od4 ol4
      walk_at "go"
      rw [show (k : Int) + 1 = ((k + 1 : Nat) : Int) by omega]
      obtain ⟨xs4, hx4, lx4, gx4⟩ := T4.at
      obtain ⟨ys, hy, ly, gy⟩ := (PS.ext e4).at
      have T0 : Tups H4 pl (bfsM ps (k + 1) st 0 0).2 := ⟨[], ol4, rfl, fun i r hr => by cases hr⟩
      refine u_list (SqL.of hx4) (fun i σ' H' => ∃ (v6 v7 v8 v9 : Option V), σ' = [some (.int (n : Int)), some (.ref pp), some (.ref pf), some (.int ((k + 1 : Nat) : Int)), some (.ref pd), some (.ref pl), v6, v7, v8, v9] ∧ St2 pd pl H4 H' ∧ H' pd = some (.dT (enc (bfsM ps (k + 1) st i 0).1)) ∧ Tups H' pl (bfsM ps (k + 1) st i 0).2) ?_ ?_ ?_ ?_
      · exact ⟨_, _, _, _, rfl, .refl _ _ _, od4, T0⟩
      · rintro i σ' H' _ ⟨v6, v7, v8, v9, rfl, s5, od5, T5⟩
        exact SqL.of (s5 _ _ hx4 (fun z => by rw [z, od4] at hx4; cases hx4) nfl)
      · rintro i v σ' H5 hi ⟨v6, v7, v8, v9, rfl, s5, od5, T5⟩
        obtain ⟨po, one, rfl, eone, oone⟩ := gx4 i v hi
        have il := (List.getElem?_eq_some_iff.mp eone).1
        walk_at "go"
        have npd : pp ≠ pd := fun z => by rw [z, od4] at hy; cases hy
        obtain ⟨ys0, hy0, _, _⟩ := PS.at
        have npl : pp ≠ pl := ne_of_none hy0 hpl0
        have tup : ∀ {b : Addr} {zs : List V} {HH : Hp}, St2 pd pl H4 HH → H4 b = some (.tup zs) → HH b = some (.tup zs) := fun s h => s _ _ h (fun z => by rw [z, od4] at h; cases h) (fun z => by rw [z, ol4] at h; cases h)
        have onel : one.length = n := rl one (List.mem_of_getElem? eone)
        have gd : st.2.getD i [] = one := by rw [List.getD_eq_getElem?_getD, eone]; rfl
        refine u_list2 (SqL.of (s5 _ _ hy npd npl)) (fun j σ' H' => ∃ (v7 v8 v9 : Option V), σ' = [some (.int (n : Int)), some (.ref pp), some (.ref pf), some (.int ((k + 1 : Nat) : Int)), some (.ref pd), some (.ref pl), some (.ref po), v7, v8, v9] ∧ St2 pd pl H4 H' ∧ H' pd = some (.dT (enc (bfsM ps (k + 1) st i j).1)) ∧ Tups H' pl (bfsM ps (k + 1) st i j).2) ?_ ?_ ?_ ?_
        · exact ⟨_, _, _, rfl, s5, od5, T5⟩
        · rintro j σ' H' _ ⟨v7, v8, v9, rfl, s6, od6, T6⟩
          exact SqL.of (s6 _ _ hy npd npl)
        · rintro j v σ' H6 hj ⟨v7, v8, v9, rfl, s6, od6, T6⟩
          obtain ⟨pq, qq, rfl, eqq, oqq⟩ := gy j v hj
          obtain ⟨q1, q2⟩ := pb qq (List.mem_of_getElem? eqq)
          refine ⟨pq, _, _, rfl, SqT.of (tup s6 oqq), ?_⟩
          have ml := bfsM_len (ps := ps) (k := k + 1) j il
          have st1 := bfsM_pair (st := st) (k := k + 1) (i := i) eqq
          rw [gd] at st1
          rw [st1]
          revert ml od6 T6
          generalize bfsM ps (k + 1) st i j = S
          intro od6 T6 ml
          walk_at "go"
          have oo6 := tup s6 oone
          refine ⟨po, _, rfl, .inr (SqT.of oo6), fun px hpx => ?_⟩
          have x7 := Ext.new (o := .lst (nv one)) hpx
          have s7 := s6.ext x7
          have oo7 := x7 _ _ oo6
          have od7 := x7 _ _ od6
          have T7 := T6.ext x7
          have ox7 : upd H6 px (.lst (nv one)) px = some (.lst (nv one)) := upd_same
          have nxd : px ≠ pd := fun z => by rw [z, od6] at hpx; cases hpx
          have nxo : px ≠ po := fun z => by rw [z, oo6] at hpx; cases hpx
          have nx4 : H4 px = none := by
            cases h : H4 px with
            | none => rfl
            | some o =>
              by_cases c : px = pl
              · obtain ⟨as, z, _⟩ := T6
                rw [c, z] at hpx
                cases hpx
              · have := s6 _ _ h nxd c
                rw [this] at hpx
                cases hpx
          obtain ⟨zs, hz6, lz6, _⟩ := T6.at
          have nxl : px ≠ pl := fun z => by rw [z, hz6] at hpx; cases hpx
          revert s7 oo7 od7 T7 ox7
          generalize upd H6 px (.lst (nv one)) = H7
          intro s7 oo7 od7 T7 ox7
          walk_at "go"
          refine g_ixT (SqT.of oo7) (atI_nv (getD_some (show qq.2 < one.length by omega))) ?_
          walk_at "go"
          refine g_ixT (SqT.of oo7) (atI_nv (getD_some (show qq.1 < one.length by omega))) ?_
          walk_at "go"
          intro pv hpv
          refine g_gtup (SqT.of upd_same) rfl ?_
          have x8 := Ext.new (o := .tup [.int ((one.getD qq.2 0 : Nat) : Int), .int ((one.getD qq.1 0 : Nat) : Int)]) hpv
          have s8 := s7.ext x8
          have od8 := x8 _ _ od7
          have T8 := T7.ext x8
          have ox8 := x8 _ _ ox7
          revert s8 od8 T8 ox8
          generalize upd H7 pv (.tup [.int ((one.getD qq.2 0 : Nat) : Int), .int ((one.getD qq.1 0 : Nat) : Int)]) = H8
          intro s8 od8 T8 ox8
          walk_at "go"
          refine g_setL ox8 (ixN_nat (by rw [nv_len]; omega)) ?_
          rw [nv_set]
          walk_at "go"
          refine g_setL upd_same (ixN_nat (by rw [nv_len, List.length_set]; omega)) ?_
          rw [nv_set]
          walk_at "go"
          have s9 : St2 pd pl H4 (upd (upd H8 px (.lst (nv (one.set qq.1 (one.getD qq.2 0))))) px (.lst (nv (swp2 one qq)))) := (s8.mut nx4).mut nx4
          have od9 : upd (upd H8 px (.lst (nv (one.set qq.1 (one.getD qq.2 0))))) px (.lst (nv (swp2 one qq))) pd = some (.dT (enc S.1)) := by rw [upd_ne (Ne.symm nxd), upd_ne (Ne.symm nxd)]; exact od8
          have ox9 : upd (upd H8 px (.lst (nv (one.set qq.1 (one.getD qq.2 0))))) px (.lst (nv (swp2 one qq))) px = some (.lst (nv (swp2 one qq))) := upd_same
          have T9 : Tups (upd (upd H8 px (.lst (nv (one.set qq.1 (one.getD qq.2 0))))) px (.lst (nv (swp2 one qq)))) pl S.2 := by
            obtain ⟨as, h1, h2, h3⟩ := T8
            refine ⟨as, by rw [upd_ne (Ne.symm nxl), upd_ne (Ne.symm nxl)]; exact h1, h2, fun a b h => ?_⟩
            obtain ⟨c, c1, c2⟩ := h3 a b h
            have nc : c ≠ px := fun z => by rw [z, ox8] at c2; cases c2
            exact ⟨c, c1, by rw [upd_ne nc, upd_ne nc]; exact c2⟩
          revert s9 od9 ox9 T9
          rw [show swp2 one qq = (one.set qq.1 (one.getD qq.2 0)).set qq.2 (one.getD qq.1 0) from rfl]
          generalize (one.set qq.1 (one.getD qq.2 0)).set qq.2 (one.getD qq.1 0) = o
          generalize upd (upd H8 px (.lst (nv (one.set qq.1 (one.getD qq.2 0))))) px (.lst (nv o)) = H9
          intro s9 od9 ox9 T9
          refine g_dnotin ?_
          walk_at "go"
          refine ⟨px, _, rfl, .inl ⟨SqL.of ox9, fun pa hpa => ?_⟩⟩
          have xa := Ext.new (o := .tup (nv o)) hpa
          have sa := s9.ext xa
          have oda := xa _ _ od9
          have oxa := xa _ _ ox9
          have Ta := T9.ext xa
          have oa : upd H9 pa (.tup (nv o)) pa = some (.tup ((tk o).map kV)) := by rw [upd_same, tk_nv]
          revert sa oda oxa Ta oa
          generalize upd H9 pa (.tup (nv o)) = Ha
          intro sa oda oxa Ta oa
          walk_at "go"
          refine ⟨pd, _, rfl, DGet.t oda oa, ?_⟩
          rw [enc_has]
          refine ⟨_, rfl, ?_⟩
          unfold bfs1
          cases hk : hasK S.1 o with
          | true =>
            rw [show (!true) = false from rfl, if_neg Bool.false_ne_true, if_pos rfl]
            exact ⟨_, _, _, rfl, sa, oda, Ta⟩
          | false =>
            rw [show (!false) = true from rfl, if_pos rfl, if_neg Bool.false_ne_true]
            walk_at "go"
            refine ⟨px, _, rfl, .inl ⟨SqL.of oxa, fun pb2 hpb => ?_⟩⟩
            have xb := Ext.new (o := .tup (nv o)) hpb
            have sb := sa.ext xb
            have odb := xb _ _ oda
            have oxb := xb _ _ oxa
            have Tb := Ta.ext xb
            have ob : upd Ha pb2 (.tup (nv o)) pb2 = some (.tup ((tk o).map kV)) := by rw [upd_same, tk_nv]
            revert sb odb oxb Tb ob
            generalize upd Ha pb2 (.tup (nv o)) = Hb
            intro sb odb oxb Tb ob
            walk_at "go"
            refine ⟨pd, _, rfl, DPut.t odb ob (by rw [enc_len]; omega), ?_⟩
            rw [enc_put hk]
            have sc := sb.putA (o := .dT (enc (S.1 ++ [(o, k + 1)])))
            have odc : upd Hb pd (.dT (enc (S.1 ++ [(o, k + 1)]))) pd = _ := upd_same
            have oxc : upd Hb pd (.dT (enc (S.1 ++ [(o, k + 1)]))) px = some (.lst (nv o)) := by rw [upd_ne nxd]; exact oxb
            have Tc : Tups (upd Hb pd (.dT (enc (S.1 ++ [(o, k + 1)])))) pl S.2 := by
              obtain ⟨as, h1, h2, h3⟩ := Tb
              refine ⟨as, by rw [upd_ne (Ne.symm ndl)]; exact h1, h2, fun a b h => ?_⟩
              obtain ⟨c, c1, c2⟩ := h3 a b h
              have nc : c ≠ pd := fun z => by rw [z, odb] at c2; cases c2
              exact ⟨c, c1, by rw [upd_ne nc]; exact c2⟩
            revert sc odc oxc Tc
            generalize upd Hb pd (.dT (enc (S.1 ++ [(o, k + 1)]))) = Hc
            intro sc odc oxc Tc
            walk_at "go"
            obtain ⟨zc, hzc, lzc, _⟩ := Tc.at
            refine ⟨_, rfl, .inl ⟨rfl, _, SqL.of hzc⟩, ?_⟩
            walk_at "go"
            refine ⟨px, _, rfl, .inl ⟨SqL.of oxc, fun pc2 hpc => ?_⟩⟩
            have xc2 := Ext.new (o := .tup (nv o)) hpc
            have sd := sc.ext xc2
            have odd := xc2 _ _ odc
            have Td := Tc.ext xc2
            have oc : upd Hc pc2 (.tup (nv o)) pc2 = some (.tup (nv o)) := upd_same
            have hzd := xc2 _ _ hzc
            revert sd odd Td oc hzd
            generalize upd Hc pc2 (.tup (nv o)) = Hd
            intro sd odd Td oc hzd
            walk_at "go"
            refine ⟨pl, _, _, rfl, rfl, hzd, by omega, ?_⟩
            walk_at "go"
            refine ⟨_, _, _, rfl, sd.putB, by rw [upd_ne ndl]; exact odd, Td.push hzd oc⟩
        rintro σ' H6 ⟨v7, v8, v9, rfl, s6, od6, T6⟩
        rw [ly, bfsM_row eone] at od6 T6
        exact ⟨_, _, _, _, rfl, s6, od6, T6⟩
      rintro σ' H5 ⟨v6, v7, v8, v9, rfl, s5, od5, T5⟩
      rw [lx4, bfsM_all] at od5 T5
      walk_at "go"
      exact ⟨pl, _, _, _, _, rfl, St2.out e4 s5 hd hpl0, od5, T5⟩

abbrev s_law_small_right : Stmt := top 26
abbrev N_law_small_right : List Str := ["bag", "bits", "nearest", "every", "high", "near", "far", "targets", "turn", "low"]
theorem sc_law_small_right : FnScope N_law_small_right ["bag"] (defScope s_law_small_right) := ⟨rfl, rfl, rfl, by decide +kernel, rfl, by decide +kernel, by decide +kernel⟩
theorem ok_law_small_right {P : Program} {w : World} {K : PySem.W.Frag} {mg : Str → Option Value} {base : Heap} {f CT : Addr} {fd : FuncData} (F : Fun K "_law_small_right" "_law_small_right" s_law_small_right f fd) (T : Txt K mg CT) (c_swap_count : CalO P w K mg base "swap_count" 8 (sp_swap_count K CT)) (c_neighbour_swaps : CalO P w K mg base "neighbour_swaps" 8 (sp_neighbour_swaps K CT)) (c_law_pick : Cal P w K mg base "_law_pick" 1 (sp_law_pick K)) (c_law_flips : Cal P w K mg base "_law_flips" 2 (sp_law_flips K)) (c_law_far : Cal P w K mg base "_law_far" 1 (sp_law_far K)) (tc : TurnT P w K mg base CT) : FnG P w K mg base CX0 9 f fd ["bag"] (sp_law_small_right K) := by
  refine fn_G0 F sc_law_small_right sp1_len (fun cd A outer s H vs Q E gd hr h => ?_)
  obtain ⟨a, rfl, r, n, rfl, hR, hn, q⟩ := h
  have e37 : ((2 : Nat) ^ 37) = 137438953472 := by decide
  have e38 : ((2 : Nat) ^ 38) = 274877906944 := by decide
  have e39 : ((2 : Nat) ^ 39) = 549755813888 := by decide
  have e40 : ((2 : Nat) ^ 40) = 1099511627776 := by decide
  have e1000 : 1000 < 2 ^ 1000 := many_lt
  have hsz : sizeLine = 16777216 := by decide
  refine ⟨_, (pss_cons (ps_set (i := 1) sc_law_small_right.nd rfl (.inl rfl) (pe_op op_add pe_int (pe_c c_law_pick gd hr (by decide) rfl (pa_cons (pv 0) (pa_cons pe_int pa_nil)))))
    (pss_cons (ps_setLc (i := 2) (own := [("low", 9)]) (g := gName 9) (tt := tYes) rfl sc_law_small_right.nd rfl rfl (sw_true rfl rfl rfl (by decide +kernel)) (pi_range1 rfl T.n_range (pa_cons (pe_op op_sub (pv 1) pe_int) pa_nil)) (blkOk_by (own := [("low", 9)]) (N := N_law_small_right) (sc := defScope s_law_small_right) (by decide +kernel)) (fun _ _ _ _ _ => (pg_name (i := 9) sc_law_small_right.nd rfl (.inl rfl))) (fun _ _ _ _ _ => pts_nil) (fun _ _ _ _ _ => (pe_tup (pa_cons (pv 9) (pa_cons (pe_op op_add (pv 9) pe_int) pa_nil)))))
    (pss_cons (ps_set (i := 3) sc_law_small_right.nd rfl (.inl rfl) (pe_lst pa_nil))
    (pss_cons (ps_for PassesOwn.never rfl (pi_range1 rfl T.n_range (pa_cons (pv 1) pa_nil)) (pg_name (i := 4) sc_law_small_right.nd rfl (.inr rfl))
    (pss_one (ps_expr (pe_bm PySem.F.plainAttrs_list PySem.F.slot_list_extend PySem.F.type_list_extend mt_extend (pv 3) (pa_cons (pe_lc (own := [("low", 9)]) (g := gName 9) (tt := tYes) rfl sc_law_small_right.nd (pi_range1 rfl T.n_range (pa_cons (pv 4) pa_nil)) (blkOk_by (own := [("low", 9)]) (N := N_law_small_right) (sc := defScope s_law_small_right) (by decide +kernel)) (fun _ _ _ _ _ => (pg_name (i := 9) sc_law_small_right.nd rfl (.inl rfl))) (fun _ _ _ _ _ => pts_nil) (fun _ _ _ _ _ => (pe_tup (pa_cons (pv 9) (pa_cons (pv 4) pa_nil))))) pa_nil)))))
    (pss_cons (ps_par (i := 5) (j := 6) rfl sc_law_small_right.nd rfl rfl (by decide) rfl rfl (pa_cons (pe_c c_law_far gd hr (by decide) rfl (pa_cons (pv 1) (pa_cons (pv 2) pa_nil))) (pa_cons (pe_c c_law_far gd hr (by decide) rfl (pa_cons (pv 1) (pa_cons (pv 3) pa_nil))) pa_nil)) rfl)
    (pss_cons (ps_lock (ps_for PassesOwn.never rfl (pi_keys (pv 5)) (pg_name (i := 7) sc_law_small_right.nd rfl (.inl rfl))
    (pss_cons (ps_set (i := 8) sc_law_small_right.nd rfl (.inl rfl) (pe_Turn tc hr (by decide) rfl (pa_cons (pe_callTy (call_listK (K0 := K)) rfl T.n_list bt_list (pa_cons (pv 7) pa_nil)) (pa_cons (pe_c c_law_flips gd hr (by decide) rfl (pa_cons (pv 0) (pa_cons (pv 1) pa_nil))) pa_nil))))
    (pss_one (ps_if (pt_cmpR op_ne (pe_callB (CallR.or SkE.call_repr_int (call_reprK (K0 := K) gd hr)) rfl T.n_repr bt_repr (pa_cons (pe_lst (pa_cons (pe_o c_swap_count hr (by decide) rfl (pa_cons (pv 8) pa_nil)) (pa_cons (pe_o c_neighbour_swaps hr (by decide) rfl (pa_cons (pv 8) pa_nil)) pa_nil))) pa_nil)) (pe_callB (CallR.or SkE.call_repr_int (call_reprK (K0 := K) gd hr)) rfl T.n_repr bt_repr (pa_cons (pe_lst (pa_cons (pe_dget (hu_of hr) (pv 6) (pv 7) (fun _ _ => rfl)) (pa_cons (pe_dget (hu_of hr) (pv 5) (pv 7) (fun _ _ => rfl)) pa_nil))) pa_nil)) (nomark _)) (pss_one (ps_ret pe_bl)) pss_nil)))))
    (pss_one (ps_ret (pe_cmpR op_eq (pe_callB call_len_dT rfl T.n_len bt_len (pa_cons (pv 5) pa_nil)) (pe_callB call_len_dT rfl T.n_len bt_len (pa_cons (pv 6) pa_nil)) (nomark _)))))))))), ?_⟩
  walk_at "go"
  refine ⟨r, 5, n, rfl, rfl, hR, by omega, by omega, by omega, fun d H0 hd s0 R0 => ?_⟩
  walk_at "go"
  obtain ⟨bits, eb, hb1, hb5⟩ : ∃ bits : Nat, (1 : Int) + (d : Int) = (bits : Int) ∧ 1 ≤ bits ∧ bits ≤ 5 := ⟨1 + d, by omega, by omega, by omega⟩
  rw [eb]
  walk_at "go"
  rw [show (bits : Int) - 1 = ((bits - 1 : Nat) : Int) by omega]
  refine u_lcr (n := bits - 1) (by omega) (fun D i G => Ext H0 G ∧ Prs G D ((List.range i).map fun i => (i, i + 1))) (fun D hD => ⟨Ext.new hD, Prs.nil upd_same⟩) (fun D i G hD hi h => ?_) (fun pn G1 hpn h => ?_)
  · obtain ⟨e1, P1⟩ := h
    walk_at "go"
    intro pa hpa
    obtain ⟨xs, hx, lx, _⟩ := (P1.ext (Ext.new (o := .tup [.int (i : Int), .int ((i : Int) + 1)]) hpa)).at
    rw [List.length_map, List.length_range] at lx
    refine ⟨xs, hx, by omega, (e1.new' hpa).mut hD, ?_⟩
    rw [nearP_succ bits]
    exact Prs.push (q := (i, i + 1)) (P1.ext (Ext.new hpa)) hx upd_same
  obtain ⟨e1, P1⟩ := h
  walk_at "go"
  intro pv hpv
  have nnv : pn ≠ pv := by
    obtain ⟨xs, hx, _, _⟩ := P1.at
    exact ne_of_none hx hpv
  have hpv0 : H0 pv = none := e1.free hpv
  have x2 := Ext.new (o := .lst []) hpv
  have P2 := P1.ext x2
  have e2 := e1.trans x2
  have ov2 : upd G1 pv (.lst []) pv = some (.lst []) := upd_same
  revert P2 e2 ov2
  generalize upd G1 pv (.lst []) = G2
  intro P2 e2 ov2
  walk_at "go"
  refine u_range (n := bits) (by omega) (fun j σ' H' => ∃ (v4 v9 : Option V), σ' = [some (.ref r), some (.int (bits : Int)), some (.ref pn), some (.ref pv), v4, none, none, none, none, v9] ∧ Stp pv G2 H' ∧ Prs H' pv (everyP j)) ?_ ?_ ?_
  · exact ⟨_, _, rfl, Stp.refl _ _, Prs.nil ov2⟩
  · rintro j σ' H3 hj ⟨v4, v9, rfl, s3, P3⟩
    obtain ⟨xs, hx, lx, _⟩ := P3.at
    have l10 := everyP_most (Nat.le_of_lt hj) hb5
    walk_at "go"
    refine ⟨_, rfl, .inl ⟨rfl, _, SqL.of hx⟩, ?_⟩
    walk_at "go"
    refine u_lcr (n := j) (by omega) (fun D i G => Ext H3 G ∧ Prs G D ((List.range i).map fun l => (l, j))) (fun D hD => ⟨Ext.new hD, Prs.nil upd_same⟩) (fun D i G hD hi h => ?_) (fun D G hD h => ?_)
    · obtain ⟨e4, P4⟩ := h
      walk_at "go"
      intro pa hpa
      obtain ⟨zs, hz, lz, _⟩ := (P4.ext (Ext.new (o := .tup [.int (i : Int), .int (j : Int)]) hpa)).at
      rw [List.length_map, List.length_range] at lz
      refine ⟨zs, hz, by omega, (e4.new' hpa).mut hD, ?_⟩
      have e : ((List.range (i + 1)).map fun l => (l, j)) = ((List.range i).map fun l => (l, j)) ++ [(i, j)] := by
        rw [List.range_succ, List.map_append]
        rfl
      rw [e]
      exact Prs.push (q := (i, j)) (P4.ext (Ext.new hpa)) hz upd_same
    obtain ⟨e4, P4⟩ := h
    obtain ⟨zs, hz, lz, _⟩ := P4.at
    rw [List.length_map, List.length_range] at lz
    walk_at "go"
    refine ⟨pv, D, _, _, rfl, rfl, e4 _ _ hx, hz, by omega, ?_⟩
    walk_at "go"
    refine ⟨_, _, rfl, (s3.ext e4).trans Stp.put, ?_⟩
    rw [everyP_succ]
    exact Prs.cat (P3.ext e4) P4 (e4 _ _ hx) hz
  rintro σ' H3 ⟨v4, v9, rfl, s3, P3⟩
  have P2' := P2.stp s3 ov2 nnv
  have E3 : Ext H0 H3 := Stp.out e2 s3 hpv0
  obtain ⟨A, B, ra, rb, lab, la, known⟩ := far_known hb1 hb5
  walk_at "go"
  refine ⟨bits, pn, _, A, rfl, rfl, P2', hb1, hb5, nearP_ok, ra, la, fun da H4 e4 hda oda => ?_⟩
  walk_at "go"
  refine ⟨bits, pv, _, B, rfl, rfl, P3.ext e4, hb1, hb5, everyP_ok, rb, by omega, fun db H5 e5 hdb odb => ?_⟩
  have nab : da ≠ db := ne_of_none oda hdb
  have oda5 := e5 _ _ oda
  have E5 : Ext H0 H5 := (E3.trans e4).trans e5
  have S5 : Stp r H H5 := s0.ext E5
  have R5 := R0.ext E5
  have nda : da ≠ r := (R0.ext E3).ne hda
  have ndb : db ≠ r := ((R0.ext E3).ext e4).ne hdb
  have hda0 : H0 da = none := E3.free hda
  have hdb0 : H0 db = none := (E3.trans e4).free hdb
  walk_at "go"
  refine ⟨da, _, oda5, trivial, fun oo => ?_⟩
  have odaL : upd H5 da (.frz oo (.dT (enc A))) da = some (.frz oo (.dT (enc A))) := upd_same
  have odbL : upd H5 da (.frz oo (.dT (enc A))) db = some (.dT (enc B)) := by rw [upd_ne (Ne.symm nab)]; exact odb
  have EL : Ext H0 (upd H5 da (.frz oo (.dT (enc A)))) := E5.mut hda0
  have RL := R0.ext EL
  revert odaL odbL EL RL
  generalize upd H5 da (.frz oo (.dT (enc A))) = HL
  intro odaL odbL EL RL
  refine g_for ?_
  refine g_ikeys ?_
  walk_at "go"
  refine u_forT (od := oo) (F := A) odaL (fun i σ' H' => ∃ (v4 v7 v8 v9 : Option V), σ' = [some (.ref r), some (.int (bits : Int)), some (.ref pn), some (.ref pv), v4, some (.ref da), some (.ref db), v7, v8, v9] ∧ Stp r HL H' ∧ Bag H' r (n + 1 + 10 * i)) ?_ ?_ ?_ ?_
  · exact ⟨_, _, _, _, rfl, Stp.refl _ _, RL⟩
  · rintro i σ' H' _ ⟨v4, v7, v8, v9, rfl, s6, R6⟩
    exact s6 _ _ odaL nda
  · rintro i kv b σ' H6 hkv ⟨v4, v7, v8, v9, rfl, s6, R6⟩ hb
    have km := List.mem_of_getElem? hkv
    have il := (List.getElem?_eq_some_iff.mp hkv).1
    obtain ⟨pm, ns, u, vb, ub, st⟩ := known kv km
    obtain ⟨ok, len⟩ := Ts.of_perm pm hb1 (by omega)
    have va := enc_at (f := nsw) (fun kv hk => (known kv hk).2.1) km
    obtain ⟨ts, vv⟩ := kv
    have len' : ts.length = bits := len
    have hb' : H6 b = some (.tup (nv ts)) := hb
    have nb : b ≠ r := fun z => by
      obtain ⟨bs0, h0⟩ := R6.at
      rw [z, h0] at hb'
      cases hb'
    walk_at "go"
    refine ⟨b, _, rfl, .inr (SqT.of hb'), fun pl hpl => ?_⟩
    have x7 := Ext.new (o := .lst (nv ts)) hpl
    have R7 := R6.ext x7
    have npl : pl ≠ r := R6.ne hpl
    have o7 : upd H6 pl (.lst (nv ts)) pl = some (.lst (nv ts)) := upd_same
    have s7 := s6.ext x7
    have hb7 := x7 _ _ hb'
    revert R7 o7 s7 hb7
    generalize upd H6 pl (.lst (nv ts)) = H7
    intro R7 o7 s7 hb7
    walk_at "go"
    refine ⟨r, bits, _, rfl, rfl, R7, by omega, hb1, by omega, fun fl H8 s8 R8 hf => ?_⟩
    have s9 := s7.trans s8
    have hb8 := s8 _ _ hb7 nb
    walk_at "go"
    refine ⟨pl, ts, fl, rfl, rfl, s8 _ _ o7 npl, ok, by rw [len']; exact hf, fun x xl H9 e9 hx hxl at9 => ?_⟩
    walk_at "go"
    refine ⟨ts, fl, ⟨x, xl, rfl, at9⟩, fun cs Ha ea good ncs => ?_⟩
    have cu : (ts.length : Int) - (cs.length : Int) = (u : Int) := by
      have e1 := cyc_many ok good
      rw [len'] at e1
      have e2 : 2 ^ (bits - u) = 2 ^ cs.length := st.trans e1
      have e3 := (Nat.pow_right_inj (show 1 < 2 by decide)).mp e2
      omega
    rw [cu]
    walk_at "go"
    refine ⟨ts, fl, ⟨x, xl, rfl, at9.ext ea⟩, fun Hb eb => ?_⟩
    walk_at "go"
    intro p1 hp1
    have E9 := (e9.trans ea).trans eb
    have xc := Ext.new (o := .lst [.int (u : Int), .int ((nsw ts : Nat) : Int)]) hp1
    have oc : upd Hb p1 (.lst [.int (u : Int), .int ((nsw ts : Nat) : Int)]) p1 = some (.lst (nv [u, nsw ts])) := upd_same
    have sc := s9.ext (E9.trans xc)
    have Rc := R8.ext (E9.trans xc)
    have hbc := (E9.trans xc) _ _ hb8
    revert oc sc Rc hbc
    generalize upd Hb p1 (.lst [.int (u : Int), .int ((nsw ts : Nat) : Int)]) = Hc
    intro oc sc Rc hbc
    have small : ∀ m ∈ [u, nsw ts], m < 2 ^ 1900 := fun m hm => by
      have k : ∀ m : Nat, m < 2 ^ 20 → m < 2 ^ 1900 := fun m h => Nat.lt_of_lt_of_le h (Nat.pow_le_pow_right (by decide) (by decide))
      rcases List.mem_cons.mp hm with rfl | hm
      · exact k _ (Nat.lt_of_le_of_lt ub (by omega))
      · rw [List.mem_singleton.mp hm]
        refine k _ ?_
        have n1 := nsw_le ok
        rw [show ts.length = bits from len'] at n1
        have n2 : bits * bits ≤ 5 * 5 := Nat.mul_le_mul hb5 hb5
        exact Nat.lt_of_le_of_lt (Nat.le_trans n1 n2) (by decide)
    walk_at "go"
    refine .inr (repr_nd oc small (by show 2 ≤ 8000; decide) ?_)
    walk_at "go"
    refine g_dget ?_
    walk_at "go"
    refine ⟨db, _, rfl, dget_row (.inl (sc _ _ odbL ndb)) hbc vb, ?_⟩
    refine g_cons ?_
    refine g_dget ?_
    walk_at "go"
    refine ⟨da, _, rfl, dget_row (.inr ⟨oo, sc _ _ odaL nda⟩) hbc va, ?_⟩
    walk_at "go"
    intro p2 hp2
    have xd := Ext.new (o := .lst [.int (u : Int), .int ((nsw ts : Nat) : Int)]) hp2
    have od : upd Hc p2 (.lst [.int (u : Int), .int ((nsw ts : Nat) : Int)]) p2 = some (.lst (nv [u, nsw ts])) := upd_same
    have sd := sc.ext xd
    have Rd := Rc.ext xd
    walk_at "go"
    refine .inr (repr_nd od small (by show 2 ≤ 8000; decide) ?_)
    walk_at "go"
    rw [decide_eq_true rfl]
    refine iteF ?_
    exact ⟨_, _, _, _, rfl, sd, Rd.mono (by omega)⟩
  rintro σ' H6 ⟨v4, v7, v8, v9, rfl, s6, R6⟩
  refine ⟨s6 _ _ odaL nda, ?_⟩
  walk_at "go"
  refine ⟨da, _, rfl, upd_same, ?_⟩
  rw [enc_len]
  walk_at "go"
  refine ⟨db, _, rfl, by rw [upd_ne (Ne.symm nab)]; exact s6 _ _ odbL ndb, ?_⟩
  rw [enc_len, lab]
  walk_at "go"
  rw [decide_eq_true rfl]
  refine q _ (fun c o hc nc => ?_) ?_
  · have h0 := s0 _ _ hc nc
    rw [upd_ne (ne_of_none h0 hda0)]
    exact s6 _ _ (EL _ _ h0) nc
  · exact (R6.mut nda).mono (by omega)

abbrev s_law_great_right : Stmt := top 27
abbrev N_law_great_right : List Str := ["bag", "targets", "flips", "bits", "seen", "cycles", "bit", "at", "pairs", "other"]
theorem sc_law_great_right : FnScope N_law_great_right ["bag"] (defScope s_law_great_right) := ⟨rfl, rfl, rfl, by decide +kernel, rfl, by decide +kernel, by decide +kernel⟩
theorem ok_law_great_right {P : Program} {w : World} {K : PySem.W.Frag} {mg : Str → Option Value} {base : Heap} {f CT : Addr} {fd : FuncData} (F : Fun K "_law_great_right" "_law_great_right" s_law_great_right f fd) (T : Txt K mg CT) (c_swap_count : CalO P w K mg base "swap_count" 8 (sp_swap_count K CT)) (c_neighbour_swaps : CalO P w K mg base "neighbour_swaps" 8 (sp_neighbour_swaps K CT)) (c_law_great : Cal P w K mg base "_law_great" 3 (sp_law_great K)) (tc : TurnT P w K mg base CT) : FnG P w K mg base CX0 9 f fd ["bag"] (sp_law_great_right K) := by
  refine fn_G0 F sc_law_great_right sp1_len (fun cd A outer s H vs Q E gd hr h => ?_)
  obtain ⟨a, rfl, r, n, rfl, hR, hn, q⟩ := h
  have hsz : sizeLine = 16777216 := by decide
  refine ⟨_, (pss_cons (ps_asg (pe_c c_law_great gd hr (by decide) rfl (pa_cons (pv 0) pa_nil)) (pg_tup rfl (pgs_cons (pg_name (i := 1) sc_law_great_right.nd rfl (.inr rfl)) (pgs_cons (pg_name (i := 2) sc_law_great_right.nd rfl (.inl rfl)) pgs_nil))))
    (pss_cons (ps_par3 (i := 3) (j := 4) (l := 5) rfl sc_law_great_right.nd rfl rfl rfl (by decide) (by decide) (by decide) rfl rfl rfl (pa_cons (pe_callB (call_lenK (K0 := K)) rfl T.n_len bt_len (pa_cons (pv 1) pa_nil)) (pa_cons pe_dnewK (pa_cons pe_int pa_nil))) rfl)
    (pss_cons (ps_for PassesOwn.never rfl (pi_range1 rfl T.n_range (pa_cons (pv 3) pa_nil)) (pg_name (i := 6) sc_law_great_right.nd rfl (.inr rfl))
    (pss_cons (ps_par (i := 5) (j := 7) rfl sc_law_great_right.nd rfl rfl (by decide) rfl rfl (pa_cons (pe_op op_add (pv 5) (pe_callTy call_int1 rfl T.n_int bt_int (pa_cons (pe_cmp (pc_dnotin (hu_of hr) (pv 6) (pv 4)) rfl) pa_nil))) (pa_cons (pv 6) pa_nil)) rfl)
    (pss_one (ps_while PassesOwn.never (pt_cmp (pc_dnotin (hu_of hr) (pv 7) (pv 4))) (pss_cons (ps_dput (hu_of hr) (pv 4) (pv 7) pe_bl rfl)
    (pss_one (ps_set (i := 7) sc_law_great_right.nd rfl (.inl rfl) (pe_ix (ix_listK (K0 := K)) (pv 1) (pv 7) (fun _ _ => rfl)))))))))
    (pss_cons (ps_set (i := 8) sc_law_great_right.nd rfl (.inl rfl) pe_int)
    (pss_cons (ps_for PassesOwn.never rfl (pi_range1 rfl T.n_range (pa_cons (pv 3) pa_nil)) (pg_name (i := 6) sc_law_great_right.nd rfl (.inr rfl))
    (pss_one (ps_set (i := 8) sc_law_great_right.nd rfl (.inl rfl) (pe_op op_add (pv 8) (pe_callB (call_lenK (K0 := K)) rfl T.n_len bt_len (pa_cons (pe_lc (own := [("other", 9)]) (g := gName 9) rfl sc_law_great_right.nd (pi_range1 rfl T.n_range (pa_cons (pv 6) pa_nil)) (blkOk_by (own := [("other", 9)]) (N := N_law_great_right) (sc := defScope s_law_great_right) (by decide +kernel)) (fun _ _ _ _ _ => (pg_name (i := 9) sc_law_great_right.nd rfl (.inl rfl))) (fun _ _ _ _ _ => pts_one (pt_cmpR op_gt (pe_ix (ix_listK (K0 := K)) (pv 1) (pv 9) (fun _ _ => rfl)) (pe_ix (ix_listK (K0 := K)) (pv 1) (pv 6) (fun _ _ => rfl)) (nomark _))) (fun _ _ _ _ _ => pe_int)) pa_nil))))))
    (pss_one (ps_ret (pe_cmpR (op_eqDK (K0 := K) hr) (pe_lst (pa_cons (pe_o c_swap_count hr (by decide) rfl (pa_cons (pe_Turn tc hr (by decide) rfl (pa_cons (pv 1) (pa_cons (pv 2) pa_nil))) pa_nil)) (pa_cons (pe_o c_neighbour_swaps hr (by decide) rfl (pa_cons (pe_Turn tc hr (by decide) rfl (pa_cons (pv 1) (pa_cons (pv 2) pa_nil))) pa_nil)) pa_nil))) (pe_lst (pa_cons (pe_op op_sub (pv 3) (pv 5)) (pa_cons (pv 8) pa_nil))) (nomark _))))))))), ?_⟩
  walk_at "go"
  refine ⟨r, _, rfl, hR, by omega, fun p l ts fl H2 s2 R2 hp hl op ol ok hfl => ?_⟩
  have hm := ok.most
  have h1 := ok.one
  walk_at "go"
  refine g_gtup (SqT.of op) rfl ?_
  walk_at "go"
  refine g_par3 ?_
  walk_at "go"
  refine g_lenK (SqL.of ol) ?_
  rw [nv_len]
  walk_at "go"
  intro pd hpd
  have e3 := Ext.new (o := .dK []) hpd
  have od3 : upd H2 pd (.dK []) pd = some (.dK (dset ([] : List (List Nat)).flatten)) := upd_same
  have ol3 := e3 _ _ ol
  revert e3 od3 ol3
  generalize upd H2 pd (.dK []) = H3
  intro e3 od3 ol3
  walk_at "go"
  refine ⟨_, _, _, rfl, ?_⟩
  walk_at "go"
  refine u_range (n := ts.length) (by omega) (fun i σ' H' => ∃ (v6 v7 : Option V) (cs : List (List Nat)) (vs : List Bool), σ' = [some (.ref r), some (.ref l), some (.int (fl : Int)), some (.int (ts.length : Int)), some (.ref pd), some (.int (cs.length : Int)), v6, v7, none, none] ∧ Ext H2 H' ∧ H' pd = some (.dK (dset cs.flatten)) ∧ Cov ts cs vs i) ?_ ?_ ?_
  · exact ⟨_, _, [], _, rfl, e3, od3, Cov.start ts⟩
  · rintro i σ' H4 hi ⟨v6, v7, cs, vs0, rfl, e4, od4, cov⟩
    have sn : ∀ e : Nat, e ∈ cs.flatten ↔ vs0[e]? = some true := fun e => (cov_seen cov).symm
    have fl0 := cov_flat cov
    walk_at "go"
    refine g_dnotin ?_
    walk_at "go"
    refine ⟨pd, _, rfl, DGet.k (k := Sum.inl (i : Int)) od4, ?_⟩
    rw [dset_has]
    walk_at "go"
    refine g_while (fun m σ2 H' => ∃ (c : List Nat) (vs : List Bool) (b : Nat), m = ts.length - c.length ∧ σ2 = [some (.ref r), some (.ref l), some (.int (fl : Int)), some (.int (ts.length : Int)), some (.ref pd), some (.int ((cs.length : Int) + (if (!decide (i ∈ cs.flatten)) = true then 1 else 0))), some (.int (i : Int)), some (.int (b : Int)), none, none] ∧ Ext H2 H' ∧ H' pd = some (.dK (dset (cs.flatten ++ c))) ∧ Mid ts cs vs0 i c vs b ∧ (c = [] → b = i ∧ vs = vs0) ∧ (c ≠ [] → vs0[i]? = some false)) _ ⟨[], vs0, i, rfl, rfl, e4, by rw [List.append_nil]; exact od4, .start cov hi, fun _ => ⟨rfl, rfl⟩, fun h => absurd rfl h⟩ ?_
    rintro m σ2 H5 ⟨c, vs, b, rfl, rfl, e5, od5, mid, c0, c1⟩
    obtain ⟨k, hk⟩ := mid.at
    have bk : decide (b ∈ cs.flatten ++ c) = k := by
      have := mid.iff_ b
      rw [hk, ← sn b, ← List.mem_append] at this
      cases k with
      | true => exact decide_eq_true (this.mp rfl)
      | false => exact decide_eq_false fun z => by have := this.mpr z; cases this
    walk_at "go"
    refine g_dnotin ?_
    walk_at "go"
    refine ⟨pd, _, rfl, DGet.k (k := Sum.inl (b : Int)) od5, ?_⟩
    rw [dset_has, bk]
    refine ⟨_, rfl, ?_⟩
    cases k with
    | false =>
      rw [show (!false) = true from rfl, if_pos rfl]
      have nm := mid.next ok hk
      have fw := nm.few
      have few := mid.few
      rw [List.length_append, List.length_singleton] at fw
      refine ⟨fun σ3 H3 => σ3 = [some (.ref r), some (.ref l), some (.int (fl : Int)), some (.int (ts.length : Int)), some (.ref pd), some (.int ((cs.length : Int) + (if (!decide (i ∈ cs.flatten)) = true then 1 else 0))), some (.int (i : Int)), some (.int ((ts.getD b 0 : Nat) : Int)), none, none] ∧ Ext H2 H3 ∧ H3 pd = some (.dK (dset (cs.flatten ++ (c ++ [b])))), ?_, ?_⟩
      · rintro σ3 H3 ⟨rfl, e6, od6⟩
        refine ⟨_, by rw [List.length_append, List.length_singleton]; omega, c ++ [b], _, _, rfl, rfl, e6, od6, nm, fun z => absurd z (by simp), fun _ => ?_⟩
        by_cases h : c = []
        · obtain ⟨z1, z2⟩ := c0 h
          rw [← z2, ← z1]
          exact hk
        · exact c1 h
      · walk_at "go"
        have dl := dset_len (cs.flatten ++ c)
        rw [List.length_append] at dl
        refine ⟨pd, _, rfl, DPut.k (k := Sum.inl (b : Int)) od5 (by omega), ?_⟩
        walk_at "go"
        refine g_ixL (SqL.of (by rw [upd_ne (ne_of_none ol hpd)]; exact e5 _ _ ol)) (atI_nv (ok.getD mid.pth.end_)) ?_
        walk_at "go"
        exact ⟨rfl, e5.mut hpd, by rw [upd_same, ← List.append_assoc, dset_snoc]⟩
    | true =>
      rw [show (!true) = false from rfl, if_neg Bool.false_ne_true]
      rcases mid.done ok hk with ⟨rfl, cov2⟩ | ⟨ne, cov2⟩
      · obtain ⟨z1, z2⟩ := c0 rfl
        have im : i ∈ cs.flatten := (sn i).mpr (by rw [← z2, ← z1]; exact hk)
        rw [decide_eq_true im]
        rw [show (cs.length : Int) + (if (!true) = true then 1 else 0) = (cs.length : Int) from Int.add_zero _]
        rw [List.append_nil] at od5
        exact ⟨_, _, cs, vs, rfl, e5, od5, cov2⟩
      · have im : ¬ i ∈ cs.flatten := fun z => by
          have := (sn i).mp z
          rw [c1 ne] at this
          cases this
        rw [decide_eq_false im]
        rw [show (cs.length : Int) + (if (!false) = true then 1 else 0) = (((cs ++ [c]).length : Nat) : Int) by rw [List.length_append]; rfl]
        have fe : (cs ++ [c]).flatten = cs.flatten ++ c := by
          rw [List.flatten_append]
          show cs.flatten ++ (c ++ []) = _
          rw [List.append_nil]
        rw [← fe] at od5
        exact ⟨_, _, cs ++ [c], vs, rfl, e5, od5, cov2⟩
  rintro σ' H4 ⟨v6, v7, cs, vs, rfl, e4, od4, cov⟩
  have good : Good ts cs := ⟨fun c hc => ⟨cov.cyc c hc, cov.short c hc⟩, fun b hb => cov.sub b (cov.upto b hb), cov.perm⟩
  walk_at "go"
  have ol4 := e4 _ _ ol
  refine u_range (n := ts.length) (by omega) (fun i σ' H' => ∃ (v6 : Option V), σ' = [some (.ref r), some (.ref l), some (.int (fl : Int)), some (.int (ts.length : Int)), some (.ref pd), some (.int (cs.length : Int)), v6, v7, some (.int ((sm i fun b => sm b fun o => cc (tb ts b < tb ts o) : Nat) : Int)), none] ∧ Ext H4 H') ?_ ?_ ?_
  · exact ⟨_, rfl, Ext.refl _⟩
  · rintro i σ' H5 hi ⟨v6, rfl, e5⟩
    walk_at "go"
    have ol5 := e5 _ _ ol4
    refine u_lcrIf (n := i) (by omega) (fun D j G => Ext H5 G ∧ G D = some (.lst (nv (List.replicate (sm j fun o => cc (tb ts i < tb ts o)) 1)))) (fun D hD => ⟨Ext.new hD, upd_same⟩) (fun D j G hD hj h => ?_) (fun D G hD h => ?_)
    · obtain ⟨e6, o6⟩ := h
      have sl : (sm j fun o => cc (tb ts i < tb ts o)) ≤ j := sm_le_n fun o => cc_le _
      walk_at "go"
      refine g_ixL (SqL.of (e6 _ _ ol5)) (atI_nv (ok.getD (show j < ts.length by omega))) ?_
      walk_at "go"
      refine g_ixL (SqL.of (e6 _ _ ol5)) (atI_nv (ok.getD hi)) ?_
      walk_at "go"
      have st : (sm (j + 1) fun o => cc (tb ts i < tb ts o)) = (sm j fun o => cc (tb ts i < tb ts o)) + cc (tb ts i < tb ts j) := rfl
      by_cases c : tb ts i < tb ts j
      · have c' : ts.getD i 0 < ts.getD j 0 := c
        rw [decide_eq_true (show ((ts.getD i 0 : Nat) : Int) < ((ts.getD j 0 : Nat) : Int) by omega), if_pos rfl]
        walk_at "go"
        refine ⟨_, o6, by rw [nv_len, List.length_replicate]; omega, e6.mut hD, ?_⟩
        rw [upd_same, st, cc_yes c, List.replicate_succ', nv_append]
        rfl
      · have c' : ¬ ts.getD i 0 < ts.getD j 0 := c
        rw [decide_eq_false (show ¬ ((ts.getD i 0 : Nat) : Int) < ((ts.getD j 0 : Nat) : Int) by omega), if_neg Bool.false_ne_true]
        exact ⟨e6, by rw [st, cc_no c]; exact o6⟩
    obtain ⟨e6, o6⟩ := h
    walk_at "go"
    refine g_lenK (SqL.of o6) ?_
    rw [nv_len, List.length_replicate]
    walk_at "go"
    exact ⟨_, rfl, e5.trans e6⟩
  rintro σ' H5 ⟨v6, rfl, e5⟩
  rw [← nsw_inv ok]
  walk_at "go"
  have E5 := e4.trans e5
  refine ⟨l, ts, fl, rfl, rfl, e5 _ _ ol4, ok, hfl, fun x xl H6 e6 hx hxl at6 => ?_⟩
  walk_at "go"
  refine ⟨ts, fl, ⟨x, xl, rfl, at6⟩, fun ds H7 e7 gd nds => ?_⟩
  rw [cyc_uniq ok gd good]
  have few := cov.few
  have ce : (ts.length : Int) - (cs.length : Int) = ((ts.length - cs.length : Nat) : Int) := by omega
  rw [ce]
  walk_at "go"
  have E7 := (E5.trans e6).trans e7
  refine ⟨l, ts, fl, rfl, rfl, E7 _ _ ol, ok, hfl, fun y yl H8 e8 hy hyl at8 => ?_⟩
  walk_at "go"
  refine ⟨ts, fl, ⟨y, yl, rfl, at8⟩, fun H9 e9 => ?_⟩
  walk_at "go"
  intro b1 hb1
  walk_at "go"
  rw [ce]
  intro b2 hb2
  have EZ := ((E7.trans e8).trans e9)
  refine ⟨_, _, dp_nv (l := [ts.length - cs.length, nsw ts]) ((Ext.new hb2) _ _ upd_same), dp_nv (l := [ts.length - cs.length, nsw ts]) upd_same, nd_shaped _, nd_shaped _, ?_⟩
  rw [nd_eq, decide_eq_true rfl]
  have EE := (EZ.new' (o := .lst [.int ((ts.length - cs.length : Nat) : Int), .int ((nsw ts : Nat) : Int)]) hb1).new' (o := .lst [.int ((ts.length - cs.length : Nat) : Int), .int ((nsw ts : Nat) : Int)]) hb2
  exact q _ (s2.ext EE) ((R2.ext EE).mono (by omega))

abbrev s_law : Stmt := top 28
abbrev N_law : List Str := ["script", "cell", "bag", "back"]
theorem sc_law : FnScope N_law ["script"] (defScope s_law) := ⟨rfl, rfl, rfl, by decide +kernel, rfl, by decide +kernel, by decide +kernel⟩
theorem ok_law {P : Program} {w : World} {K : PySem.W.Frag} {mg : Str → Option Value} {base : Heap} {f CT : Addr} {fd : FuncData} (F : Fun K "law" "law" s_law f fd) (T : Txt K mg CT) (c_swap_count : CalO P w K mg base "swap_count" 8 (sp_swap_count K CT)) (c_neighbour_swaps : CalO P w K mg base "neighbour_swaps" 8 (sp_neighbour_swaps K CT)) (c_law_bag : Cal P w K mg base "_law_bag" 1 (sp_law_bag K)) (c_law_small_right : Cal P w K mg base "_law_small_right" 9 (sp_law_small_right K)) (c_law_great_right : Cal P w K mg base "_law_great_right" 9 (sp_law_great_right K)) (tc : TurnT P w K mg base CT) : FnG P w K mg base CX0 10 f fd ["script"] (sp_law K) := by
  refine fn_G0 F sc_law sp1_len (fun cd A outer s H vs Q E gd hr h => ?_)
  obtain ⟨a, rfl, l, ns, rfl, hl, q⟩ := h
  have hsz : sizeLine = 16777216 := by decide
  have e37 : ((2 : Nat) ^ 37) = 137438953472 := by decide
  have e40 : ((2 : Nat) ^ 40) = 1099511627776 := by decide
  refine ⟨_, (pss_cons (ps_for PassesOwn.never rfl (pi_list (pe_op op_cat (pe_slice (sl_listK (K0 := K)) (pv 0) po_none (po_some pe_int)) (pe_lst (pa_cons pe_int pa_nil)))) (pg_name (i := 1) sc_law.nd rfl (.inl rfl))
    (pss_cons (ps_set (i := 2) sc_law.nd rfl (.inl rfl) (pe_c c_law_bag gd hr (by decide) rfl (pa_cons (pv 1) pa_nil)))
    (pss_one (ps_if (PW.pt (pw_or (pt_not (pt_val (pe_c c_law_small_right gd hr (by decide) rfl (pa_cons (pv 2) pa_nil)))) (pw_or (pt_not (pt_val (pe_c c_law_great_right gd hr (by decide) rfl (pa_cons (pv 2) pa_nil)))) (pw_or1 (pt_not (pt_val (pe_c c_law_great_right gd hr (by decide) rfl (pa_cons (pv 2) pa_nil)))))))) (pss_one (ps_ret pe_bl)) pss_nil))))
    (pss_cons (ps_set (i := 3) sc_law.nd rfl (.inl rfl) (pe_Turn tc hr (by decide) rfl (pa_cons (pe_listRg3 rfl rfl T.n_list rfl T.n_range (pa_cons pe_int (pa_cons (pe_un un_neg pe_int) (pa_cons (pe_un un_neg pe_int) pa_nil)))) (pa_cons pe_int pa_nil))))
    (pss_one (ps_ret (pe_cmpR (op_eqDK (K0 := K) hr) (pe_lst (pa_cons (pe_o c_swap_count hr (by decide) rfl (pa_cons (pv 3) pa_nil)) (pa_cons (pe_o c_neighbour_swaps hr (by decide) rfl (pa_cons (pv 3) pa_nil)) pa_nil))) (pe_lst (pa_cons pe_int (pa_cons pe_int pa_nil))) (nomark _)))))), ?_⟩
  walk_at "go"
  refine ⟨l, _, rfl, hl, fun p hp => ?_⟩
  rw [show (some (6 : Int)) = some ((6 : Nat) : Int) from rfl, cut_ints]
  walk_at "go"
  intro p2 hp2
  refine ⟨p, p2, _, _, rfl, rfl, Ext.new hp2 _ _ upd_same, upd_same, ?_, fun p3 hp3 => ?_⟩
  · rw [List.length_map, List.length_take]
    show _ + 1 ≤ _
    omega
  rw [show (ns.take 6).map V.int ++ [V.int 0] = (ns.take 6 ++ [0]).map V.int from by rw [List.map_append]; rfl]
  generalize ns.take 6 ++ [0] = ms
  have o3 : upd (upd (upd H p (.lst ((ns.take 6).map V.int))) p2 (.lst [V.int 0])) p3 (.lst (ms.map V.int)) p3 = some (.lst (ms.map V.int)) := upd_same
  revert o3
  generalize upd (upd (upd H p (.lst ((ns.take 6).map V.int))) p2 (.lst [V.int 0])) p3 (.lst (ms.map V.int)) = H3
  intro o3
  refine u_list (SqL.of o3) (fun i σ' H' => ∃ (v1 v2 : Option V), σ' = [some (.ref l), v1, v2, none] ∧ Ext H3 H') ?_ ?_ ?_ ?_
  · exact ⟨none, none, rfl, Ext.refl _⟩
  · rintro i σ' H' _ ⟨v1, v2, rfl, e⟩
    exact SqL.of (e _ _ o3)
  · rintro i v σ' H' hv ⟨v1, v2, rfl, e⟩
    rw [List.getElem?_map] at hv
    obtain ⟨c, _, rfl⟩ := Option.map_eq_some_iff.mp hv
    walk_at "go"
    intro r H1 e1 hr0 R1
    walk_at "go"
    have E1 := e.trans e1
    refine ⟨r, _, rfl, R1, by omega, fun H2 s2 R2 => ?_⟩
    walk_at "go"
    refine iteF ?_
    walk_at "go"
    refine ⟨r, _, rfl, R2, by omega, fun H3 s3 R3 => ?_⟩
    walk_at "go"
    refine iteF ?_
    walk_at "go"
    refine ⟨r, _, rfl, R3, by omega, fun H4 s4 R4 => ?_⟩
    walk_at "go"
    refine iteF ?_
    walk_at "go"
    exact ⟨_, _, rfl, Stp.out E1 ((s2.trans s3).trans s4) (e.free hr0)⟩
  · rintro σ' H' ⟨v1, v2, rfl, e⟩
    walk_at "go"
    refine g_lstRg3 ?_
    walk_at "go"
    refine ⟨99, -1, -1, 100, rfl, ⟨by decide, by decide, by decide +kernel, by decide +kernel⟩, by decide, fun p5 hp5 => ?_⟩
    rw [show rg3V 99 (-1) 100 = nv (List.range 100).reverse from rg3_down 100 (by decide)]
    walk_at "go"
    have okr : Ts (List.range 100).reverse := (Ts.of_perm (List.reverse_perm _) (by decide) (by decide)).1
    have fl5 : 5 < 2 ^ (List.range 100).reverse.length := by decide +kernel
    refine ⟨p5, (List.range 100).reverse, 5, rfl, rfl, upd_same, okr, fl5, fun x xl H1 e1 hx hxl at1 => ?_⟩
    walk_at "go"
    refine ⟨_, _, ⟨x, xl, rfl, at1⟩, fun cs H2 e2 gd nds => ?_⟩
    have lc : cs.length = 50 := (cyc_uniq okr gd good_back).trans (by decide +kernel)
    rw [lc]
    walk_at "go"
    refine ⟨_, _, ⟨x, xl, rfl, at1.ext e2⟩, fun H3 e3 => ?_⟩
    rw [nsw_back]
    walk_at "go"
    intro b1 hb1
    walk_at "go"
    intro b2 hb2
    have o1 : upd H3 b1 (.lst [.int (((List.range 100).reverse.length : Int) - ((50 : Nat) : Int)), .int ((4950 : Nat) : Int)]) b1 = some (.lst (nv [50, 4950])) := by
      rw [upd_same]
      rfl
    refine ⟨_, _, dp_nv ((Ext.new hb2) _ _ o1), dp_nv (l := [50, 4950]) upd_same, by decide +kernel, by decide +kernel, ?_⟩
    rw [nd_eq, decide_eq_true rfl]
    exact q _

theorem sub7 {K : PySem.W.Frag} {C : Addr} (h1 : PySem.W.subIn K (.type "NoneType") (.ref C) = some false) (h2 : PySem.W.subIn K (.type "int") (.ref C) = some false) (h3 : PySem.W.subIn K (.type "bool") (.ref C) = some false) (h4 : PySem.W.subIn K (.type "str") (.ref C) = some false)
    (h5 : PySem.W.subIn K (.type "list") (.ref C) = some false) (h6 : PySem.W.subIn K (.type "tuple") (.ref C) = some false) (h7 : PySem.W.subIn K (.type "dict") (.ref C) = some false) : ∀ T ∈ ["NoneType", "int", "bool", "str", "list", "tuple", "dict"], PySem.W.subIn K (.type T) (.ref C) = some false := by
  intro T hT
  rcases List.mem_cons.mp hT with rfl | hT
  · exact h1
  rcases List.mem_cons.mp hT with rfl | hT
  · exact h2
  rcases List.mem_cons.mp hT with rfl | hT
  · exact h3
  rcases List.mem_cons.mp hT with rfl | hT
  · exact h4
  rcases List.mem_cons.mp hT with rfl | hT
  · exact h5
  rcases List.mem_cons.mp hT with rfl | hT
  · exact h6
  rcases List.mem_cons.mp hT with rfl | hT
  · exact h7
  cases hT
theorem all_mk {l : PySem.W.OpenLaw} {w : World} {K : PySem.W.Frag} {h : Heap} {mg : Str → Option Value} {fa : Addr} (X : K.In h) (G : h.Ns mainGlobals mg) (hfa : mg "law" = some (.ref fa))
    {CT : Addr}
    {f_is_integer : Addr} {od_is_integer an_is_integer : Option Addr} {sl_is_integer : Array (Option Value)} {oc_is_integer kV_is_integer dc_is_integer pm_is_integer cd_is_integer ct_is_integer : Value}
    {f_is_between : Addr} {od_is_between an_is_between : Option Addr} {sl_is_between : Array (Option Value)} {oc_is_between kV_is_between dc_is_between pm_is_between cd_is_between ct_is_between : Value}
    {f_Turn_init : Addr} {od_Turn_init an_Turn_init : Option Addr} {sl_Turn_init : Array (Option Value)} {oc_Turn_init kV_Turn_init dc_Turn_init pm_Turn_init cd_Turn_init ct_Turn_init : Value}
    {f_Turn_bits : Addr} {od_Turn_bits an_Turn_bits : Option Addr} {sl_Turn_bits : Array (Option Value)} {oc_Turn_bits kV_Turn_bits dc_Turn_bits pm_Turn_bits cd_Turn_bits ct_Turn_bits : Value}
    {p_Turn_bits : Addr} {rest_Turn_bits : List Value}
    {f_Turn_targets : Addr} {od_Turn_targets an_Turn_targets : Option Addr} {sl_Turn_targets : Array (Option Value)} {oc_Turn_targets kV_Turn_targets dc_Turn_targets pm_Turn_targets cd_Turn_targets ct_Turn_targets : Value}
    {p_Turn_targets : Addr} {rest_Turn_targets : List Value}
    {f_Turn_flips : Addr} {od_Turn_flips an_Turn_flips : Option Addr} {sl_Turn_flips : Array (Option Value)} {oc_Turn_flips kV_Turn_flips dc_Turn_flips pm_Turn_flips cd_Turn_flips ct_Turn_flips : Value}
    {p_Turn_flips : Addr} {rest_Turn_flips : List Value}
    {f_Turn_eq : Addr} {od_Turn_eq an_Turn_eq : Option Addr} {sl_Turn_eq : Array (Option Value)} {oc_Turn_eq kV_Turn_eq dc_Turn_eq pm_Turn_eq cd_Turn_eq ct_Turn_eq : Value}
    {f_check_targets : Addr} {od_check_targets an_check_targets : Option Addr} {sl_check_targets : Array (Option Value)} {oc_check_targets kV_check_targets dc_check_targets pm_check_targets cd_check_targets ct_check_targets : Value}
    {f_check_turn : Addr} {od_check_turn an_check_turn : Option Addr} {sl_check_turn : Array (Option Value)} {oc_check_turn kV_check_turn dc_check_turn pm_check_turn cd_check_turn ct_check_turn : Value}
    {f_split_into_cycles : Addr} {od_split_into_cycles an_split_into_cycles : Option Addr} {sl_split_into_cycles : Array (Option Value)} {oc_split_into_cycles kV_split_into_cycles dc_split_into_cycles pm_split_into_cycles cd_split_into_cycles ct_split_into_cycles : Value}
    {f_crossings : Addr} {od_crossings an_crossings : Option Addr} {sl_crossings : Array (Option Value)} {oc_crossings kV_crossings dc_crossings pm_crossings cd_crossings ct_crossings : Value}
    {f_swap_count : Addr} {od_swap_count an_swap_count : Option Addr} {sl_swap_count : Array (Option Value)} {oc_swap_count kV_swap_count dc_swap_count pm_swap_count cd_swap_count ct_swap_count : Value}
    {f_neighbour_swaps : Addr} {od_neighbour_swaps an_neighbour_swaps : Option Addr} {sl_neighbour_swaps : Array (Option Value)} {oc_neighbour_swaps kV_neighbour_swaps dc_neighbour_swaps pm_neighbour_swaps cd_neighbour_swaps ct_neighbour_swaps : Value}
    {f_law_bag : Addr} {od_law_bag an_law_bag : Option Addr} {sl_law_bag : Array (Option Value)} {oc_law_bag kV_law_bag dc_law_bag pm_law_bag cd_law_bag ct_law_bag : Value}
    {f_law_pick : Addr} {od_law_pick an_law_pick : Option Addr} {sl_law_pick : Array (Option Value)} {oc_law_pick kV_law_pick dc_law_pick pm_law_pick cd_law_pick ct_law_pick : Value}
    {f_law_targets : Addr} {od_law_targets an_law_targets : Option Addr} {sl_law_targets : Array (Option Value)} {oc_law_targets kV_law_targets dc_law_targets pm_law_targets cd_law_targets ct_law_targets : Value}
    {f_law_flips : Addr} {od_law_flips an_law_flips : Option Addr} {sl_law_flips : Array (Option Value)} {oc_law_flips kV_law_flips dc_law_flips pm_law_flips cd_law_flips ct_law_flips : Value}
    {f_law_great : Addr} {od_law_great an_law_great : Option Addr} {sl_law_great : Array (Option Value)} {oc_law_great kV_law_great dc_law_great pm_law_great cd_law_great ct_law_great : Value}
    {f_law_far : Addr} {od_law_far an_law_far : Option Addr} {sl_law_far : Array (Option Value)} {oc_law_far kV_law_far dc_law_far pm_law_far cd_law_far ct_law_far : Value}
    {f_law_small_right : Addr} {od_law_small_right an_law_small_right : Option Addr} {sl_law_small_right : Array (Option Value)} {oc_law_small_right kV_law_small_right dc_law_small_right pm_law_small_right cd_law_small_right ct_law_small_right : Value}
    {f_law_great_right : Addr} {od_law_great_right an_law_great_right : Option Addr} {sl_law_great_right : Array (Option Value)} {oc_law_great_right kV_law_great_right dc_law_great_right pm_law_great_right cd_law_great_right ct_law_great_right : Value}
    {f_law : Addr} {od_law an_law : Option Addr} {sl_law : Array (Option Value)} {oc_law kV_law dc_law pm_law cd_law ct_law : Value}
    {t_MOST_BITS : Tok}
    (aCT : PySem.W.nsIn K mainGlobals "Turn" = some (some (.ref CT)))
    (cpg : PySem.W.plainGet K CT Str.empty = true)
    (chd : PySem.W.hasDictIn K CT = true)
    (cpo : PySem.W.plainOver K CT = true)
    (csa : PySem.W.findIn K (.ref CT) "__setattr__" = some (some (.builtin "object.__setattr__")))
    (cnT : PySem.W.findIn K (.ref CT) "_targets" = some none)
    (cnF : PySem.W.findIn K (.ref CT) "_flips" = some none)
    (cca : PySem.W.findIn K (.ref CT) "__class__" = some (some (.builtin "object.__class__")))
    (ccm : PySem.W.mroIn K CT (.type "object") = some true)
    (ckc : PySem.W.keepIn K (.ref CT) = true)
    (cis : PySem.W.isClsIn K CT = true)
    (cty : PySem.W.typeIn K (.ref CT) = some (.type "type"))
    (cmk : PySem.W.makesIn K CT = true)
    (csNoneType : PySem.W.subIn K (.type "NoneType") (.ref CT) = some false)
    (csint : PySem.W.subIn K (.type "int") (.ref CT) = some false)
    (csbool : PySem.W.subIn K (.type "bool") (.ref CT) = some false)
    (csstr : PySem.W.subIn K (.type "str") (.ref CT) = some false)
    (cslist : PySem.W.subIn K (.type "list") (.ref CT) = some false)
    (cstuple : PySem.W.subIn K (.type "tuple") (.ref CT) = some false)
    (csdict : PySem.W.subIn K (.type "dict") (.ref CT) = some false)
    (ccn : PySem.W.specialIn K (.builtin "object.__class__") "__get__" = some (some (.builtin "getset_descriptor.__get__")))
    (cct : PySem.W.takesIn K (.builtin "object.__class__") = some true)
    (a_is_integer : PySem.W.nsIn K mainGlobals "is_integer" = some (some (.ref f_is_integer)))
    (l_is_integer : K.lookup f_is_integer = some ⟨oc_is_integer, od_is_integer, .func (PySem.W.fnOf "is_integer" "is_integer" (defArgs s_is_integer) (defBody s_is_integer) (defScope s_is_integer) .none kV_is_integer dc_is_integer pm_is_integer an_is_integer cd_is_integer ct_is_integer), sl_is_integer⟩)
    (c_is_integer : PySem.W.codeIn K cd_is_integer "is_integer" = true)
    (k_is_integer : PySem.W.keepIn K (.ref f_is_integer) = true)
    (a_is_between : PySem.W.nsIn K mainGlobals "is_between" = some (some (.ref f_is_between)))
    (l_is_between : K.lookup f_is_between = some ⟨oc_is_between, od_is_between, .func (PySem.W.fnOf "is_between" "is_between" (defArgs s_is_between) (defBody s_is_between) (defScope s_is_between) .none kV_is_between dc_is_between pm_is_between an_is_between cd_is_between ct_is_between), sl_is_between⟩)
    (c_is_between : PySem.W.codeIn K cd_is_between "is_between" = true)
    (k_is_between : PySem.W.keepIn K (.ref f_is_between) = true)
    (a_Turn_init : PySem.W.findIn K (.ref CT) "__init__" = some (some (.ref f_Turn_init)))
    (i_Turn_init : PySem.W.isFn K (.ref f_Turn_init) = true)
    (l_Turn_init : K.lookup f_Turn_init = some ⟨oc_Turn_init, od_Turn_init, .func (PySem.W.fnOf "__init__" "Turn.__init__" (defArgs s_Turn_init) (defBody s_Turn_init) (defScope s_Turn_init) .none kV_Turn_init dc_Turn_init pm_Turn_init an_Turn_init cd_Turn_init ct_Turn_init), sl_Turn_init⟩)
    (c_Turn_init : PySem.W.codeIn K cd_Turn_init "Turn.__init__" = true)
    (k_Turn_init : PySem.W.keepIn K (.ref f_Turn_init) = true)
    (a_Turn_bits : PySem.W.findIn K (.ref CT) "bits" = some (some (.ref p_Turn_bits)))
    (g_Turn_bits : PySem.W.specialIn K (.ref p_Turn_bits) "__get__" = some (some (.builtin "property.__get__")))
    (t_Turn_bits : PySem.W.takesIn K (.ref p_Turn_bits) = some true)
    (r_Turn_bits : PySem.W.recIn K p_Turn_bits "property" = some (.ref f_Turn_bits :: rest_Turn_bits))
    (l_Turn_bits : K.lookup f_Turn_bits = some ⟨oc_Turn_bits, od_Turn_bits, .func (PySem.W.fnOf "bits" "Turn.bits" (defArgs s_Turn_bits) (defBody s_Turn_bits) (defScope s_Turn_bits) .none kV_Turn_bits dc_Turn_bits pm_Turn_bits an_Turn_bits cd_Turn_bits ct_Turn_bits), sl_Turn_bits⟩)
    (c_Turn_bits : PySem.W.codeIn K cd_Turn_bits "Turn.bits" = true)
    (k_Turn_bits : PySem.W.keepIn K (.ref f_Turn_bits) = true)
    (a_Turn_targets : PySem.W.findIn K (.ref CT) "targets" = some (some (.ref p_Turn_targets)))
    (g_Turn_targets : PySem.W.specialIn K (.ref p_Turn_targets) "__get__" = some (some (.builtin "property.__get__")))
    (t_Turn_targets : PySem.W.takesIn K (.ref p_Turn_targets) = some true)
    (r_Turn_targets : PySem.W.recIn K p_Turn_targets "property" = some (.ref f_Turn_targets :: rest_Turn_targets))
    (l_Turn_targets : K.lookup f_Turn_targets = some ⟨oc_Turn_targets, od_Turn_targets, .func (PySem.W.fnOf "targets" "Turn.targets" (defArgs s_Turn_targets) (defBody s_Turn_targets) (defScope s_Turn_targets) .none kV_Turn_targets dc_Turn_targets pm_Turn_targets an_Turn_targets cd_Turn_targets ct_Turn_targets), sl_Turn_targets⟩)
    (c_Turn_targets : PySem.W.codeIn K cd_Turn_targets "Turn.targets" = true)
    (k_Turn_targets : PySem.W.keepIn K (.ref f_Turn_targets) = true)
    (a_Turn_flips : PySem.W.findIn K (.ref CT) "flips" = some (some (.ref p_Turn_flips)))
    (g_Turn_flips : PySem.W.specialIn K (.ref p_Turn_flips) "__get__" = some (some (.builtin "property.__get__")))
    (t_Turn_flips : PySem.W.takesIn K (.ref p_Turn_flips) = some true)
    (r_Turn_flips : PySem.W.recIn K p_Turn_flips "property" = some (.ref f_Turn_flips :: rest_Turn_flips))
    (l_Turn_flips : K.lookup f_Turn_flips = some ⟨oc_Turn_flips, od_Turn_flips, .func (PySem.W.fnOf "flips" "Turn.flips" (defArgs s_Turn_flips) (defBody s_Turn_flips) (defScope s_Turn_flips) .none kV_Turn_flips dc_Turn_flips pm_Turn_flips an_Turn_flips cd_Turn_flips ct_Turn_flips), sl_Turn_flips⟩)
    (c_Turn_flips : PySem.W.codeIn K cd_Turn_flips "Turn.flips" = true)
    (k_Turn_flips : PySem.W.keepIn K (.ref f_Turn_flips) = true)
    (a_Turn_eq : PySem.W.findIn K (.ref CT) "__eq__" = some (some (.ref f_Turn_eq)))
    (i_Turn_eq : PySem.W.isFn K (.ref f_Turn_eq) = true)
    (l_Turn_eq : K.lookup f_Turn_eq = some ⟨oc_Turn_eq, od_Turn_eq, .func (PySem.W.fnOf "__eq__" "Turn.__eq__" (defArgs s_Turn_eq) (defBody s_Turn_eq) (defScope s_Turn_eq) .none kV_Turn_eq dc_Turn_eq pm_Turn_eq an_Turn_eq cd_Turn_eq ct_Turn_eq), sl_Turn_eq⟩)
    (c_Turn_eq : PySem.W.codeIn K cd_Turn_eq "Turn.__eq__" = true)
    (k_Turn_eq : PySem.W.keepIn K (.ref f_Turn_eq) = true)
    (a_check_targets : PySem.W.nsIn K mainGlobals "check_targets" = some (some (.ref f_check_targets)))
    (l_check_targets : K.lookup f_check_targets = some ⟨oc_check_targets, od_check_targets, .func (PySem.W.fnOf "check_targets" "check_targets" (defArgs s_check_targets) (defBody s_check_targets) (defScope s_check_targets) .none kV_check_targets dc_check_targets pm_check_targets an_check_targets cd_check_targets ct_check_targets), sl_check_targets⟩)
    (c_check_targets : PySem.W.codeIn K cd_check_targets "check_targets" = true)
    (k_check_targets : PySem.W.keepIn K (.ref f_check_targets) = true)
    (a_check_turn : PySem.W.nsIn K mainGlobals "check_turn" = some (some (.ref f_check_turn)))
    (l_check_turn : K.lookup f_check_turn = some ⟨oc_check_turn, od_check_turn, .func (PySem.W.fnOf "check_turn" "check_turn" (defArgs s_check_turn) (defBody s_check_turn) (defScope s_check_turn) .none kV_check_turn dc_check_turn pm_check_turn an_check_turn cd_check_turn ct_check_turn), sl_check_turn⟩)
    (c_check_turn : PySem.W.codeIn K cd_check_turn "check_turn" = true)
    (k_check_turn : PySem.W.keepIn K (.ref f_check_turn) = true)
    (a_split_into_cycles : PySem.W.nsIn K mainGlobals "split_into_cycles" = some (some (.ref f_split_into_cycles)))
    (l_split_into_cycles : K.lookup f_split_into_cycles = some ⟨oc_split_into_cycles, od_split_into_cycles, .func (PySem.W.fnOf "split_into_cycles" "split_into_cycles" (defArgs s_split_into_cycles) (defBody s_split_into_cycles) (defScope s_split_into_cycles) .none kV_split_into_cycles dc_split_into_cycles pm_split_into_cycles an_split_into_cycles cd_split_into_cycles ct_split_into_cycles), sl_split_into_cycles⟩)
    (c_split_into_cycles : PySem.W.codeIn K cd_split_into_cycles "split_into_cycles" = true)
    (k_split_into_cycles : PySem.W.keepIn K (.ref f_split_into_cycles) = true)
    (a_crossings : PySem.W.nsIn K mainGlobals "crossings" = some (some (.ref f_crossings)))
    (l_crossings : K.lookup f_crossings = some ⟨oc_crossings, od_crossings, .func (PySem.W.fnOf "crossings" "crossings" (defArgs s_crossings) (defBody s_crossings) (defScope s_crossings) .none kV_crossings dc_crossings pm_crossings an_crossings cd_crossings ct_crossings), sl_crossings⟩)
    (c_crossings : PySem.W.codeIn K cd_crossings "crossings" = true)
    (k_crossings : PySem.W.keepIn K (.ref f_crossings) = true)
    (a_swap_count : PySem.W.nsIn K mainGlobals "swap_count" = some (some (.ref f_swap_count)))
    (l_swap_count : K.lookup f_swap_count = some ⟨oc_swap_count, od_swap_count, .func (PySem.W.fnOf "swap_count" "swap_count" (defArgs s_swap_count) (defBody s_swap_count) (defScope s_swap_count) .none kV_swap_count dc_swap_count pm_swap_count an_swap_count cd_swap_count ct_swap_count), sl_swap_count⟩)
    (c_swap_count : PySem.W.codeIn K cd_swap_count "swap_count" = true)
    (k_swap_count : PySem.W.keepIn K (.ref f_swap_count) = true)
    (a_neighbour_swaps : PySem.W.nsIn K mainGlobals "neighbour_swaps" = some (some (.ref f_neighbour_swaps)))
    (l_neighbour_swaps : K.lookup f_neighbour_swaps = some ⟨oc_neighbour_swaps, od_neighbour_swaps, .func (PySem.W.fnOf "neighbour_swaps" "neighbour_swaps" (defArgs s_neighbour_swaps) (defBody s_neighbour_swaps) (defScope s_neighbour_swaps) .none kV_neighbour_swaps dc_neighbour_swaps pm_neighbour_swaps an_neighbour_swaps cd_neighbour_swaps ct_neighbour_swaps), sl_neighbour_swaps⟩)
    (c_neighbour_swaps : PySem.W.codeIn K cd_neighbour_swaps "neighbour_swaps" = true)
    (k_neighbour_swaps : PySem.W.keepIn K (.ref f_neighbour_swaps) = true)
    (a_law_bag : PySem.W.nsIn K mainGlobals "_law_bag" = some (some (.ref f_law_bag)))
    (l_law_bag : K.lookup f_law_bag = some ⟨oc_law_bag, od_law_bag, .func (PySem.W.fnOf "_law_bag" "_law_bag" (defArgs s_law_bag) (defBody s_law_bag) (defScope s_law_bag) .none kV_law_bag dc_law_bag pm_law_bag an_law_bag cd_law_bag ct_law_bag), sl_law_bag⟩)
    (c_law_bag : PySem.W.codeIn K cd_law_bag "_law_bag" = true)
    (k_law_bag : PySem.W.keepIn K (.ref f_law_bag) = true)
    (a_law_pick : PySem.W.nsIn K mainGlobals "_law_pick" = some (some (.ref f_law_pick)))
    (l_law_pick : K.lookup f_law_pick = some ⟨oc_law_pick, od_law_pick, .func (PySem.W.fnOf "_law_pick" "_law_pick" (defArgs s_law_pick) (defBody s_law_pick) (defScope s_law_pick) .none kV_law_pick dc_law_pick pm_law_pick an_law_pick cd_law_pick ct_law_pick), sl_law_pick⟩)
    (c_law_pick : PySem.W.codeIn K cd_law_pick "_law_pick" = true)
    (k_law_pick : PySem.W.keepIn K (.ref f_law_pick) = true)
    (a_law_targets : PySem.W.nsIn K mainGlobals "_law_targets" = some (some (.ref f_law_targets)))
    (l_law_targets : K.lookup f_law_targets = some ⟨oc_law_targets, od_law_targets, .func (PySem.W.fnOf "_law_targets" "_law_targets" (defArgs s_law_targets) (defBody s_law_targets) (defScope s_law_targets) .none kV_law_targets dc_law_targets pm_law_targets an_law_targets cd_law_targets ct_law_targets), sl_law_targets⟩)
    (c_law_targets : PySem.W.codeIn K cd_law_targets "_law_targets" = true)
    (k_law_targets : PySem.W.keepIn K (.ref f_law_targets) = true)
    (a_law_flips : PySem.W.nsIn K mainGlobals "_law_flips" = some (some (.ref f_law_flips)))
    (l_law_flips : K.lookup f_law_flips = some ⟨oc_law_flips, od_law_flips, .func (PySem.W.fnOf "_law_flips" "_law_flips" (defArgs s_law_flips) (defBody s_law_flips) (defScope s_law_flips) .none kV_law_flips dc_law_flips pm_law_flips an_law_flips cd_law_flips ct_law_flips), sl_law_flips⟩)
    (c_law_flips : PySem.W.codeIn K cd_law_flips "_law_flips" = true)
    (k_law_flips : PySem.W.keepIn K (.ref f_law_flips) = true)
    (a_law_great : PySem.W.nsIn K mainGlobals "_law_great" = some (some (.ref f_law_great)))
    (l_law_great : K.lookup f_law_great = some ⟨oc_law_great, od_law_great, .func (PySem.W.fnOf "_law_great" "_law_great" (defArgs s_law_great) (defBody s_law_great) (defScope s_law_great) .none kV_law_great dc_law_great pm_law_great an_law_great cd_law_great ct_law_great), sl_law_great⟩)
    (c_law_great : PySem.W.codeIn K cd_law_great "_law_great" = true)
    (k_law_great : PySem.W.keepIn K (.ref f_law_great) = true)
    (a_law_far : PySem.W.nsIn K mainGlobals "_law_far" = some (some (.ref f_law_far)))
    (l_law_far : K.lookup f_law_far = some ⟨oc_law_far, od_law_far, .func (PySem.W.fnOf "_law_far" "_law_far" (defArgs s_law_far) (defBody s_law_far) (defScope s_law_far) .none kV_law_far dc_law_far pm_law_far an_law_far cd_law_far ct_law_far), sl_law_far⟩)
    (c_law_far : PySem.W.codeIn K cd_law_far "_law_far" = true)
    (k_law_far : PySem.W.keepIn K (.ref f_law_far) = true)
    (a_law_small_right : PySem.W.nsIn K mainGlobals "_law_small_right" = some (some (.ref f_law_small_right)))
    (l_law_small_right : K.lookup f_law_small_right = some ⟨oc_law_small_right, od_law_small_right, .func (PySem.W.fnOf "_law_small_right" "_law_small_right" (defArgs s_law_small_right) (defBody s_law_small_right) (defScope s_law_small_right) .none kV_law_small_right dc_law_small_right pm_law_small_right an_law_small_right cd_law_small_right ct_law_small_right), sl_law_small_right⟩)
    (c_law_small_right : PySem.W.codeIn K cd_law_small_right "_law_small_right" = true)
    (k_law_small_right : PySem.W.keepIn K (.ref f_law_small_right) = true)
    (a_law_great_right : PySem.W.nsIn K mainGlobals "_law_great_right" = some (some (.ref f_law_great_right)))
    (l_law_great_right : K.lookup f_law_great_right = some ⟨oc_law_great_right, od_law_great_right, .func (PySem.W.fnOf "_law_great_right" "_law_great_right" (defArgs s_law_great_right) (defBody s_law_great_right) (defScope s_law_great_right) .none kV_law_great_right dc_law_great_right pm_law_great_right an_law_great_right cd_law_great_right ct_law_great_right), sl_law_great_right⟩)
    (c_law_great_right : PySem.W.codeIn K cd_law_great_right "_law_great_right" = true)
    (k_law_great_right : PySem.W.keepIn K (.ref f_law_great_right) = true)
    (a_law : PySem.W.nsIn K mainGlobals "law" = some (some (.ref f_law)))
    (l_law : K.lookup f_law = some ⟨oc_law, od_law, .func (PySem.W.fnOf "law" "law" (defArgs s_law) (defBody s_law) (defScope s_law) .none kV_law dc_law pm_law an_law cd_law ct_law), sl_law⟩)
    (c_law : PySem.W.codeIn K cd_law "law" = true)
    (k_law : PySem.W.keepIn K (.ref f_law) = true)
    (z_bool : PySem.W.nsIn K mainGlobals "bool" = some none)
    (z_enumerate : PySem.W.nsIn K mainGlobals "enumerate" = some none)
    (z_int : PySem.W.nsIn K mainGlobals "int" = some none)
    (z_isinstance : PySem.W.nsIn K mainGlobals "isinstance" = some none)
    (z_len : PySem.W.nsIn K mainGlobals "len" = some none)
    (z_list : PySem.W.nsIn K mainGlobals "list" = some none)
    (z_max : PySem.W.nsIn K mainGlobals "max" = some none)
    (z_range : PySem.W.nsIn K mainGlobals "range" = some none)
    (z_repr : PySem.W.nsIn K mainGlobals "repr" = some none)
    (z_sum : PySem.W.nsIn K mainGlobals "sum" = some none)
    (z_tuple : PySem.W.nsIn K mainGlobals "tuple" = some none)
    (y_MOST_BITS : PySem.W.nsIn K mainGlobals "MOST_BITS" = some (some (.int 100 t_MOST_BITS))) :
    ∃ fd : FuncData, (∀ (s : Shared) (v : Value), BindsTo s fd ⟨[v], []⟩ [("script", v)]) ∧ ∀ base : Heap, K.In base → base.Ns mainGlobals mg → FnG l.prog w K mg base CX0 10 fa fd ["script"] (sp_law K) := by
  have e := hfa.symm.trans (PySem.W.mg_of X G a_law)
  cases e
  have T : Txt K mg CT := { n_bool := PySem.W.mg_none_of X G z_bool, n_enumerate := PySem.W.mg_none_of X G z_enumerate, n_int := PySem.W.mg_none_of X G z_int, n_isinstance := PySem.W.mg_none_of X G z_isinstance, n_len := PySem.W.mg_none_of X G z_len, n_list := PySem.W.mg_none_of X G z_list, n_max := PySem.W.mg_none_of X G z_max, n_range := PySem.W.mg_none_of X G z_range, n_repr := PySem.W.mg_none_of X G z_repr, n_sum := PySem.W.mg_none_of X G z_sum, n_tuple := PySem.W.mg_none_of X G z_tuple, m_MOST_BITS := ⟨_, PySem.W.mg_of X G y_MOST_BITS, ⟨_, rfl⟩⟩, m_Turn := PySem.W.mg_of X G aCT }
  have ct : TurnText K mg CT := { cl := ⟨cpg, chd, cpo, csa⟩, nT := cnT, nF := cnF, ca := cca, cn := ccn, ct := cct, cm := ccm, kc := ckc, mT := PySem.W.mg_of X G aCT, isC := cis, tyC := cty, sub := sub7 csNoneType csint csbool csstr cslist cstuple csdict }
  have F_is_integer := fun_mk (st := s_is_integer) l_is_integer c_is_integer k_is_integer
  have b_is_integer := F_is_integer.binds (ps := ["value"]) fun _ _ _ _ _ _ us hl => match us, hl with | [_], _ => rfl
  have F_is_between := fun_mk (st := s_is_between) l_is_between c_is_between k_is_between
  have b_is_between := F_is_between.binds (ps := ["value", "least", "greatest"]) fun _ _ _ _ _ _ us hl => match us, hl with | [_, _, _], _ => rfl
  have F_Turn_init := fun_mk (st := s_Turn_init) l_Turn_init c_Turn_init k_Turn_init
  have b_Turn_init := F_Turn_init.binds (ps := ["self", "targets", "flips"]) fun _ _ _ _ _ _ us hl => match us, hl with | [_, _, _], _ => rfl
  have F_Turn_bits := fun_mk (st := s_Turn_bits) l_Turn_bits c_Turn_bits k_Turn_bits
  have b_Turn_bits := F_Turn_bits.binds (ps := ["self"]) fun _ _ _ _ _ _ us hl => match us, hl with | [_], _ => rfl
  have F_Turn_targets := fun_mk (st := s_Turn_targets) l_Turn_targets c_Turn_targets k_Turn_targets
  have b_Turn_targets := F_Turn_targets.binds (ps := ["self"]) fun _ _ _ _ _ _ us hl => match us, hl with | [_], _ => rfl
  have F_Turn_flips := fun_mk (st := s_Turn_flips) l_Turn_flips c_Turn_flips k_Turn_flips
  have b_Turn_flips := F_Turn_flips.binds (ps := ["self"]) fun _ _ _ _ _ _ us hl => match us, hl with | [_], _ => rfl
  have F_Turn_eq := fun_mk (st := s_Turn_eq) l_Turn_eq c_Turn_eq k_Turn_eq
  have b_Turn_eq := F_Turn_eq.binds (ps := ["self", "other"]) fun _ _ _ _ _ _ us hl => match us, hl with | [_, _], _ => rfl
  have F_check_targets := fun_mk (st := s_check_targets) l_check_targets c_check_targets k_check_targets
  have b_check_targets := F_check_targets.binds (ps := ["targets"]) fun _ _ _ _ _ _ us hl => match us, hl with | [_], _ => rfl
  have F_check_turn := fun_mk (st := s_check_turn) l_check_turn c_check_turn k_check_turn
  have b_check_turn := F_check_turn.binds (ps := ["turn"]) fun _ _ _ _ _ _ us hl => match us, hl with | [_], _ => rfl
  have F_split_into_cycles := fun_mk (st := s_split_into_cycles) l_split_into_cycles c_split_into_cycles k_split_into_cycles
  have b_split_into_cycles := F_split_into_cycles.binds (ps := ["targets"]) fun _ _ _ _ _ _ us hl => match us, hl with | [_], _ => rfl
  have F_crossings := fun_mk (st := s_crossings) l_crossings c_crossings k_crossings
  have b_crossings := F_crossings.binds (ps := ["targets"]) fun _ _ _ _ _ _ us hl => match us, hl with | [_], _ => rfl
  have F_swap_count := fun_mk (st := s_swap_count) l_swap_count c_swap_count k_swap_count
  have b_swap_count := F_swap_count.binds (ps := ["turn"]) fun _ _ _ _ _ _ us hl => match us, hl with | [_], _ => rfl
  have F_neighbour_swaps := fun_mk (st := s_neighbour_swaps) l_neighbour_swaps c_neighbour_swaps k_neighbour_swaps
  have b_neighbour_swaps := F_neighbour_swaps.binds (ps := ["turn"]) fun _ _ _ _ _ _ us hl => match us, hl with | [_], _ => rfl
  have F_law_bag := fun_mk (st := s_law_bag) l_law_bag c_law_bag k_law_bag
  have b_law_bag := F_law_bag.binds (ps := ["cell"]) fun _ _ _ _ _ _ us hl => match us, hl with | [_], _ => rfl
  have F_law_pick := fun_mk (st := s_law_pick) l_law_pick c_law_pick k_law_pick
  have b_law_pick := F_law_pick.binds (ps := ["bag", "many"]) fun _ _ _ _ _ _ us hl => match us, hl with | [_, _], _ => rfl
  have F_law_targets := fun_mk (st := s_law_targets) l_law_targets c_law_targets k_law_targets
  have b_law_targets := F_law_targets.binds (ps := ["bag", "bits"]) fun _ _ _ _ _ _ us hl => match us, hl with | [_, _], _ => rfl
  have F_law_flips := fun_mk (st := s_law_flips) l_law_flips c_law_flips k_law_flips
  have b_law_flips := F_law_flips.binds (ps := ["bag", "bits"]) fun _ _ _ _ _ _ us hl => match us, hl with | [_, _], _ => rfl
  have F_law_great := fun_mk (st := s_law_great) l_law_great c_law_great k_law_great
  have b_law_great := F_law_great.binds (ps := ["bag"]) fun _ _ _ _ _ _ us hl => match us, hl with | [_], _ => rfl
  have F_law_far := fun_mk (st := s_law_far) l_law_far c_law_far k_law_far
  have b_law_far := F_law_far.binds (ps := ["bits", "pairs"]) fun _ _ _ _ _ _ us hl => match us, hl with | [_, _], _ => rfl
  have F_law_small_right := fun_mk (st := s_law_small_right) l_law_small_right c_law_small_right k_law_small_right
  have b_law_small_right := F_law_small_right.binds (ps := ["bag"]) fun _ _ _ _ _ _ us hl => match us, hl with | [_], _ => rfl
  have F_law_great_right := fun_mk (st := s_law_great_right) l_law_great_right c_law_great_right k_law_great_right
  have b_law_great_right := F_law_great_right.binds (ps := ["bag"]) fun _ _ _ _ _ _ us hl => match us, hl with | [_], _ => rfl
  have F_law := fun_mk (st := s_law) l_law c_law k_law
  have b_law := F_law.binds (ps := ["script"]) fun _ _ _ _ _ _ us hl => match us, hl with | [_], _ => rfl
  refine ⟨PySem.W.fnOf "law" "law" (defArgs s_law) (defBody s_law) (defScope s_law) .none kV_law dc_law pm_law an_law cd_law ct_law, fun s v => .of_eq rfl, fun base _ _ => ?_⟩
  have o_check_turn : CalO l.prog w K mg base "check_turn" 1 (sp_check_turn K CT) := ⟨⟨f_check_turn, _, _, ok_check_turn (P := l.prog) (w := w) (base := base) F_check_turn T ct, PySem.W.mg_of X G a_check_turn, k_check_turn, b_check_turn⟩⟩
  have o_split_into_cycles : CalO l.prog w K mg base "split_into_cycles" 1 (sp_split_into_cycles K) := ⟨⟨f_split_into_cycles, _, _, ok_split_into_cycles (P := l.prog) (w := w) (base := base) F_split_into_cycles T, PySem.W.mg_of X G a_split_into_cycles, k_split_into_cycles, b_split_into_cycles⟩⟩
  have o_is_integer : CalO l.prog w K mg base "is_integer" 1 (sp_is_integer K) := ⟨⟨f_is_integer, _, _, ok_is_integer (P := l.prog) (w := w) (base := base) F_is_integer T, PySem.W.mg_of X G a_is_integer, k_is_integer, b_is_integer⟩⟩
  have o_is_between : CalO l.prog w K mg base "is_between" 2 (sp_is_between K) := ⟨⟨f_is_between, _, _, ok_is_between (P := l.prog) (w := w) (base := base) F_is_between T o_is_integer, PySem.W.mg_of X G a_is_between, k_is_between, b_is_between⟩⟩
  have o_check_targets : CalO l.prog w K mg base "check_targets" 3 (sp_check_targets K) := ⟨⟨f_check_targets, _, _, ok_check_targets (P := l.prog) (w := w) (base := base) F_check_targets T o_is_between, PySem.W.mg_of X G a_check_targets, k_check_targets, b_check_targets⟩⟩
  have tc : TurnT l.prog w K mg base CT := { tx := ct, init := ⟨f_Turn_init, _, _, ⟨cmk, a_Turn_init, i_Turn_init, ckc⟩, (ok_Turn_init (P := l.prog) (w := w) (base := base) F_Turn_init T ct o_is_between o_check_targets).mono (by decide), b_Turn_init⟩, bits := ⟨p_Turn_bits, f_Turn_bits, _, _, ⟨a_Turn_bits, g_Turn_bits, t_Turn_bits, rest_Turn_bits, r_Turn_bits⟩, (ok_Turn_bits (P := l.prog) (w := w) (base := base) F_Turn_bits T ct).mono (by decide), b_Turn_bits⟩, targets := ⟨p_Turn_targets, f_Turn_targets, _, _, ⟨a_Turn_targets, g_Turn_targets, t_Turn_targets, rest_Turn_targets, r_Turn_targets⟩, (ok_Turn_targets (P := l.prog) (w := w) (base := base) F_Turn_targets T ct).mono (by decide), b_Turn_targets⟩, flips := ⟨p_Turn_flips, f_Turn_flips, _, _, ⟨a_Turn_flips, g_Turn_flips, t_Turn_flips, rest_Turn_flips, r_Turn_flips⟩, (ok_Turn_flips (P := l.prog) (w := w) (base := base) F_Turn_flips T ct).mono (by decide), b_Turn_flips⟩, eq := ⟨f_Turn_eq, _, _, a_Turn_eq, i_Turn_eq, (ok_Turn_eq (P := l.prog) (w := w) (base := base) F_Turn_eq T ct).mono (by decide), b_Turn_eq⟩ }
  have o_swap_count : CalO l.prog w K mg base "swap_count" 8 (sp_swap_count K CT) := ⟨⟨f_swap_count, _, _, ok_swap_count (P := l.prog) (w := w) (base := base) F_swap_count T o_check_turn o_split_into_cycles tc, PySem.W.mg_of X G a_swap_count, k_swap_count, b_swap_count⟩⟩
  have o_crossings : CalO l.prog w K mg base "crossings" 1 (sp_crossings K) := ⟨⟨f_crossings, _, _, ok_crossings (P := l.prog) (w := w) (base := base) F_crossings T, PySem.W.mg_of X G a_crossings, k_crossings, b_crossings⟩⟩
  have o_neighbour_swaps : CalO l.prog w K mg base "neighbour_swaps" 8 (sp_neighbour_swaps K CT) := ⟨⟨f_neighbour_swaps, _, _, ok_neighbour_swaps (P := l.prog) (w := w) (base := base) F_neighbour_swaps T o_check_turn o_crossings tc, PySem.W.mg_of X G a_neighbour_swaps, k_neighbour_swaps, b_neighbour_swaps⟩⟩
  have o_law_bag : Cal l.prog w K mg base "_law_bag" 1 (sp_law_bag K) := ⟨⟨f_law_bag, _, _, ok_law_bag (P := l.prog) (w := w) (base := base) F_law_bag T, PySem.W.mg_of X G a_law_bag, k_law_bag, b_law_bag⟩⟩
  have o_law_pick : Cal l.prog w K mg base "_law_pick" 1 (sp_law_pick K) := ⟨⟨f_law_pick, _, _, ok_law_pick (P := l.prog) (w := w) (base := base) F_law_pick T, PySem.W.mg_of X G a_law_pick, k_law_pick, b_law_pick⟩⟩
  have o_law_flips : Cal l.prog w K mg base "_law_flips" 2 (sp_law_flips K) := ⟨⟨f_law_flips, _, _, ok_law_flips (P := l.prog) (w := w) (base := base) F_law_flips T o_law_pick, PySem.W.mg_of X G a_law_flips, k_law_flips, b_law_flips⟩⟩
  have o_law_far : Cal l.prog w K mg base "_law_far" 1 (sp_law_far K) := ⟨⟨f_law_far, _, _, ok_law_far (P := l.prog) (w := w) (base := base) F_law_far T, PySem.W.mg_of X G a_law_far, k_law_far, b_law_far⟩⟩
  have o_law_small_right : Cal l.prog w K mg base "_law_small_right" 9 (sp_law_small_right K) := ⟨⟨f_law_small_right, _, _, ok_law_small_right (P := l.prog) (w := w) (base := base) F_law_small_right T o_swap_count o_neighbour_swaps o_law_pick o_law_flips o_law_far tc, PySem.W.mg_of X G a_law_small_right, k_law_small_right, b_law_small_right⟩⟩
  have o_law_targets : Cal l.prog w K mg base "_law_targets" 2 (sp_law_targets K) := ⟨⟨f_law_targets, _, _, ok_law_targets (P := l.prog) (w := w) (base := base) F_law_targets T o_law_pick, PySem.W.mg_of X G a_law_targets, k_law_targets, b_law_targets⟩⟩
  have o_law_great : Cal l.prog w K mg base "_law_great" 3 (sp_law_great K) := ⟨⟨f_law_great, _, _, ok_law_great (P := l.prog) (w := w) (base := base) F_law_great T o_law_pick o_law_targets o_law_flips, PySem.W.mg_of X G a_law_great, k_law_great, b_law_great⟩⟩
  have o_law_great_right : Cal l.prog w K mg base "_law_great_right" 9 (sp_law_great_right K) := ⟨⟨f_law_great_right, _, _, ok_law_great_right (P := l.prog) (w := w) (base := base) F_law_great_right T o_swap_count o_neighbour_swaps o_law_great tc, PySem.W.mg_of X G a_law_great_right, k_law_great_right, b_law_great_right⟩⟩
  exact ok_law (P := l.prog) (w := w) (base := base) F_law T o_swap_count o_neighbour_swaps o_law_bag o_law_small_right o_law_great_right tc
theorem walk {l : PySem.W.OpenLaw} {q : Program} {loose : List Str} {XP : (Str → Option Value) → Heap → Prop} {YP : World → Heap → Prop} {d : DefRec} {K : Params → PySem.W.Frag} (hn : l.most = some 63) (hdf : d.params.defaults = [])
    (hY : ∀ (w : World) (h : Heap), YP w h → (K w.params).In h)
    (F : ∀ (w : World) (mg : Str → Option Value) (fa : Addr) (h : Heap), (K w.params).In h → h.Ns mainGlobals mg → mg d.name = some (.ref fa) →
      ∃ fd : FuncData, (∀ (s : Shared) (u : Value), BindsTo s fd ⟨[u], []⟩ [("script", u)]) ∧ ∀ base : Heap, (K w.params).In base → base.Ns mainGlobals mg → FnG l.prog w (K w.params) mg base CX0 10 fa fd ["script"] (sp_law (K w.params))) :
    PySem.W.WalkO q loose XP YP l.row.toRowW d [] (fun f vs => PySem.call f vs) :=
  walk_G (n := 63) (k := 10) (x := "script") (CX := fun _ => CX0) (sp := fun w => sp_law (K w.params)) hn (by decide) hdf ⟨rfl, by decide, by decide⟩ hY F (fun _ _ a ns _ _ _ hS => ⟨_, rfl, a, ns, rfl, hS.sqL, fun _ => rfl⟩) fun _ _ _ _ _ z => z

end L
open PySem PySem.W PyProof.Rows in
set_option maxRecDepth 100000 in
set_option maxHeartbeats 0 in
theorem PySem.Challenge.cw_indexturns_k29_exchanges_holds : PySem.Challenge.rw_indexturns_k29_exchanges.Holds := by
  w_on; o_law; k_head; (case hw => w_witness2)
  k_fill
  refine L.walk (l := PySem.Challenge.rw_indexturns_k29_exchanges) rfl rfl (fun w h Y => PySem.W.kIn_of Y) ?F
  case F =>
    intro w mg fa h KX G hmg
    refine' L.all_mk KX G hmg ?aCT ?cpg ?chd ?cpo ?csa ?cnT ?cnF ?cca ?ccm ?ckc ?cis ?cty ?cmk ?csNoneType ?csint ?csbool ?csstr ?cslist ?cstuple ?csdict ?ccn ?cct ?a_is_integer ?l_is_integer ?c_is_integer ?k_is_integer ?a_is_between ?l_is_between ?c_is_between ?k_is_between ?a_Turn_init ?i_Turn_init ?l_Turn_init ?c_Turn_init ?k_Turn_init ?a_Turn_bits ?g_Turn_bits ?t_Turn_bits ?r_Turn_bits ?l_Turn_bits ?c_Turn_bits ?k_Turn_bits ?a_Turn_targets ?g_Turn_targets ?t_Turn_targets ?r_Turn_targets ?l_Turn_targets ?c_Turn_targets ?k_Turn_targets ?a_Turn_flips ?g_Turn_flips ?t_Turn_flips ?r_Turn_flips ?l_Turn_flips ?c_Turn_flips ?k_Turn_flips ?a_Turn_eq ?i_Turn_eq ?l_Turn_eq ?c_Turn_eq ?k_Turn_eq ?a_check_targets ?l_check_targets ?c_check_targets ?k_check_targets ?a_check_turn ?l_check_turn ?c_check_turn ?k_check_turn ?a_split_into_cycles ?l_split_into_cycles ?c_split_into_cycles ?k_split_into_cycles ?a_crossings ?l_crossings ?c_crossings ?k_crossings ?a_swap_count ?l_swap_count ?c_swap_count ?k_swap_count ?a_neighbour_swaps ?l_neighbour_swaps ?c_neighbour_swaps ?k_neighbour_swaps ?a_law_bag ?l_law_bag ?c_law_bag ?k_law_bag ?a_law_pick ?l_law_pick ?c_law_pick ?k_law_pick ?a_law_targets ?l_law_targets ?c_law_targets ?k_law_targets ?a_law_flips ?l_law_flips ?c_law_flips ?k_law_flips ?a_law_great ?l_law_great ?c_law_great ?k_law_great ?a_law_far ?l_law_far ?c_law_far ?k_law_far ?a_law_small_right ?l_law_small_right ?c_law_small_right ?k_law_small_right ?a_law_great_right ?l_law_great_right ?c_law_great_right ?k_law_great_right ?a_law ?l_law ?c_law ?k_law ?z_bool ?z_enumerate ?z_int ?z_isinstance ?z_len ?z_list ?z_max ?z_range ?z_repr ?z_sum ?z_tuple ?y_MOST_BITS
    (case aCT => k_is)
    (case cpg => k_is)
    (case chd => k_is)
    (case cpo => k_is)
    (case csa => k_is)
    (case cnT => k_is)
    (case cnF => k_is)
    (case cca => k_is)
    (case ccm => k_is)
    (case ckc => k_is)
    (case cis => k_is)
    (case cty => k_is)
    (case cmk => k_is)
    (case csNoneType => k_is)
    (case csint => k_is)
    (case csbool => k_is)
    (case csstr => k_is)
    (case cslist => k_is)
    (case cstuple => k_is)
    (case csdict => k_is)
    (case ccn => k_is)
    (case cct => k_is)
    (case a_is_integer => k_is)
    (case l_is_integer => k_is)
    (case c_is_integer => k_is)
    (case k_is_integer => k_is)
    (case a_is_between => k_is)
    (case l_is_between => k_is)
    (case c_is_between => k_is)
    (case k_is_between => k_is)
    (case a_Turn_init => k_is)
    (case i_Turn_init => k_is)
    (case l_Turn_init => k_is)
    (case c_Turn_init => k_is)
    (case k_Turn_init => k_is)
    (case a_Turn_bits => k_is)
    (case g_Turn_bits => k_is)
    (case t_Turn_bits => k_is)
    (case r_Turn_bits => k_is)
    (case l_Turn_bits => k_is)
    (case c_Turn_bits => k_is)
    (case k_Turn_bits => k_is)
    (case a_Turn_targets => k_is)
    (case g_Turn_targets => k_is)
    (case t_Turn_targets => k_is)
    (case r_Turn_targets => k_is)
    (case l_Turn_targets => k_is)
    (case c_Turn_targets => k_is)
    (case k_Turn_targets => k_is)
    (case a_Turn_flips => k_is)
    (case g_Turn_flips => k_is)
    (case t_Turn_flips => k_is)
    (case r_Turn_flips => k_is)
    (case l_Turn_flips => k_is)
    (case c_Turn_flips => k_is)
    (case k_Turn_flips => k_is)
    (case a_Turn_eq => k_is)
    (case i_Turn_eq => k_is)
    (case l_Turn_eq => k_is)
    (case c_Turn_eq => k_is)
    (case k_Turn_eq => k_is)
    (case a_check_targets => k_is)
    (case l_check_targets => k_is)
    (case c_check_targets => k_is)
    (case k_check_targets => k_is)
    (case a_check_turn => k_is)
    (case l_check_turn => k_is)
    (case c_check_turn => k_is)
    (case k_check_turn => k_is)
    (case a_split_into_cycles => k_is)
    (case l_split_into_cycles => k_is)
    (case c_split_into_cycles => k_is)
    (case k_split_into_cycles => k_is)
    (case a_crossings => k_is)
    (case l_crossings => k_is)
    (case c_crossings => k_is)
    (case k_crossings => k_is)
    (case a_swap_count => k_is)
    (case l_swap_count => k_is)
    (case c_swap_count => k_is)
    (case k_swap_count => k_is)
    (case a_neighbour_swaps => k_is)
    (case l_neighbour_swaps => k_is)
    (case c_neighbour_swaps => k_is)
    (case k_neighbour_swaps => k_is)
    (case a_law_bag => k_is)
    (case l_law_bag => k_is)
    (case c_law_bag => k_is)
    (case k_law_bag => k_is)
    (case a_law_pick => k_is)
    (case l_law_pick => k_is)
    (case c_law_pick => k_is)
    (case k_law_pick => k_is)
    (case a_law_targets => k_is)
    (case l_law_targets => k_is)
    (case c_law_targets => k_is)
    (case k_law_targets => k_is)
    (case a_law_flips => k_is)
    (case l_law_flips => k_is)
    (case c_law_flips => k_is)
    (case k_law_flips => k_is)
    (case a_law_great => k_is)
    (case l_law_great => k_is)
    (case c_law_great => k_is)
    (case k_law_great => k_is)
    (case a_law_far => k_is)
    (case l_law_far => k_is)
    (case c_law_far => k_is)
    (case k_law_far => k_is)
    (case a_law_small_right => k_is)
    (case l_law_small_right => k_is)
    (case c_law_small_right => k_is)
    (case k_law_small_right => k_is)
    (case a_law_great_right => k_is)
    (case l_law_great_right => k_is)
    (case c_law_great_right => k_is)
    (case k_law_great_right => k_is)
    (case a_law => k_is)
    (case l_law => k_is)
    (case c_law => k_is)
    (case k_law => k_is)
    (case z_bool => k_is)
    (case z_enumerate => k_is)
    (case z_int => k_is)
    (case z_isinstance => k_is)
    (case z_len => k_is)
    (case z_list => k_is)
    (case z_max => k_is)
    (case z_range => k_is)
    (case z_repr => k_is)
    (case z_sum => k_is)
    (case z_tuple => k_is)
    (case y_MOST_BITS => k_is)
