import PyProof.Rows.All
import Wide.All
import OpenK.AllK
import Wide.FinOn
import HandS.Codes
import HandS.Conv
import HandS.EndBits
import HandS.Flow
import HandS.ForMost
import HandS.IsInst
import HandS.Iter
import HandS.Property
import HandS.RaiseMore
import HandS.SortInts
import HandS.Style
import HandS.Walk
import HandS.Wide
import HandS.WideBits
import HandS.Zip
import PySem.Challenge.RW_indexturns_k01_places_by_bits
set_option Elab.async false
set_option linter.all false
set_option maxRecDepth 100000
set_option maxHeartbeats 4000000
/-! Own rules over the hand layer: defs that know that no repr is under way around them (FnG), repr of data, powers of great numbers, an own __eq__ of an instance. -/
namespace G
open PySem PySem.Spec PyProof.Rows L2

/-- as the layer's FnOk, but called only where no guarded code is under way -/
structure FnG (P : Program) (w : World) (K : PySem.W.Frag) (mg : Str → Option Value) (base : Heap) (CX : CXT) (k : Nat) (f : Addr) (fd : FuncData) (ps : List Str) (sp : Sp) : Prop where
  len : ∀ vs H Q E, sp vs H Q E → vs.length = ps.length
  go : ∀ (A : Around) (outer : List Env) (s : Shared) (H : Hp) (us : List Value) (vs : List V) (Q : VK) (E : XK) (args : Args), A.guards = some [] → Room k A → Env0 P w K mg base A outer s H → BindsTo s fd args (ps.zip us) →
    Vals vs us → sp vs H Q E → codeAny (model P w) A (.call (.ref f) args) (CR CX outer P w H s Q E) s

section
variable {P : Program} {w : World} {K : PySem.W.Frag} {mg : Str → Option Value} {base : Heap} {CX : CXT} {k j : Nat} {f : Addr} {fd : FuncData} {ps : List Str} {sp sp' : Sp}
theorem FnG.of (F : FnOk P w K mg base CX k f fd ps sp) : FnG P w K mg base CX k f fd ps sp :=
  ⟨F.len, fun A outer s H us vs Q E args _ hr e0 hb r h => F.run A outer s H args us vs Q E hr e0 hb r h⟩
theorem FnG.mono (F : FnG P w K mg base CX j f fd ps sp) (h : j ≤ k) : FnG P w K mg base CX k f fd ps sp :=
  ⟨F.len, fun A outer s H us vs Q E args hg hr e0 hb r q => F.go A outer s H us vs Q E args hg (hr.mono h) e0 hb r q⟩

/-- a def of the text: its body as a term of rules and that term's reading; the body may use that nothing guarded is under way -/
theorem fn_G {qual name : Str} {st : Stmt} {N : List Str} (F : Fun K name qual st f fd) (S : FnScope N ps (defScope st)) (len : ∀ vs H Q E, sp vs H Q E → vs.length = ps.length)
    (body : ∀ (cd : Value) (A : Around) (outer : List Env) (s : Shared) (H : Hp) (vs : List V) (Q : VK) (E : XK), A.guards = some [] → Room k (A.deeper (envOfC qual (defScope st) s.heap.objs.size f cd)) → sp vs H Q E →
      ∃ t, PSs (cxOf CX P w K mg base N qual (defScope st) f cd A outer s H E) (defBody st) t ∧ t { nx := fun _ H' => Q .non H', rt := Q } (start N vs) H) :
    FnG P w K mg base CX (k + 1) f fd ps sp := by
  obtain ⟨oc, od, kV, doc, pm, an, cd, ct, osl, rfl, lk, hcd⟩ := F.ex
  refine ⟨len, fun A outer s H us vs Q E args hg hr e0 hb r hs => ?_⟩
  have KX : K.In s.heap := e0.mod.kin.keeps fun b o e => (e0.bs b o e).1
  refine codeAny_call_function hr.depth (KX _ _ lk) rfl S.co S.gen rfl (PySem.W.codeRec_of KX hcd) (hb _ _ _ _ ?_)
  refine wpAny_newFunctionEnv_cells S.kind (fun y hy => ?_) fun env he s1 x => ?_
  · rcases S.par y.1 (List.of_mem_zip hy).1 with q | q
    · exact .inl q
    · exact .inr ⟨q, PySem.W.cellsFrom_some _ _ _ (.inl q)⟩
  subst he
  have lim : s.heap.NoLimit := e0.mod.nolimit.keeps fun b o e => (e0.bs b o e).1
  refine ⟨lim.keeps x.toInCall.keep, codeAny_func ?_⟩
  obtain ⟨t, ht, hq⟩ := body cd A outer s H vs Q E hg (hr.deeper _) hs
  have I : Inv (cxOf CX P w K mg base N qual (defScope st) f cd A outer s H E) [] (start N vs) H s1 := inv_start S hr.hd e0 (len _ _ _ _ hs) r x
  refine wpAny_mono (ht.run [] s1 (start N vs) H _ I hq) (fun fl s' hf => ?_) fun e s' he => he
  cases fl with
  | ret u =>
    obtain ⟨v, σ', H', J, rv, q⟩ := hf
    exact ⟨v, H', J.os, J.bare, J.base, J.hok, rv, q⟩
  | next =>
    obtain ⟨σ', H', J, q⟩ := hf
    exact ⟨V.non, H', J.os, J.bare, J.base, J.hok, rfl, q⟩
  | brk => exact (hf.elim fun _ z => z.elim fun _ y => False.elim y.2)
  | cont => exact (hf.elim fun _ z => z.elim fun _ y => False.elim y.2)
end

/-- the same where no error leaves it -/
theorem fn_G0 {P : Program} {w : World} {K : PySem.W.Frag} {mg : Str → Option Value} {base : Heap} {k : Nat} {f : Addr} {fd : FuncData} {ps : List Str} {sp : Sp} {qual name : Str} {st : Stmt} {N : List Str}
    (F : Fun K name qual st f fd) (S : FnScope N ps (defScope st)) (len : ∀ vs H Q E, sp vs H Q E → vs.length = ps.length)
    (body : ∀ (cd : Value) (A : Around) (outer : List Env) (s : Shared) (H : Hp) (vs : List V) (Q : VK) (E : XK), A.guards = some [] → Room k (A.deeper (envOfC qual (defScope st) s.heap.objs.size f cd)) → sp vs H Q E →
      ∃ t, PSs (cxOf CX0 P w K mg base N qual (defScope st) f cd A outer s H E).nox (defBody st) t ∧ t { nx := fun _ H' => Q .non H', rt := Q } (start N vs) H) :
    FnG P w K mg base CX0 (k + 1) f fd ps sp :=
  fn_G F S len fun cd A outer s H vs Q E gd hr h => (body cd A outer s H vs Q E gd hr h).elim fun t z => ⟨t, z.1.nox, z.2⟩

section
variable {X : Cx} {CX : CXT} {k : Nat} {f : Addr} {fd : FuncData} {ps : List Str} {sp : Sp} {E : XK} {x : Str} {p pos : Pos} {e : Expr} {es : List Expr} {t : TA}
/-- the callee runs -/
theorem run_G {pins : List (Addr × Obj)} {σ : L2.St} {H : Hp} {s : Shared} {Q : VK} {us : List Value} {vs : List V} (F : FnG X.prog X.w X.K X.mg X.base CX k f fd ps sp) (gd : X.A.guards = some []) (hr : Room k X.A) (hb : Binds X.K fd ps [])
    (hx : Passes CX X E) (I : Inv X pins σ H s) (r : Vals vs us) (h : sp vs H Q E) : wpAny (model X.prog X.w) X.A (call (.ref f) us) (EP X pins σ Q) X.xe s := by
  have hl : (us ++ []).length = ps.length := by
    rw [List.append_nil, ← r.length]
    exact F.len _ _ _ _ h
  have hb1 := hb s us I.kIn hl
  rw [List.append_nil] at hb1
  refine wpAny_call (codeAny_mono (F.go X.A X.stack s H us vs Q E _ gd hr I.env0 hb1 r h) fun res s' hq => ?_)
  match res, hq with
  | .error e, hq => exact hx pins σ H s e s' I hq
  | .ok (.ret u), hq => exact I.after hq
/-- f(e, ..) -/
theorem pe_callG (F : FnG X.prog X.w X.K X.mg X.base CX k f fd ps sp) (gd : X.A.guards = some []) (hr : Room k X.A) (hg : Gl X x) (hm : X.mg x = some (.ref f)) (hk : PySem.W.keepIn X.K (.ref f) = true) (hb : Binds X.K fd ps []) (hx : Passes CX X E)
    (ha : PA X (e :: es) t) (hdb : (x == ("__debug__" : Str)) = false := by decide) (he : starEach (e :: es) X.env = (false, eval e X.env) :: starEach es X.env := by rfl) (hpl : (backTo pos (starEach es X.env)).any (·.1) = false := by rfl) :
    PE X (.Call (.Name x p) (e :: es) [] pos) (fun σ H Q => t σ H fun vs H1 => sp vs H1 Q E) := by
  refine ⟨fun pins s σ H Q I h => wpAny_Call_Name_kw (ld_glob I hg hm ?_ hdb)⟩
  refine PySem.W.callWith_K (h₀ := X.base) I.ok.mod.kin hk (thn (ha.run pos pins s σ H _ I h) fun us s1 hh => ?_) he hpl
  obtain ⟨vs, H1, I1, r, q⟩ := hh
  exact ⟨I1.kIn, run_G F gd hr hb hx I1 r q⟩
end

/-! ### the law's own call -/
theorem law_G {P : Program} {w : World} {K : PySem.W.Frag} {mg mb : Str → Option Value} {CX : CXT} {k : Nat} {fa a : Addr} {fd : FuncData} {x : Str} {sp : Sp} {s : Shared} {vs : List Value} {ns : List Int}
    (KX : K.In s.heap) (hns : s.heap.Ns mainGlobals mg) (hb : s.heap.Ns builtinsNs mb) (hbb : ∀ x : Str, x ≠ "__name__" → mb x = bootBuiltins x) (hlim : s.heap.NoLimit) (hg : s.gens = #[])
    (ha : s.heap.get? a = some { cls := .type "list", data := .seq vs.toArray }) (hi : IntsAre vs ns) (hl : ns.length ≤ sizeLine) (hr : Room k callerA)
    (F : ∀ base : Heap, K.In base → base.Ns mainGlobals mg → FnG P w K mg base CX k fa fd [x] sp) (hbind : ∀ (s : Shared) (u : Value), BindsTo s fd ⟨[u], []⟩ [(x, u)])
    (hsp : ∀ H : Hp, Only H → SqL K H a (ns.map V.int) → sp [.ref a] H (fun v _ => v = .bl true) fun _ _ _ => False)
    (hCX : ∀ H e s', CX [] H s (fun _ _ _ => False) e s' → False) :
    codeAny (model P w) callerA (.call (.ref fa) ⟨[.ref a], []⟩) (fun r s' => r = .ok (.ret (.bool true)) ∧ OldK s.heap s'.heap ∧ s'.os = s.os ∧ AllBare s'.gens) s := by
  -- H may track the script alone
  have main : ∀ H : Hp, (∀ b u, H b = some u → b = a ∧ K.lookup a = none ∧ u = .frz { cls := .type "list", data := .seq vs.toArray } (.lst (ns.map V.int))) → SqL K H a (ns.map V.int) → HOk P w H s.heap →
      codeAny (model P w) callerA (.call (.ref fa) ⟨[.ref a], []⟩) (fun r s' => r = .ok (.ret (.bool true)) ∧ OldK s.heap s'.heap ∧ s'.os = s.os ∧ AllBare s'.gens) s := by
    intro H trk sq ok
    have only : Only H := fun b => by
      cases q : H b with
      | none => exact .inl rfl
      | some u => exact .inr ⟨_, _, congrArg some (trk b u q).2.2⟩
    have free : ∀ {b : Addr} {o : Obj}, s.heap.get? b = some o → (∀ es ep, o.data = .dict es ep → H b = none) := fun {b o} e es ep d => by
      cases q : H b with
      | none => rfl
      | some u =>
        obtain ⟨rfl, _, _⟩ := trk b u q
        have z := e.symm.trans ha
        cases z
        cases d
    have nsB : ∀ {b : Addr} {m : Str → Option Value}, s.heap.Ns b m → (hidT s.heap H).Ns b m := fun {b m} ⟨o, es, ep, e, d, r⟩ => ⟨o, es, ep, hidT_get e (free e es ep d), d, r⟩
    have kB : K.In (hidT s.heap H) := fun b o e => hidT_get (KX b o e) (by
      cases q : H b with
      | none => rfl
      | some u =>
        obtain ⟨rfl, n, _⟩ := trk b u q
        rw [n] at e
        cases e)
    have md : Mod K mg (hidT s.heap H) := ⟨kB, nsB hns, ⟨mb, nsB hb, hbb⟩, hlim.elim fun mc z => ⟨mc, nsB z.1, z.2⟩⟩
    have e0 : Env0 P w K mg (hidT s.heap H) callerA [] s H := ⟨rfl, md, fun b o e => of_hidT e, Nat.le_of_eq (hidT_size _ _), trivial, fun b z => (nomatch z), ok, .of_eq hg⟩
    refine codeAny_mono ((F _ kB (nsB hns)).go callerA [] s H [.ref a] [.ref a] _ _ ⟨[.ref a], []⟩ rfl hr e0 (hbind s (.ref a)) (.cons rfl .nil) (hsp H only sq)) fun r s' h => ?_
    match r, h with
    | .error e, h => exact (hCX H e s' h).elim
    | .ok (.ret u), h =>
      obtain ⟨v, H', os, bare, un, ok', ru, rfl⟩ := h
      obtain rfl : u = Value.bool true := ru
      refine ⟨rfl, OldK.of_keep fun b o e => ?_, os, bare⟩
      cases q : H b with
      | none => exact un.keep b o e q (fun z => nomatch z) (by simp)
      | some u =>
        obtain ⟨_, _, rfl⟩ := trk b u q
        obtain ⟨e1, _⟩ := ok b _ q
        obtain ⟨e2, _⟩ := ok' b _ (un.frzs b _ _ q)
        rw [e] at e1
        cases e1
        exact e2
  have rv := vals_ints hi
  cases hk : K.lookup a with
  | some o =>
    have e := KX a o hk
    rw [ha] at e
    cases e
    refine main (fun _ => none) (fun b u z => nomatch z) (.inr ⟨_, vs.toArray, _, hk, rfl, rfl, rfl, ?_, by simpa using rv⟩) (fun b u z => nomatch z)
    rw [List.size_toArray, hi.length]
    exact hl
  | none =>
    refine main (upd (fun _ => none) a (.frz { cls := .type "list", data := .seq vs.toArray } (.lst (ns.map V.int)))) (fun b u z => ?_) (.inl (.inr ⟨_, upd_same⟩)) (fun b u z => ?_)
    all_goals
      by_cases hb : b = a
      case neg =>
        rw [upd_ne hb] at z
        cases z
      subst hb
      rw [upd_same] at z
      cases z
    · exact ⟨rfl, hk, rfl⟩
    · exact ⟨ha, by rw [List.length_map]; exact hl, vs, _, rv, ha⟩

/-- what k_head leaves, from the promise of the law's def; the script's numbers have at most 2^20 bits -/
theorem walk_G {l : PySem.W.OpenLaw} {n k : Nat} {q : Program} {loose : List Str} {XP : (Str → Option Value) → Heap → Prop} {YP : World → Heap → Prop} {d : DefRec} {K : Params → PySem.W.Frag} {CX : World → CXT} {sp : World → Sp} {x : Str}
    (hn : l.most = some n) (hn2 : n ≤ sizeLine) (hdf : d.params.defaults = []) (hr : Room k callerA)
    (hY : ∀ (w : World) (h : Heap), YP w h → (K w.params).In h)
    (F : ∀ (w : World) (mg : Str → Option Value) (fa : Addr) (h : Heap), (K w.params).In h → h.Ns mainGlobals mg → mg d.name = some (.ref fa) →
      ∃ fd : FuncData, (∀ (s : Shared) (u : Value), BindsTo s fd ⟨[u], []⟩ [(x, u)]) ∧
        ∀ base : Heap, (K w.params).In base → base.Ns mainGlobals mg → FnG l.prog w (K w.params) mg base (CX w) k fa fd [x] (sp w))
    (hsp : ∀ (w : World) (H : Hp) (a : Addr) (ns : List Int), ns.length ≤ n → (∀ z ∈ ns, Builtin.Int.intBits z ≤ 1048576) → Only H → SqL (K w.params) H a (ns.map V.int) → sp w [.ref a] H (fun v _ => v = .bl true) fun _ _ _ => False)
    (hCX : ∀ (w : World) (H : Hp) (s : Shared) (e : Value) (s' : Shared), CX w [] H s (fun _ _ _ => False) e s' → False) :
    PySem.W.WalkO q loose XP YP l.row.toRowW d [] (fun f vs => PySem.call f vs) := by
  refine Att.attach_callB hn hdf fun w s0 s mg mb fa o pm cd doc a vs ns G Y _ _ _ hmg hobj hints hlen hbits hg => ?_
  obtain ⟨fd, hb, hF⟩ := F w mg fa _ (hY w _ Y) G.T.g hmg
  exact law_G (hY w _ Y) G.T.g G.T.b G.T.builtins G.T.nolimit hg hobj hints (Nat.le_trans hlen hn2) hr hF hb (fun H hO hS => hsp w H a ns hlen hbits hO hS) fun H e s' => hCX w H s e s'

/-! ### further rules -/
section
variable {X : Cx}
def CPowW (i j : Int) : Prop := 0 ≤ j ∧ (Builtin.Int.intBits i : Int) * j ≤ 2 ^ 27
theorem op_powW : OpR X (binaryOp .Pow) (rI CPowW fun i j => .int (i ^ j.toNat)) := opI fun i j _ _ _ _ _ hc q => pow_int hc.1 hc.2 q

/-- repr of data of any depth, where nothing guarded is under way -/
def rReprD (K : PySem.W.Frag) : List V → Hp → VK → Prop := fun xs H Q => ∃ x d, xs = [x] ∧ Dp K H x d ∧ d.showable = true ∧ d.hasDict = false ∧ d.depth ≤ 40 ∧ d.shown.length ≤ sizeLine ∧ (∃ a, x = .ref a) ∧ Q (.str d.shown) H
theorem call_reprD {k : Nat} (gd : X.A.guards = some []) (hr : Room k X.A) : CallR X (.builtin "repr") (rReprD X.K) := by
  intro pins s σ H xs us Q I r h
  obtain ⟨x, d, rfl, hd, h1, h2, h3, h4, ⟨a, rfl⟩, q⟩ := h
  obtain ⟨u, rfl, ru⟩ := r.one
  cases (show u = Value.ref a from ru)
  obtain ⟨as, rd⟩ := Dp.reads I d _ _ hd rfl
  have un := hr.un
  exact repr_of_reads' rd h1 (fun z => absurd z (by rw [h2]; decide)) gd (by omega) (fun _ _ e => e) (fun h' u tk hk => ⟨.str d.shown, H, I.kept (t' := tk) hk, ⟨u, rfl⟩, q⟩) h4

/-- a == b, a an instance whose class has the def at g for it; b of any type that goes not ahead -/
def rEqOwn (K : PySem.W.Frag) (C : Addr) (sp : Sp) (E : XK) : R2 := fun x y H Q => ∃ a dx fs t, x = .ref a ∧ H a = some (.ins C dx fs) ∧ TyX K H y t ∧ PySem.W.notFirst K C t = true ∧ sp [x, y] H (fun v H' => Q v H') E
theorem cmp_back {P : Value → Shared → Prop} {z : V} {v : Value} {s' : Shared} (r : RelV z v) (h : P v s') : PySem.W.CmpBack P v s' := by
  cases z
  case non | bl | ref | ty =>
    cases r
    exact h
  case int | str | byt | flt =>
    cases r with
    | intro t e =>
      cases e
      exact h
theorem op_eqOwn {CX : CXT} {k : Nat} {C g : Addr} {fd : FuncData} {ps : List Str} {sp : Sp} {E : XK} (hs : PySem.W.findIn X.K (.ref C) "__eq__" = some (some (.ref g))) (hf : PySem.W.isFn X.K (.ref g) = true) (F : FnOk X.prog X.w X.K X.mg X.base CX k g fd ps sp)
    (hr : Room k X.A) (hb : Binds X.K fd ps []) (hx : Passes CX X E) : OpR X (compareOp .Eq) (rEqOwn X.K C sp E) := by
  intro pins s σ H x y v u Q I rx ry h
  obtain ⟨a, dx, fs, t, rfl, ha, ty, nf, q⟩ := h
  cases (show v = Value.ref a from rx)
  obtain ⟨mA, O, _⟩ := ins_get I.hok ha
  obtain ⟨od, J, _⟩ := O.look
  obtain ⟨Z, kx, hz, _⟩ := kit_of I ry ty
  obtain ⟨m, hF⟩ := I.fr
  show wpAny _ _ (richCompare .Eq (.ref a) u) _ _ _
  refine PySem.W.cmp_K (op := .Eq) hr.units0 hF I.ok.mod.kin J (kx.ty _ _ I.kIn hz) nf hs hf ?_
  refine wpAny_mono (run_fn (us := [.ref a, u]) (vs := [.ref a, y]) F hr hb .nil hx I (.cons rfl (.cons ry .nil)) q) (fun w s' hw => ?_) fun _ _ z => z
  obtain ⟨z, H', I', rz, qz⟩ := hw
  exact cmp_back rz ⟨z, H', I', rz, qz⟩
end

/-! ### defs as constants of the module, called -/
/-- the module's name x holds a def that keeps sp and lets no error out -/
structure Cal (P : Program) (w : World) (K : PySem.W.Frag) (mg : Str → Option Value) (base : Heap) (x : Str) (k : Nat) (sp : Sp) : Prop where
  ex : ∃ (f : Addr) (fd : FuncData) (ps : List Str), FnG P w K mg base CX0 k f fd ps sp ∧ mg x = some (.ref f) ∧ PySem.W.keepIn K (.ref f) = true ∧ Binds K fd ps []
section
variable {X : Cx} {k j : Nat} {sp : Sp} {x : Str} {p pos : Pos} {e : Expr} {es : List Expr} {t : TA}
def tCal (sp : Sp) (t : TA) : TE := fun σ H Q => t σ H fun vs H1 => sp vs H1 Q E0
theorem pe_c (c : Cal X.prog X.w X.K X.mg X.base x k sp) (gd : X.A.guards = some []) (hr : Room j X.A) (hk : k ≤ j) (hg : Gl X x) (ha : PA X (e :: es) t)
    (hdb : (x == ("__debug__" : Str)) = false := by decide) (he : starEach (e :: es) X.env = (false, eval e X.env) :: starEach es X.env := by rfl) (hpl : (backTo pos (starEach es X.env)).any (·.1) = false := by rfl) :
    PE X (.Call (.Name x p) (e :: es) [] pos) (tCal sp t) := by
  obtain ⟨f, fd, ps, F, hm, hkp, hb⟩ := c.ex
  exact pe_callG F gd (hr.mono hk) hg hm hkp hb pass0 ha hdb he hpl
end

/-- the same for a def that may be called anywhere -/
structure CalO (P : Program) (w : World) (K : PySem.W.Frag) (mg : Str → Option Value) (base : Heap) (x : Str) (k : Nat) (sp : Sp) : Prop where
  ex : ∃ (f : Addr) (fd : FuncData) (ps : List Str), FnOk P w K mg base CX0 k f fd ps sp ∧ mg x = some (.ref f) ∧ PySem.W.keepIn K (.ref f) = true ∧ Binds K fd ps []
section
variable {X : Cx} {k j : Nat} {sp : Sp} {x : Str} {p pos : Pos} {e : Expr} {es : List Expr} {t : TA}
theorem pe_o (c : CalO X.prog X.w X.K X.mg X.base x k sp) (hr : Room j X.A) (hk : k ≤ j) (hg : Gl X x) (ha : PA X (e :: es) t)
    (hdb : (x == ("__debug__" : Str)) = false := by decide) (he : starEach (e :: es) X.env = (false, eval e X.env) :: starEach es X.env := by rfl) (hpl : (backTo pos (starEach es X.env)).any (·.1) = false := by rfl) :
    PE X (.Call (.Name x p) (e :: es) [] pos) (tCal sp t) := by
  obtain ⟨f, fd, ps, F, hm, hkp, hb⟩ := c.ex
  refine ⟨fun pins s σ H Q I h => (pe_call F (hr.mono hk) hg hm hkp hb .nil pass0 ha hdb he hpl).run pins s σ H Q I ?_⟩
  exact cast (congrArg (t σ H) (funext fun vs => funext fun H1 => by rw [List.append_nil])) h
end
/-- a module's name as a value -/
theorem pe_gc {X : Cx} {x : Str} {v : V} {pos : Pos} (hg : Gl X x) (h : ∃ u, X.mg x = some u ∧ RelV v u) (hd : (x == ("__debug__" : Str)) = false := by decide) : PE X (.Name x pos) (tC v) := h.elim fun u z => pe_glob hg z.1 z.2 hd
/-! ### the rules that speak of the written part, with that part told by its own name (also within a comprehension) -/
section
variable {X : Cx} {K0 : PySem.W.Frag}
theorem ix_listK (hK : X.K = K0 := by rfl) : IxR X (rIxL K0) := hK ▸ ix_list
theorem ix_tupK (hK : X.K = K0 := by rfl) : IxR X (rIxT K0) := hK ▸ ix_tup
theorem sl_listK (hK : X.K = K0 := by rfl) : SlR X (rSlL K0) := hK ▸ sl_list
theorem op_eqDK {k : Nat} (hr : Room k X.A) (hK : X.K = K0 := by rfl) : OpR X (compareOp .Eq) (rEqD K0) := hK ▸ op_eqD hr.units
theorem op_neDK {k : Nat} (hr : Room k X.A) (hK : X.K = K0 := by rfl) : OpR X (compareOp .NotEq) (rNeD K0) := hK ▸ op_neD hr.units
theorem op_in_seqK (hK : X.K = K0 := by rfl) : OpR X (compareOp .In) (rIn K0 false) := hK ▸ op_in_seq
theorem op_notIn_seqK (hK : X.K = K0 := by rfl) : OpR X (compareOp .NotIn) (rIn K0 true) := hK ▸ op_notIn_seq
def rLenK (K : PySem.W.Frag) : List V → Hp → VK → Prop := fun xs H Q => ∃ p ys, xs = [.ref p] ∧ (SqL K H p ys ∨ SqT K H p ys) ∧ Q (.int ys.length) H
def rListK (K : PySem.W.Frag) : List V → Hp → VK → Prop := fun xs H Q => ∃ p ys, xs = [.ref p] ∧ (SqL K H p ys ∨ SqT K H p ys) ∧ ∀ l, H l = none → Q (.ref l) (upd H l (.lst ys))
theorem call_lenK (hK : X.K = K0 := by rfl) : CallR X (.builtin "len") (rLenK K0) := hK ▸ call_len_seq
theorem call_listK (hK : X.K = K0 := by rfl) : CallR X (.type "list") (rListK K0) := hK ▸ call_list_of
theorem call_isiK (hK : X.K = K0 := by rfl) : CallR X (.builtin "isinstance") (rIsi K0) := hK ▸ call_isi
theorem cr_sortedK (hK : X.K = K0 := by rfl) : CallR X (.builtin "sorted") (rSortedI K0) := hK ▸ cr_sortedI
theorem call_reprK {k : Nat} (gd : X.A.guards = some []) (hr : Room k X.A) (hK : X.K = K0 := by rfl) : CallR X (.builtin "repr") (rReprD K0) := hK ▸ call_reprD gd hr
theorem pe_fldK {e : Expr} {f : Str} {ta : TE} {pos : Pos} (he : PE X e ta) (hb : attributeBase e f X.env (eval e X.env) = eval e X.env) (hK : X.K = K0 := by rfl) : PE X (.Attribute e f pos) (tFld K0 ta f) := hK ▸ pe_fld he hb
end
theorem bt_len : bootBuiltins "len" = some (.builtin "len") := by decide +kernel
theorem bt_max : bootBuiltins "max" = some (.builtin "max") := by decide +kernel
theorem bt_min : bootBuiltins "min" = some (.builtin "min") := by decide +kernel
theorem bt_abs : bootBuiltins "abs" = some (.builtin "abs") := by decide +kernel
theorem bt_sum : bootBuiltins "sum" = some (.builtin "sum") := by decide +kernel
theorem bt_repr : bootBuiltins "repr" = some (.builtin "repr") := by decide +kernel
theorem bt_sorted : bootBuiltins "sorted" = some (.builtin "sorted") := by decide +kernel
theorem bt_all : bootBuiltins "all" = some (.builtin "all") := by decide +kernel
theorem bt_any : bootBuiltins "any" = some (.builtin "any") := by decide +kernel
theorem bt_isinstance : bootBuiltins "isinstance" = some (.builtin "isinstance") := by decide +kernel
theorem bt_int : bootBuiltins "int" = some (.type "int") := by decide +kernel
theorem bt_str : bootBuiltins "str" = some (.type "str") := by decide +kernel
theorem bt_bool : bootBuiltins "bool" = some (.type "bool") := by decide +kernel
theorem bt_list : bootBuiltins "list" = some (.type "list") := by decide +kernel
theorem bt_tuple : bootBuiltins "tuple" = some (.type "tuple") := by decide +kernel
end G

/-! Turns of bits, in plain Lean: a turn has targets ts (a list of the numbers below its length, each once) and flips fl. -/
namespace M

/-- the number below 2^n whose bits are f -/
def nb : Nat → (Nat → Bool) → Nat
  | 0, _ => 0
  | n + 1, f => nb n f + (if f n then 2 ^ n else 0)
theorem nb_lt : ∀ (n : Nat) (f : Nat → Bool), nb n f < 2 ^ n
  | 0, _ => Nat.one_pos
  | n + 1, f => by
    have h := nb_lt n f
    unfold nb
    rw [Nat.pow_succ]
    split <;> omega
theorem testBit_nb : ∀ (n : Nat) (f : Nat → Bool) (j : Nat), (nb n f).testBit j = (decide (j < n) && f j)
  | 0, f, j => by simp [nb]
  | n + 1, f, j => by
    have h := nb_lt n f
    have ih := testBit_nb n f j
    unfold nb
    by_cases hf : f n = true
    · rw [if_pos hf, Nat.add_comm]
      rcases Nat.lt_trichotomy j n with hj | hj | hj
      · rw [Nat.testBit_two_pow_add_gt hj, ih]
        simp [hj, Nat.lt_succ_of_lt hj]
      · subst hj
        rw [Nat.testBit_two_pow_add_eq, ih]
        simp [hf]
      · have e : (2 ^ n + nb n f).testBit j = false := Nat.testBit_lt_two_pow (Nat.lt_of_lt_of_le (by omega : 2 ^ n + nb n f < 2 ^ (n + 1)) (Nat.pow_le_pow_right (by decide) hj))
        rw [e]
        simp
        intro q
        omega
    · rw [if_neg hf, Nat.add_zero, ih]
      rcases Nat.lt_trichotomy j n with hj | hj | hj
      · simp [hj, Nat.lt_succ_of_lt hj]
      · subst hj
        simp [hf]
      · have a : ¬ j < n := by omega
        have b : ¬ j < n + 1 := by omega
        simp [a, b]
theorem nb_ext {n : Nat} {f g : Nat → Bool} (h : ∀ j, j < n → f j = g j) : nb n f = nb n g := by
  refine Nat.eq_of_testBit_eq fun j => ?_
  rw [testBit_nb, testBit_nb]
  by_cases hj : j < n
  · rw [h j hj]
  · simp [hj]
theorem eq_nb {n x : Nat} {f : Nat → Bool} (hx : x < 2 ^ n) (h : ∀ j, j < n → x.testBit j = f j) : x = nb n f := by
  refine Nat.eq_of_testBit_eq fun j => ?_
  rw [testBit_nb]
  by_cases hj : j < n
  · simp [hj, h j hj]
  · have e : x.testBit j = false := Nat.testBit_lt_two_pow (Nat.lt_of_lt_of_le hx (Nat.pow_le_pow_right (by decide) (by omega)))
    simp [hj, e]

/-- targets of a turn -/
structure Ts (ts : List Nat) : Prop where
  one : 1 ≤ ts.length
  most : ts.length ≤ 100
  lt : ∀ t ∈ ts, t < ts.length
  nd : ts.Nodup

/-- where the item at p goes -/
def go (ts : List Nat) (fl p : Nat) : Nat := nb ts.length fun j => (p.testBit (ts.idxOf j)) ^^ fl.testBit j
theorem go_lt (ts : List Nat) (fl p : Nat) : go ts fl p < 2 ^ ts.length := nb_lt _ _

theorem nodup_lt_length : ∀ {n : Nat} {l : List Nat}, l.Nodup → (∀ x ∈ l, x < n) → l.length ≤ n
  | 0, [], _, _ => Nat.le_refl _
  | 0, x :: l, _, h => absurd (h x List.mem_cons_self) (Nat.not_lt_zero _)
  | n + 1, l, nd, h => by
    by_cases hn : n ∈ l
    · have h1 : (l.erase n).length ≤ n := nodup_lt_length (nd.erase n) fun x hx => by
        have hne : x ≠ n := fun e => (List.Nodup.not_mem_erase nd) (e ▸ hx)
        have := h x (List.mem_of_mem_erase hx)
        omega
      rw [List.length_erase_of_mem hn] at h1
      omega
    · have h1 : l.length ≤ n := nodup_lt_length nd fun x hx => by
        have hne : x ≠ n := fun e => hn (e ▸ hx)
        have := h x hx
        omega
      omega
theorem nodup_map_on {α β : Type} {f : α → β} : ∀ {l : List α}, l.Nodup → (∀ x ∈ l, ∀ y ∈ l, f x = f y → x = y) → (l.map f).Nodup
  | [], _, _ => List.nodup_nil
  | a :: l, nd, inj => by
    rw [List.nodup_cons] at nd
    rw [List.map_cons, List.nodup_cons]
    refine ⟨fun hm => ?_, nodup_map_on nd.2 fun x hx y hy => inj x (List.mem_cons_of_mem _ hx) y (List.mem_cons_of_mem _ hy)⟩
    obtain ⟨y, hy, e⟩ := List.mem_map.mp hm
    have := inj y (List.mem_cons_of_mem _ hy) a List.mem_cons_self e
    exact nd.1 (this ▸ hy)
/-- as many different numbers below n as there are: all of them -/
theorem mem_of_full {l : List Nat} (nd : l.Nodup) (lt : ∀ x ∈ l, x < l.length) {j : Nat} (hj : j < l.length) : j ∈ l := by
  by_cases hm : j ∈ l
  · exact hm
  · have h1 : (l.map fun x => if x > j then x - 1 else x).length ≤ l.length - 1 := by
      refine nodup_lt_length ?_ fun y hy => ?_
      · refine nodup_map_on nd fun x hx y hy e => ?_
        have h1 : x ≠ j := fun e => hm (e ▸ hx)
        have h2 : y ≠ j := fun e => hm (e ▸ hy)
        have e' : (if x > j then x - 1 else x) = (if y > j then y - 1 else y) := e
        split at e' <;> split at e' <;> omega
      · obtain ⟨x, hx, rfl⟩ := List.mem_map.mp hy
        have hne : x ≠ j := fun e => hm (e ▸ hx)
        have := lt x hx
        show (if x > j then x - 1 else x) < _
        split <;> omega
    rw [List.length_map] at h1
    omega
theorem perm_range_of {l : List Nat} (nd : l.Nodup) (lt : ∀ x ∈ l, x < l.length) : l.Perm (List.range l.length) :=
  (List.perm_ext_iff_of_nodup nd List.nodup_range).mpr fun x => ⟨fun h => List.mem_range.mpr (lt x h), fun h => mem_of_full nd lt (List.mem_range.mp h)⟩
theorem Ts.of_perm {ts : List Nat} {n : Nat} (h : ts.Perm (List.range n)) (h1 : 1 ≤ n) (h2 : n ≤ 100) : Ts ts ∧ ts.length = n := by
  have hl : ts.length = n := by
    rw [h.length_eq, List.length_range]
  refine ⟨⟨by omega, by omega, fun t ht => ?_, (h.nodup_iff).mpr List.nodup_range⟩, hl⟩
  rw [hl]
  exact List.mem_range.mp (h.mem_iff.mp ht)
theorem Ts.perm {ts : List Nat} (h : Ts ts) : ts.Perm (List.range ts.length) := perm_range_of h.nd h.lt
theorem Ts.mem {ts : List Nat} (h : Ts ts) {j : Nat} (hj : j < ts.length) : j ∈ ts := mem_of_full h.nd h.lt hj
theorem Ts.idx_lt {ts : List Nat} (h : Ts ts) {j : Nat} (hj : j < ts.length) : ts.idxOf j < ts.length := List.idxOf_lt_length_of_mem (h.mem hj)
theorem Ts.idx_get {ts : List Nat} (h : Ts ts) {e t : Nat} (he : ts[e]? = some t) : ts.idxOf t = e := by
  obtain ⟨hlt, rfl⟩ := List.getElem?_eq_some_iff.mp he
  exact h.nd.idxOf_getElem e hlt
theorem Ts.get_idx {ts : List Nat} (h : Ts ts) {j : Nat} (hj : j < ts.length) : ts[ts.idxOf j]? = some j := by
  rw [List.getElem?_eq_getElem (h.idx_lt hj), List.getElem_idxOf]

/-! ### the loop of goes_to: the bits of the first i targets are set -/
/-- bit j is set by one of the first i bits -/
def byFirst (ts : List Nat) (g : Nat → Nat → Bool) (i j : Nat) : Bool := decide (j < ts.length) && decide (ts.idxOf j < i) && g (ts.idxOf j) j
theorem byFirst_zero (ts : List Nat) (g : Nat → Nat → Bool) (j : Nat) : byFirst ts g 0 j = false := by simp [byFirst]
theorem byFirst_all {ts : List Nat} (h : Ts ts) (g : Nat → Nat → Bool) (j : Nat) : byFirst ts g ts.length j = (decide (j < ts.length) && g (ts.idxOf j) j) := by
  unfold byFirst
  by_cases hj : j < ts.length
  · simp [hj, h.idx_lt hj]
  · simp [hj]
theorem byFirst_succ {ts : List Nat} (h : Ts ts) (g : Nat → Nat → Bool) {i t : Nat} (ht : ts[i]? = some t) (j : Nat) : byFirst ts g (i + 1) j = (byFirst ts g i j || (decide (j = t) && g i t)) := by
  have e := h.idx_get ht
  have ht2 : t < ts.length := h.lt t (List.mem_of_getElem? ht)
  unfold byFirst
  by_cases hj : j = t
  · subst hj
    simp [e, ht2]
  · have hne : j < ts.length → ts.idxOf j ≠ i := fun hlt q => by
      have z := h.get_idx hlt
      rw [q, ht] at z
      exact hj (Option.some.inj z).symm
    by_cases hlt : j < ts.length
    · have h1 := hne hlt
      have h2 : (ts.idxOf j < i + 1) = (ts.idxOf j < i) := by
        apply propext
        constructor <;> intro q <;> omega
      simp [hj, h2]
    · simp [hlt, hj]
/-- moved | (bit << t) -/
theorem or_step {ts : List Nat} (h : Ts ts) {g : Nat → Nat → Bool} {i t m : Nat} (ht : ts[i]? = some t) (hm : ∀ j, m.testBit j = byFirst ts g i j) {b : Nat} (hb : b = (g i t).toNat) :
    ∀ j, (m ||| (b * 2 ^ t)).testBit j = byFirst ts g (i + 1) j := fun j => by
  rw [Nat.testBit_or, hm, byFirst_succ h g ht j]
  congr 1
  subst hb
  cases g i t with
  | false => simp
  | true =>
    show (1 * 2 ^ t).testBit j = _
    rw [Nat.one_mul, Nat.testBit_two_pow]
    simp [eq_comm]
theorem add_or_pow {m t : Nat} (h : m.testBit t = false) : m + 2 ^ t = m ||| 2 ^ t := by
  have e1 : m / 2 ^ t % 2 = 0 := by
    rw [Nat.testBit_eq_decide_div_mod_eq] at h
    simpa using h
  have e2 : 2 ^ t * (m / 2 ^ t) + m % 2 ^ t = m := Nat.div_add_mod m (2 ^ t)
  have e3 : m / 2 ^ t = 2 * (m / 2 ^ t / 2) := by omega
  have r : m % 2 ^ t < 2 ^ t := Nat.mod_lt _ (Nat.two_pow_pos t)
  have p : (2 : Nat) ^ (t + 1) = 2 ^ t * 2 := Nat.pow_succ 2 t
  have em : m = 2 ^ (t + 1) * (m / 2 ^ t / 2) + m % 2 ^ t := by
    rw [p, Nat.mul_assoc, ← e3]
    exact e2.symm
  have r2 : 2 ^ t + m % 2 ^ t < 2 ^ (t + 1) := by omega
  have o1 := Nat.two_pow_add_eq_or_of_lt (show m % 2 ^ t < 2 ^ (t + 1) by omega) (m / 2 ^ t / 2)
  have o2 := Nat.two_pow_add_eq_or_of_lt r2 (m / 2 ^ t / 2)
  have o3 := Nat.two_pow_add_eq_or_of_lt r 1
  rw [Nat.mul_one] at o3
  have ml : m + 2 ^ t = 2 ^ (t + 1) * (m / 2 ^ t / 2) + (2 ^ t + m % 2 ^ t) := by omega
  rw [ml, o2, o3]
  have mr : m = 2 ^ (t + 1) * (m / 2 ^ t / 2) ||| m % 2 ^ t := em.trans o1
  rw (occs := .pos [3]) [mr]
  rw [Nat.or_assoc, Nat.or_comm (m % 2 ^ t)]
/-- found + 2^t where the t-th bit is not yet set -/
theorem add_step {ts : List Nat} (h : Ts ts) {g : Nat → Nat → Bool} {i t m : Nat} (ht : ts[i]? = some t) (hm : ∀ j, m.testBit j = byFirst ts g i j) :
    ∀ j, (if g i t = true then m + 2 ^ t else m).testBit j = byFirst ts g (i + 1) j := fun j => by
  have e0 : m.testBit t = false := by
    rw [hm]
    unfold byFirst
    rw [h.idx_get ht]
    simp
  rw [byFirst_succ h g ht j]
  cases hg : g i t with
  | false => simp [hm]
  | true =>
    rw [if_pos rfl, ← hm]
    have e : m + 2 ^ t = m ||| 2 ^ t := add_or_pow e0
    rw [e, Nat.testBit_or, Nat.testBit_two_pow]
    simp [eq_comm]
theorem go_of_or {ts : List Nat} (h : Ts ts) {fl p m : Nat} (hf : fl < 2 ^ ts.length) (hm : ∀ j, m.testBit j = byFirst ts (fun e _ => p.testBit e) ts.length j) : m ^^^ fl = go ts fl p := by
  refine Nat.eq_of_testBit_eq fun j => ?_
  rw [Nat.testBit_xor, hm, byFirst_all h]
  unfold go
  rw [testBit_nb]
  by_cases hj : j < ts.length
  · simp [hj]
  · have e : fl.testBit j = false := Nat.testBit_lt_two_pow (Nat.lt_of_lt_of_le hf (Nat.pow_le_pow_right (by decide) (by omega)))
    simp [hj, e]
theorem go_of_add {ts : List Nat} (h : Ts ts) {fl p m : Nat} (hm : ∀ j, m.testBit j = byFirst ts (fun e t => p.testBit e != fl.testBit t) ts.length j) : m = go ts fl p := by
  refine Nat.eq_of_testBit_eq fun j => ?_
  rw [hm, byFirst_all h]
  unfold go
  rw [testBit_nb]
/-! ### different items go to different places -/
theorem go_bit {ts : List Nat} (h : Ts ts) (fl p : Nat) {e t : Nat} (he : ts[e]? = some t) : (go ts fl p).testBit t = (p.testBit e ^^ fl.testBit t) := by
  unfold go
  rw [testBit_nb, h.idx_get he]
  simp [h.lt t (List.mem_of_getElem? he)]
theorem bits_ext {n p q : Nat} (hp : p < 2 ^ n) (hq : q < 2 ^ n) (h : ∀ e, e < n → p.testBit e = q.testBit e) : p = q := by
  rw [eq_nb hp h]
  exact (eq_nb hq fun _ _ => rfl).symm
theorem go_inj {ts : List Nat} (h : Ts ts) {fl p q : Nat} (hp : p < 2 ^ ts.length) (hq : q < 2 ^ ts.length) (e : go ts fl p = go ts fl q) : p = q :=
  bits_ext hp hq fun i hi => by
    have a := go_bit h fl p (List.getElem?_eq_getElem hi)
    have b := go_bit h fl q (List.getElem?_eq_getElem hi)
    rw [e, b] at a
    revert a
    cases p.testBit i <;> cases q.testBit i <;> cases fl.testBit ts[i] <;> decide
theorem go_all {ts : List Nat} (h : Ts ts) (fl : Nat) : ((List.range (2 ^ ts.length)).map (go ts fl)).Perm (List.range (2 ^ ts.length)) := by
  have hl : ((List.range (2 ^ ts.length)).map (go ts fl)).length = 2 ^ ts.length := by rw [List.length_map, List.length_range]
  have z := perm_range_of (l := (List.range (2 ^ ts.length)).map (go ts fl)) (nodup_map_on List.nodup_range fun x hx y hy => go_inj h (List.mem_range.mp hx) (List.mem_range.mp hy)) fun x hx => by
    obtain ⟨p, _, rfl⟩ := List.mem_map.mp hx
    rw [hl]
    exact go_lt _ _ _
  rw [hl] at z
  exact z
end M

/-! Heaps that grow; promises by the number of parameters; ints as naturals and bits. -/
namespace G
open PySem PySem.Spec PyProof.Rows L2

/-! ### promises of one to four parameters -/
def sp1 (P : V → Hp → VK → Prop) : Sp := fun vs H Q _ => ∃ a, vs = [a] ∧ P a H Q
def sp2 (P : V → V → Hp → VK → Prop) : Sp := fun vs H Q _ => ∃ a b, vs = [a, b] ∧ P a b H Q
def sp3 (P : V → V → V → Hp → VK → Prop) : Sp := fun vs H Q _ => ∃ a b c, vs = [a, b, c] ∧ P a b c H Q
def sp4 (P : V → V → V → V → Hp → VK → Prop) : Sp := fun vs H Q _ => ∃ a b c d, vs = [a, b, c, d] ∧ P a b c d H Q
theorem sp1_len {P : V → Hp → VK → Prop} {x : Str} : ∀ vs H Q E, sp1 P vs H Q E → vs.length = [x].length := fun vs H Q E h => by
  obtain ⟨a, rfl, _⟩ := h
  rfl
theorem sp2_len {P : V → V → Hp → VK → Prop} {x y : Str} : ∀ vs H Q E, sp2 P vs H Q E → vs.length = [x, y].length := fun vs H Q E h => by
  obtain ⟨a, b, rfl, _⟩ := h
  rfl
theorem sp3_len {P : V → V → V → Hp → VK → Prop} {x y z : Str} : ∀ vs H Q E, sp3 P vs H Q E → vs.length = [x, y, z].length := fun vs H Q E h => by
  obtain ⟨a, b, c, rfl, _⟩ := h
  rfl
theorem sp4_len {P : V → V → V → V → Hp → VK → Prop} {x y z u : Str} : ∀ vs H Q E, sp4 P vs H Q E → vs.length = [x, y, z, u].length := fun vs H Q E h => by
  obtain ⟨a, b, c, d, rfl, _⟩ := h
  rfl

/-! ### what is tracked stays -/
def Ext (H H' : Hp) : Prop := ∀ b o, H b = some o → H' b = some o
theorem Ext.refl (H : Hp) : Ext H H := fun _ _ h => h
theorem Ext.trans {H H1 H2 : Hp} (a : Ext H H1) (b : Ext H1 H2) : Ext H H2 := fun c o h => b c o (a c o h)
theorem Ext.new {H : Hp} {p : Addr} {o : HO} (h : H p = none) : Ext H (upd H p o) := fun a u e => by
  rw [upd_ne (ne_of_none e h)]
  exact e
theorem Ext.new' {H H1 : Hp} {p : Addr} {o : HO} (e : Ext H H1) (h : H1 p = none) : Ext H (upd H1 p o) := e.trans (Ext.new h)
/-- what H does not know may change -/
theorem Ext.mut {H H1 : Hp} {p : Addr} {o : HO} (e : Ext H H1) (h : H p = none) : Ext H (upd H1 p o) := fun a u ha => by
  rw [upd_ne (ne_of_none ha h)]
  exact e a u ha
theorem Ext.free {H H1 : Hp} {p : Addr} (e : Ext H H1) (h : H1 p = none) : H p = none := by
  cases q : H p with
  | none => rfl
  | some o =>
    rw [e p o q] at h
    cases h
theorem Ext.sqL {K : PySem.W.Frag} {H H1 : Hp} {a : Addr} {xs : List V} (e : Ext H H1) (h : SqL K H a xs) : SqL K H1 a xs := by
  rcases h with (h | ⟨o, h⟩) | h
  · exact .inl (.inl (e _ _ h))
  · exact .inl (.inr ⟨o, e _ _ h⟩)
  · exact .inr h
theorem Ext.sqT {K : PySem.W.Frag} {H H1 : Hp} {a : Addr} {xs : List V} (e : Ext H H1) (h : SqT K H a xs) : SqT K H1 a xs := by
  rcases h with (h | ⟨o, h⟩) | h
  · exact .inl (.inl (e _ _ h))
  · exact .inl (.inr ⟨o, e _ _ h⟩)
  · exact .inr h

/-! ### all stays but one list (the reel of the draws) -/
def Stp (r : Addr) (H H' : Hp) : Prop := ∀ b o, H b = some o → b ≠ r → H' b = some o
theorem Stp.refl (r : Addr) (H : Hp) : Stp r H H := fun _ _ h _ => h
theorem Stp.trans {r : Addr} {H H1 H2 : Hp} (a : Stp r H H1) (b : Stp r H1 H2) : Stp r H H2 := fun c o h hc => b c o (a c o h hc) hc
theorem Ext.stp {r : Addr} {H H1 : Hp} (e : Ext H H1) : Stp r H H1 := fun b o h _ => e b o h
theorem Stp.ext {r : Addr} {H H1 H2 : Hp} (a : Stp r H H1) (e : Ext H1 H2) : Stp r H H2 := a.trans e.stp
theorem Stp.put {r : Addr} {H : Hp} {o : HO} : Stp r H (upd H r o) := fun b u h hb => by
  rw [upd_ne hb]
  exact h
theorem Stp.free {r : Addr} {H H1 : Hp} {p : Addr} (e : Stp r H H1) (h : H1 p = none) (hp : p ≠ r) : H p = none := by
  cases q : H p with
  | none => rfl
  | some o =>
    rw [e p o q hp] at h
    cases h

/-! ### ints -/
/-- a list of naturals, as values -/
def nv (l : List Nat) : List V := l.map fun (n : Nat) => V.int (n : Int)
theorem nv_len (l : List Nat) : (nv l).length = l.length := List.length_map _
theorem nv_get {l : List Nat} {i : Nat} {v : V} (h : (nv l)[i]? = some v) : ∃ n, l[i]? = some n ∧ v = .int (n : Int) := by
  unfold nv at h
  rw [List.getElem?_map] at h
  cases e : l[i]? with
  | none =>
    rw [e] at h
    cases h
  | some n =>
    rw [e] at h
    exact ⟨n, rfl, (Option.some.inj h).symm⟩
theorem nv_at {l : List Nat} {i n : Nat} (h : l[i]? = some n) : (nv l)[i]? = some (.int (n : Int)) := by
  unfold nv
  rw [List.getElem?_map, h]
  rfl
theorem nv_ints (l : List Nat) : nv l = (l.map fun (n : Nat) => (n : Int)).map V.int := by
  unfold nv
  rw [List.map_map]
  rfl
theorem atI_nv {l : List Nat} {i n : Nat} (h : l[i]? = some n) : atI (nv l) (i : Int) = some (.int (n : Int)) := atI_nat (nv_at h)
theorem rgV_nv (n : Nat) : rgV 0 (n : Int) = nv (List.range n) := by
  unfold rgV nv
  rw [show ((n : Int) - 0).toNat = n by omega]
  refine List.map_congr_left fun i _ => ?_
  rw [Int.zero_add]
theorem nv_append (a b : List Nat) : nv (a ++ b) = nv a ++ nv b := List.map_append
theorem nv_set (l : List Nat) (i n : Nat) : (nv l).set i (.int (n : Int)) = nv (l.set i n) := by
  unfold nv
  rw [List.map_set]
theorem nv_rev (l : List Nat) : (nv l).reverse = nv l.reverse := List.map_reverse.symm

theorem or_parts : ∀ a b : Nat, a ||| b = (a ^^^ b) + (a &&& b) := by
  intro a
  induction a using Nat.strongRecOn with
  | _ a ih =>
    intro b
    by_cases h0 : a = 0
    · subst h0
      simp
    have e1 := ih (a / 2) (by omega) (b / 2)
    have d1 : (a ||| b) / 2 = a / 2 ||| b / 2 := Nat.or_div_two
    have d2 : (a ^^^ b) / 2 = a / 2 ^^^ b / 2 := Nat.xor_div_two
    have d3 : (a &&& b) / 2 = a / 2 &&& b / 2 := Nat.and_div_two
    have m1 : (a ||| b) % 2 = 1 ↔ a % 2 = 1 ∨ b % 2 = 1 := Nat.or_mod_two_eq_one
    have m2 : (a &&& b) % 2 = 1 ↔ a % 2 = 1 ∧ b % 2 = 1 := Nat.and_mod_two_eq_one
    have m3 : (a ^^^ b) % 2 = 1 ↔ ¬(a % 2 = 1 ↔ b % 2 = 1) := Nat.xor_mod_two_eq_one
    omega
theorem bitAnd_nat (a b : Nat) : Builtin.bitAnd (a : Int) (b : Int) = ((a &&& b : Nat) : Int) := by
  unfold Builtin.bitAnd
  rw [decide_eq_true (Int.natCast_nonneg a), decide_eq_true (Int.natCast_nonneg b)]
  simp
theorem bitOr_nat (a b : Nat) : Builtin.bitOr (a : Int) (b : Int) = ((a ||| b : Nat) : Int) := bitOr_nn (Int.natCast_nonneg a) (Int.natCast_nonneg b)
theorem bitXor_nat (a b : Nat) : Builtin.bitXor (a : Int) (b : Int) = ((a ^^^ b : Nat) : Int) := by
  unfold Builtin.bitXor
  rw [bitAnd_nat, bitOr_nat]
  have := or_parts a b
  omega
theorem shr_nat (a : Nat) (k : Nat) : (a : Int) / 2 ^ ((k : Int).toNat) = ((a / 2 ^ k : Nat) : Int) := by
  rw [Int.toNat_natCast]
  simp
theorem shl_nat (a : Nat) (k : Nat) : (a : Int) * 2 ^ ((k : Int).toNat) = ((a * 2 ^ k : Nat) : Int) := by
  rw [Int.toNat_natCast]
  simp
theorem one_shl (k : Nat) : (1 : Int) * 2 ^ ((k : Int).toNat) = ((2 ^ k : Nat) : Int) := by
  rw [Int.toNat_natCast, Int.one_mul]
  simp
/-- (x >> k) & 1 -/
theorem bit_at (a k : Nat) : Builtin.bitAnd ((a : Int) / 2 ^ ((k : Int).toNat)) 1 = (((a.testBit k).toNat : Nat) : Int) := by
  rw [shr_nat]
  show Builtin.bitAnd ((a / 2 ^ k : Nat) : Int) ((1 : Nat) : Int) = _
  rw [bitAnd_nat, Nat.and_one_is_mod, Nat.testBit_eq_decide_div_mod_eq]
  have : a / 2 ^ k % 2 = 0 ∨ a / 2 ^ k % 2 = 1 := by omega
  rcases this with h | h <;> rw [h] <;> simp
/-! ### lists of naturals as data -/
def nd (l : List Nat) : List PyData := l.map fun (n : Nat) => PyData.int (n : Int)
theorem dpAll_nv {K : PySem.W.Frag} {H : Hp} : ∀ l : List Nat, DpAll K H (nv l) (nd l)
  | [] => .nil
  | n :: l => .cons (.int _) (dpAll_nv l)
theorem dp_nv {K : PySem.W.Frag} {H : Hp} {a : Addr} {l : List Nat} (h : H a = some (.lst (nv l))) : Dp K H (.ref a) (.list (nd l)) := .lst (SqL.of h) (dpAll_nv l)
open PyData in
theorem nd_canLay : ∀ l : List Nat, canLayAll0 (nd l) = true
  | [] => by simp only [nd, List.map_nil, canLayAll0]
  | n :: l => by
    have ih := nd_canLay l
    unfold nd at ih ⊢
    simp only [List.map_cons, canLayAll0, canLay0, Bool.true_and]
    exact ih
open PyData in
theorem nd_depth : ∀ l : List Nat, depthAll (nd l) = 0
  | [] => by simp only [nd, List.map_nil, depthAll]
  | n :: l => by
    have ih := nd_depth l
    unfold nd at ih ⊢
    simp only [List.map_cons, depthAll, depth, Nat.zero_max]
    exact ih
open PyData in
theorem nd_eqvAll : ∀ l m : List Nat, eqvAll (nd l) (nd m) = decide (l = m)
  | [], [] => by simp [nd, eqvAll]
  | [], b :: m => by simp [nd, eqvAll]
  | a :: l, [] => by simp [nd, eqvAll]
  | a :: l, b :: m => by
    have ih := nd_eqvAll l m
    show (eqv (.int (a : Int)) (.int (b : Int)) && eqvAll (nd l) (nd m)) = _
    rw [ih]
    have e : eqv (.int (a : Int)) (.int (b : Int)) = decide (a = b) := by
      unfold eqv
      by_cases h : a = b
      · subst h
        simp
      · have h' : ¬ ((a : Int) = (b : Int)) := by omega
        simp [h, h']
    rw [e]
    by_cases h : a = b <;> by_cases g : l = m <;> simp [h, g]
theorem nd_shaped (l : List Nat) : SeqAt.shaped (.list (nd l)) = true := by
  unfold SeqAt.shaped
  rw [show PyData.canLay0 (.list (nd l)) = true by unfold PyData.canLay0; exact nd_canLay l]
  unfold PyData.depth
  rw [nd_depth]
  rfl
theorem nd_eq (l m : List Nat) : PyData.eqv (.list (nd l)) (.list (nd m)) = decide (l = m) := by
  unfold PyData.eqv
  exact nd_eqvAll l m

/-! ### their texts -/
theorem textFrom_le : ∀ (ts : List Str) (k : Nat) (acc : Str), (textFrom k acc ts).length ≤ acc.length + piled ts
  | [], k, acc => by
    rw [piled_nil]
    exact Nat.le_refl _
  | t :: r, k, acc => by
    have ih := textFrom_le r (k + 1) (acc ++ (if k > 0 then ", " else "" : String) ++ t)
    have e : ((((if k > 0 then ", " else "" : String)) : Str)).length ≤ 2 := by split <;> decide +kernel
    rw [strLen_append, strLen_append] at ih
    rw [piled_cons]
    show (textFrom (k + 1) _ r).length ≤ _
    omega
theorem listText_le (ts : List Str) : (listText ts).length ≤ piled ts + 2 := by
  have h := textFrom_le ts 0 "["
  have e1 : ((("[" : String) : Str)).length = 1 := rfl
  have e2 : ((("]" : String) : Str)).length = 1 := rfl
  unfold listText
  rw [strLen_append, e2]
  omega
theorem int_show_le {i : Int} (h : i.natAbs.log2 < 1920) : (PyData.shown (.int i)).length ≤ 1921 := by
  unfold PyData.shown
  exact int_text_len_1921 h
open PyData in
theorem nd_show : ∀ l : List Nat, (∀ n ∈ l, n < 2 ^ 1900) → showableAll (nd l) = true ∧ hasDictAll (nd l) = false ∧ piled (shownAll (nd l)) ≤ 1923 * l.length
  | [], _ => ⟨by simp only [nd, List.map_nil, showableAll], by simp only [nd, List.map_nil, hasDictAll], by simp [nd, shownAll, piled]⟩
  | n :: l, h => by
    obtain ⟨h1, h2, h3⟩ := nd_show l fun x hx => h x (List.mem_cons_of_mem _ hx)
    have hl : ((n : Int)).natAbs.log2 < 1920 := by
      have := h n List.mem_cons_self
      rw [Int.natAbs_natCast]
      by_cases h0 : n = 0
      · subst h0
        decide
      · rw [Nat.log2_lt h0]
        exact Nat.lt_trans this (Nat.pow_lt_pow_right (by decide) (by decide))
    have h4 := int_show_le hl
    unfold nd at h1 h2 h3 ⊢
    simp only [List.map_cons, showableAll, showable, hasDictAll, hasDict, shownAll, piled_cons, List.length_cons, decide_eq_true hl, Bool.true_and, Bool.false_or]
    exact ⟨h1, h2, by omega⟩
theorem cut_from (xs : List V) (k : Nat) (h : k ≤ xs.length) : cutV xs (some (k : Int)) none = xs.drop k := by
  unfold cutV
  rw [HT.sIx_nat, HT.sIx_none, Nat.min_eq_left h, List.take_of_length_le (by rw [List.length_drop]; exact Nat.le_refl _)]
theorem cut_to (xs : List V) (k : Nat) (h : k ≤ xs.length) : cutV xs none (some (k : Int)) = xs.take k := by
  unfold cutV
  rw [HT.sIx_nat, HT.sIx_none, Nat.min_eq_left h]
  rfl
end G

/-! Readings, step by step: for each transformer the one step that it stands for. -/
namespace G
open PySem PySem.Spec PyProof.Rows L2
section
variable {D : Ends} {σ : L2.St} {H : Hp} {Q : VK} {t u : TS} {te ta tb tc : TE} {tt tu : TT} {tl tr : TA} {g : TG} {gs : TGs} {v x y : V} {i j : Int} {K : PySem.W.Frag} {r r' : R2} {QT : Bool → Hp → Prop} {QL : List V → Hp → Prop} {QS : L2.St → Hp → Prop}
theorem g_seq (h : t { D with nx := u D } σ H) : tSeq t u D σ H := h
theorem g_next (h : D.nx σ H) : tNext D σ H := h
theorem g_asg (h : te σ H fun x H1 => g x σ H1 D.nx) : tAsg te g D σ H := h
theorem g_drop (h : te σ H fun _ H1 => D.nx σ H1) : tDrop te D σ H := h
theorem g_ret (h : te σ H D.rt) : tRet te D σ H := h
theorem g_if (h : tt σ H fun b H1 => if b = true then t D σ H1 else u D σ H1) : tIfS tt t u D σ H := h
theorem g_par {a b : Nat} (h : tl σ H fun vs H1 => ∃ v w, vs = [v, w] ∧ D.nx ((σ.set a (some v)).set b (some w)) H1) : tPar a b tl D σ H := h
theorem g_par2 {a b : Nat} {v w : V} (h : QS ((σ.set a (some v)).set b (some w)) H) : ∃ v' w', [v, w] = [v', w'] ∧ QS ((σ.set a (some v')).set b (some w')) H := ⟨v, w, rfl, h⟩
theorem g_name {n : Nat} (h : QS (σ.set n (some v)) H) : gName n v σ H QS := h
theorem g_gtup {a : Addr} {n : Nat} {xs : List V} (hs : SqT K H a xs) (hl : xs.length = n) (h : gs xs σ H QS) : gTup K n gs (.ref a) σ H QS := ⟨a, xs, rfl, hs, hl, h⟩
theorem g_gcons {vs : List V} (h : g v σ H fun σ' H' => gs vs σ' H' QS) : gCons g gs (v :: vs) σ H QS := ⟨v, vs, rfl, h⟩
theorem g_gnil (h : QS σ H) : gNil [] σ H QS := ⟨rfl, h⟩
theorem g_gsub {t : TSet} (h : ta σ H fun o H1 => tb σ H1 fun i H2 => t o i v H2 fun H3 => QS σ H3) : gSub ta tb t v σ H QS := h
theorem g_var {n : Nat} (e : σ[n]? = some (some v)) (h : Q v H) : tVar n σ H Q := ⟨v, e, h⟩
theorem g_c (h : Q v H) : tC v σ H Q := h
theorem g_op (h : ta σ H fun x H1 => tb σ H1 fun y H2 => r x y H2 Q) : tOp r ta tb σ H Q := h
theorem g_un {r : V → Hp → VK → Prop} (h : ta σ H fun x H1 => r x H1 Q) : tUn r ta σ H Q := h
theorem g_I0 {f : Int → Int → V} (h : Q (f i j) H) : rI0 f (.int i) (.int j) H Q := ⟨i, j, rfl, rfl, h⟩
theorem g_I {C : Int → Int → Prop} {f : Int → Int → V} (c : C i j) (h : Q (f i j) H) : rI C f (.int i) (.int j) H Q := ⟨i, j, rfl, rfl, c, h⟩
theorem g_U {f : Int → V} (h : Q (f i) H) : rU f (.int i) H Q := ⟨i, rfl, h⟩
theorem g_eq (s : scal x y = true) (h : Q (.bl (decide (x = y))) H) : rEq x y H Q := ⟨s, h⟩
theorem g_ne (s : scal x y = true) (h : Q (.bl (!decide (x = y))) H) : rNe x y H Q := ⟨s, h⟩
theorem g_test (h : te σ H fun x H' => ∃ k, x = .bl k ∧ QT k H') : tTest te σ H QT := h
theorem g_B (h : te σ H fun x H' => ∃ k, x = .bl k ∧ QT k H') : tB te σ H QT := h
theorem g_bl {b : Bool} {P : Bool → Prop} (h : P b) : ∃ k, V.bl b = .bl k ∧ P k := ⟨b, rfl, h⟩
theorem g_yes (h : QT true H) : tYes σ H QT := h
theorem g_and (h : tt σ H fun c H1 => if c = true then tu σ H1 QT else QT false H1) : tAnd tt tu σ H QT := h
theorem g_or (h : tt σ H fun c H1 => if c = true then QT true H1 else tu σ H1 QT) : tOr tt tu σ H QT := h
theorem g_not (h : tt σ H fun c H1 => QT (!c) H1) : tNot tt σ H QT := h
theorem g_andV (h : ta σ H fun x H1 => ∃ c, x = .bl c ∧ if c = true then tb σ H1 Q else Q (.bl false) H1) : tAndV ta tb σ H Q := h
theorem g_orV (h : ta σ H fun x H1 => ∃ c, x = .bl c ∧ if c = true then Q (.bl true) H1 else tb σ H1 Q) : tOrV ta tb σ H Q := h
theorem g_notV (h : ta σ H fun x H1 => ∃ c, x = .bl c ∧ Q (.bl (!c)) H1) : tNotV ta σ H Q := h
theorem g_ifE (h : tt σ H fun c H1 => if c = true then ta σ H1 Q else tb σ H1 Q) : tIf tt ta tb σ H Q := h
theorem g_chain (h : ta σ H fun x H1 => tb σ H1 fun y H2 => r x y H2 fun z H3 => ∃ k, z = .bl k ∧ (if k = true then tc σ H3 fun w H4 => r' y w H4 Q else Q (.bl false) H3)) : tChain r r' ta tb tc σ H Q := h
theorem g_nil (h : QL [] H) : tNil σ H QL := h
theorem g_cons (h : te σ H fun x H1 => tl σ H1 fun xs H2 => QL (x :: xs) H2) : tCons te tl σ H QL := h
theorem g_cal {sp : Sp} (h : tl σ H fun vs H1 => sp vs H1 Q E0) : tCal sp tl σ H Q := h
theorem g_cb {r : List V → Hp → VK → Prop} (h : tl σ H fun vs H1 => r vs H1 Q) : tCB r tl σ H Q := h
theorem g_sp1 {P : V → Hp → VK → Prop} {E : XK} (h : P x H Q) : sp1 P [x] H Q E := ⟨x, rfl, h⟩
theorem g_sp2 {P : V → V → Hp → VK → Prop} {E : XK} (h : P x y H Q) : sp2 P [x, y] H Q E := ⟨x, y, rfl, h⟩
theorem g_sp3 {P : V → V → V → Hp → VK → Prop} {E : XK} {z : V} (h : P x y z H Q) : sp3 P [x, y, z] H Q E := ⟨x, y, z, rfl, h⟩
theorem g_sp4 {P : V → V → V → V → Hp → VK → Prop} {E : XK} {z z' : V} (h : P x y z z' H Q) : sp4 P [x, y, z, z'] H Q E := ⟨x, y, z, z', rfl, h⟩
theorem g_tup {xs : List V} (hl : xs.length ≤ sizeLine) (h : ∀ p, H p = none → Q (.ref p) (upd H p (.tup xs))) : (fun xs H1 => xs.length ≤ sizeLine ∧ ∀ p, H1 p = none → Q (.ref p) (upd H1 p (.tup xs))) xs H := ⟨hl, h⟩
theorem g_tupT (h : tl σ H fun xs H1 => xs.length ≤ sizeLine ∧ ∀ p, H1 p = none → Q (.ref p) (upd H1 p (.tup xs))) : tTup tl σ H Q := h
theorem g_lstT (h : tl σ H fun xs H1 => xs.length ≤ sizeLine ∧ ∀ p, H1 p = none → Q (.ref p) (upd H1 p (.lst xs))) : tLst tl σ H Q := h
/-- a written list or tuple is short -/
theorem g_short {xs : List V} {P : Addr → Prop} (hl : decide (xs.length ≤ 1000) = true) (h : ∀ p, H p = none → P p) : xs.length ≤ sizeLine ∧ ∀ p, H p = none → P p := ⟨Nat.le_trans (of_decide_eq_true hl) (by decide), h⟩
theorem g_int1 {n : Int} (h : Q (.int n) H) : (fun xs H Q => (∃ i, xs = [V.int i] ∧ Q (.int i) H) ∨ ∃ k, xs = [V.bl k] ∧ Q (.int (if k then 1 else 0)) H) [V.int n] H Q := .inl ⟨n, rfl, h⟩
end

section
variable {D : Ends} {σ : L2.St} {H : Hp} {Q : VK} {te ta tb : TE} {K : PySem.W.Frag} {v : V}
/-- o.f, o in the slot n -/
theorem g_fld {n : Nat} {a C dx : Addr} {fs : List (Str × V)} {f : Str} (ha : H a = some (.ins C dx fs)) (c : Cls K C) (no : NoAttr K C f) (l : fs.lookup f = some v) (h : Q v H) (e : σ[n]? = some (some (.ref a)) := by rfl) : tFld K (tVar n) f σ H Q :=
  ⟨.ref a, e, a, C, dx, fs, v, rfl, ha, c, no, l, h⟩
end
section
variable {D : Ends} {σ : L2.St} {H : Hp} {Q : VK} {tb : TS} {ta tv te : TE} {tl : TA} {tt : TT} {K : PySem.W.Frag} {g : TG} {wi : TI} {vs : List Nat} {R : It → Hp → Prop} {xs : List V} {a : Addr}
theorem g_sfld {f : Str} (h : tv σ H fun y H1 => ta σ H1 fun x H2 => ∃ a C dx fs, x = .ref a ∧ H2 a = some (.ins C dx fs) ∧ Cls K C ∧ NoAttr K C f ∧ fs.length < 1000 ∧ D.nx σ (upd H2 a (.ins C dx (putF f y fs)))) : sFld K ta tv f D σ H := h
theorem g_dput (h : tv σ H fun v H1 => ta σ H1 fun x H2 => te σ H2 fun y H3 => ∃ a H4, x = .ref a ∧ DPut H3 a y v H4 ∧ D.nx σ H4) : sDPut ta te tv D σ H := h
theorem g_din (h : te σ H fun y H1 => ta σ H1 fun x H2 => ∃ a o, x = .ref a ∧ DGet H2 a y o ∧ Q (.bl o.isSome) H2) : tDIn te ta σ H Q := h
theorem g_dnew (h : ∀ p, H p = none → Q (.ref p) (upd H p (.dK []))) : tDNewK σ H Q := h
theorem g_ienum (h : tl σ H fun vs H1 => ∃ a xs, vs = [.ref a] ∧ SqL K H1 a xs ∧ R (Ite K a) H1) : iEnum K tl σ H R := h
theorem g_irng1 (h : tl σ H fun vs H1 => ∃ j : Int, vs = [.int j] ∧ -(2 ^ 62) ≤ j ∧ j < 2 ^ 62 ∧ R (Itr 0 j.toNat) H1) : iRng1 tl σ H R := h
theorem g_ilist (h : ta σ H fun x H1 => ∃ a, x = .ref a ∧ (∃ xs, SqL K H1 a xs) ∧ R (Itl K a) H1) : iList K ta σ H R := h
theorem g_itup (h : ta σ H fun x H1 => ∃ a, x = .ref a ∧ (∃ xs, SqT K H1 a xs) ∧ R (Itt K a) H1) : iTup K ta σ H R := h
/-- what a for asks behind its head -/
abbrev ForW (g : TG) (tb : TS) (D : Ends) (σ : L2.St) (J : It) (H1 : Hp) : Prop := ∃ W : Nat → Nat → L2.St → Hp → Prop, (∃ m, W 0 m σ H1) ∧ ∀ i m σ H, W i m σ H →
  (J.stop i H ∧ D.nx σ H) ∨ (J.go i H ∧ ∃ N : L2.St → Hp → Prop, (∀ σ' H', N σ' H' → ∃ m', m' < m ∧ W (i + 1) m' σ' H') ∧ ∀ x H', J.yld i H x H' → g x σ H' fun σ2 H2 => tb { D with nx := N, ct := N, bk := D.nx } σ2 H2)
theorem g_for (h : wi σ H fun J H1 => ForW g tb D σ J H1) : tFor wi g tb D σ H := h
/-- what a comprehension asks behind its head -/
abbrev LcW (g : TG) (tt : TT) (te : TE) (vs : List Nat) (σ : L2.St) (Q : VK) (J : It) (H1 : Hp) : Prop := ∀ D, H1 D = none → ∃ W : Nat → Nat → Hp → Prop, (∃ m, W 0 m (upd H1 D (.lst []))) ∧ ∀ i m H, W i m H →
  (J.stop i H ∧ Q (.ref D) H) ∨ (J.go i H ∧ ∃ Nx : Hp → Prop, (∀ H', Nx H' → ∃ m', m' < m ∧ W (i + 1) m' H') ∧ ∀ x H', J.yld i H x H' → g x (wipe σ vs) H' fun σ2 H2 => wipe σ2 vs = wipe σ vs ∧ tt σ2 H2 fun b H3 =>
    if b = true then te σ2 H3 fun y H4 => ∃ acc, H4 D = some (.lst acc) ∧ acc.length < sizeLine ∧ Nx (upd H4 D (.lst (acc ++ [y]))) else Nx H3)
theorem g_lc (h : wi σ H fun J H1 => LcW g tt te vs σ Q J H1) : tLc wi g tt te vs σ H Q := h

/-! loops: Pv by the turn, the slots, the heap -/
/-- for i, x in enumerate(list): slots c and d -/
theorem u_enum {c d n : Nat} (hx : SqL K H a xs) (Pv : Nat → L2.St → Hp → Prop) (h0 : Pv 0 σ H) (hG : ∀ i σ H, i ≤ xs.length → Pv i σ H → SqL K H a xs)
    (hs : ∀ i x σ H H', xs[i]? = some x → Pv i σ H → Ext H H' → tb { D with nx := Pv (i + 1), ct := Pv (i + 1), bk := D.nx } ((σ.set c (some (.int (i : Int)))).set d (some x)) H') (hd : ∀ σ H, Pv xs.length σ H → D.nx σ H) (hn : n = 2 := by rfl) :
    ∃ a' xs', [V.ref a] = [.ref a'] ∧ SqL K H a' xs' ∧ ForW (gTup K n (gCons (gName c) (gCons (gName d) gNil))) tb D σ (Ite K a') H := by
  subst hn
  refine ⟨a, xs, rfl, hx, for_it walk_enum Pv h0 hG (fun i v σ H H' hi p y => ?_) hd⟩
  obtain ⟨T, x, z, rfl, hT, rfl, e1, e2⟩ := y
  cases e1
  exact ⟨T, _, rfl, SqT.of upd_same, rfl, _, _, rfl, _, _, rfl, rfl, hs i z σ H _ e2 p (Ext.new hT)⟩
/-- for i in range(n): slot c -/
theorem u_range {c n : Nat} (hn : n ≤ 2 ^ 61) (Pv : Nat → L2.St → Hp → Prop) (h0 : Pv 0 σ H) (hs : ∀ i σ H, i < n → Pv i σ H → tb { D with nx := Pv (i + 1), ct := Pv (i + 1), bk := D.nx } (σ.set c (some (.int (i : Int)))) H)
    (hd : ∀ σ H, Pv n σ H → D.nx σ H) : -(2 ^ 62) ≤ (n : Int) ∧ (n : Int) < 2 ^ 62 ∧ ForW (gName c) tb D σ (Itr 0 (n : Int).toNat) H := by
  have h62 : ((2 : Int) ^ 62) = 4611686018427387904 := by decide
  have h61 : ((2 : Nat) ^ 61) = 2305843009213693952 := by decide
  refine ⟨by omega, by omega, ?_⟩
  rw [Int.toNat_natCast]
  refine for_it walk_range Pv h0 (fun _ _ _ _ _ => trivial) (fun i v σ H H' hi p y => ?_) hd
  obtain ⟨rfl, rfl⟩ := y
  have e : (0 : Int) + (i : Int) = (i : Int) := Int.zero_add _
  show tb _ (σ.set c (some (.int ((0 : Int) + (i : Int))))) _
  rw [e]
  exact hs i σ _ hi p
/-- for x in list: slot c -/
theorem u_list {c : Nat} (hx : SqL K H a xs) (Pv : Nat → L2.St → Hp → Prop) (h0 : Pv 0 σ H) (hG : ∀ i σ H, i ≤ xs.length → Pv i σ H → SqL K H a xs)
    (hs : ∀ i x σ H, xs[i]? = some x → Pv i σ H → tb { D with nx := Pv (i + 1), ct := Pv (i + 1), bk := D.nx } (σ.set c (some x)) H) (hd : ∀ σ H, Pv xs.length σ H → D.nx σ H) :
    ∃ a', V.ref a = .ref a' ∧ (∃ xs, SqL K H a' xs) ∧ ForW (gName c) tb D σ (Itl K a') H := by
  refine ⟨a, rfl, ⟨xs, hx⟩, for_it walk_list Pv h0 hG (fun i v σ H H' hi p y => ?_) hd⟩
  obtain ⟨rfl, e⟩ := y
  exact hs i v σ _ e p
/-- for x in tuple: slot c -/
theorem u_tuple {c : Nat} (hx : SqT K H a xs) (Pv : Nat → L2.St → Hp → Prop) (h0 : Pv 0 σ H) (hG : ∀ i σ H, i ≤ xs.length → Pv i σ H → SqT K H a xs)
    (hs : ∀ i x σ H, xs[i]? = some x → Pv i σ H → tb { D with nx := Pv (i + 1), ct := Pv (i + 1), bk := D.nx } (σ.set c (some x)) H) (hd : ∀ σ H, Pv xs.length σ H → D.nx σ H) :
    ∃ a', V.ref a = .ref a' ∧ (∃ xs, SqT K H a' xs) ∧ ForW (gName c) tb D σ (Itt K a') H := by
  refine ⟨a, rfl, ⟨xs, hx⟩, for_it walk_tup Pv h0 hG (fun i v σ H H' hi p y => ?_) hd⟩
  obtain ⟨rfl, e⟩ := y
  exact hs i v σ _ e p
/-- [e for i in range(n)]: slot c; Pv of the new list's address -/
theorem u_lcr {c n : Nat} (hn : n ≤ 2 ^ 61) (Pv : Addr → Nat → Hp → Prop) (h0 : ∀ D, H D = none → Pv D 0 (upd H D (.lst [])))
    (hs : ∀ D i H', H D = none → i < n → Pv D i H' → te ((wipe σ vs).set c (some (.int (i : Int)))) H' fun y H4 => ∃ acc, H4 D = some (.lst acc) ∧ acc.length < sizeLine ∧ Pv D (i + 1) (upd H4 D (.lst (acc ++ [y]))))
    (hd : ∀ D H', H D = none → Pv D n H' → Q (.ref D) H') (hw : ∀ x, wipe ((wipe σ vs).set c (some x)) vs = wipe σ vs := by intro x; rfl) :
    -(2 ^ 62) ≤ (n : Int) ∧ (n : Int) < 2 ^ 62 ∧ LcW (gName c) tYes te vs σ Q (Itr 0 (n : Int).toNat) H := by
  have h62 : ((2 : Int) ^ 62) = 4611686018427387904 := by decide
  have h61 : ((2 : Nat) ^ 61) = 2305843009213693952 := by decide
  refine ⟨by omega, by omega, fun D hD => ?_⟩
  rw [Int.toNat_natCast]
  refine lc_it walk_range (Pv D) (h0 D hD) (fun _ _ _ _ => trivial) (fun i v H H' hi p y => ?_) (fun H' p => hd D H' hD p)
  obtain ⟨rfl, rfl⟩ := y
  have e : (0 : Int) + (i : Int) = (i : Int) := Int.zero_add _
  have q := hs D i _ hD hi p
  rw [← e] at q
  refine ⟨hw _, ?_⟩
  refine g_yes ?_
  exact iteT q
/-- [e for x in list]: slot c -/
theorem u_lcl {c : Nat} (hx : SqL K H a xs) (Pv : Addr → Nat → Hp → Prop) (h0 : ∀ D, H D = none → Pv D 0 (upd H D (.lst []))) (hG : ∀ D i H', H D = none → i ≤ xs.length → Pv D i H' → SqL K H' a xs)
    (hs : ∀ D i x H', H D = none → xs[i]? = some x → Pv D i H' → te ((wipe σ vs).set c (some x)) H' fun y H4 => ∃ acc, H4 D = some (.lst acc) ∧ acc.length < sizeLine ∧ Pv D (i + 1) (upd H4 D (.lst (acc ++ [y]))))
    (hd : ∀ D H', H D = none → Pv D xs.length H' → Q (.ref D) H') (hw : ∀ x, wipe ((wipe σ vs).set c (some x)) vs = wipe σ vs := by intro x; rfl) :
    ∃ a', V.ref a = .ref a' ∧ (∃ xs, SqL K H a' xs) ∧ LcW (gName c) tYes te vs σ Q (Itl K a') H := by
  refine ⟨a, rfl, ⟨xs, hx⟩, fun D hD => lc_it walk_list (Pv D) (h0 D hD) (fun i H' hi p => hG D i H' hD hi p) (fun i v H H' hi p y => ?_) (fun H' p => hd D H' hD p)⟩
  obtain ⟨rfl, e⟩ := y
  refine ⟨hw _, ?_⟩
  refine g_yes ?_
  exact iteT (hs D i v _ hD e p)
/-- [e for x in tuple if t]: slot c -/
theorem u_lctIf {c : Nat} (hx : SqT K H a xs) (Pv : Addr → Nat → Hp → Prop) (h0 : ∀ D, H D = none → Pv D 0 (upd H D (.lst []))) (hG : ∀ D i H', H D = none → i ≤ xs.length → Pv D i H' → SqT K H' a xs)
    (hs : ∀ D i x H', H D = none → xs[i]? = some x → Pv D i H' → tt ((wipe σ vs).set c (some x)) H' fun b H3 => if b = true then te ((wipe σ vs).set c (some x)) H3 fun y H4 => ∃ acc, H4 D = some (.lst acc) ∧ acc.length < sizeLine ∧ Pv D (i + 1) (upd H4 D (.lst (acc ++ [y]))) else Pv D (i + 1) H3)
    (hd : ∀ D H', H D = none → Pv D xs.length H' → Q (.ref D) H') (hw : ∀ x, wipe ((wipe σ vs).set c (some x)) vs = wipe σ vs := by intro x; rfl) :
    ∃ a', V.ref a = .ref a' ∧ (∃ xs, SqT K H a' xs) ∧ LcW (gName c) tt te vs σ Q (Itt K a') H := by
  refine ⟨a, rfl, ⟨xs, hx⟩, fun D hD => lc_it walk_tup (Pv D) (h0 D hD) (fun i H' hi p => hG D i H' hD hi p) (fun i v H H' hi p y => ?_) (fun H' p => hd D H' hD p)⟩
  obtain ⟨rfl, e⟩ := y
  exact ⟨hw _, hs D i v _ hD e p⟩
theorem u_lclIf {c : Nat} (hx : SqL K H a xs) (Pv : Addr → Nat → Hp → Prop) (h0 : ∀ D, H D = none → Pv D 0 (upd H D (.lst []))) (hG : ∀ D i H', H D = none → i ≤ xs.length → Pv D i H' → SqL K H' a xs)
    (hs : ∀ D i x H', H D = none → xs[i]? = some x → Pv D i H' → tt ((wipe σ vs).set c (some x)) H' fun b H3 => if b = true then te ((wipe σ vs).set c (some x)) H3 fun y H4 => ∃ acc, H4 D = some (.lst acc) ∧ acc.length < sizeLine ∧ Pv D (i + 1) (upd H4 D (.lst (acc ++ [y]))) else Pv D (i + 1) H3)
    (hd : ∀ D H', H D = none → Pv D xs.length H' → Q (.ref D) H') (hw : ∀ x, wipe ((wipe σ vs).set c (some x)) vs = wipe σ vs := by intro x; rfl) :
    ∃ a', V.ref a = .ref a' ∧ (∃ xs, SqL K H a' xs) ∧ LcW (gName c) tt te vs σ Q (Itl K a') H := by
  refine ⟨a, rfl, ⟨xs, hx⟩, fun D hD => lc_it walk_list (Pv D) (h0 D hD) (fun i H' hi p => hG D i H' hD hi p) (fun i v H H' hi p y => ?_) (fun H' p => hd D H' hD p)⟩
  obtain ⟨rfl, e⟩ := y
  exact ⟨hw _, hs D i v _ hD e p⟩
end
section
variable {H : Hp} {Q : VK} {K : PySem.W.Frag} {v : V} {xs : List V} {p : Addr} {i : Int} {QH : Hp → Prop}
theorem g_ixL (h : SqL K H p xs) (e : atI xs i = some v) (q : Q v H) : rIxL K (.ref p) (.int i) H Q := ⟨p, xs, i, v, rfl, rfl, h, e, q⟩
theorem g_ixT (h : SqT K H p xs) (e : atI xs i = some v) (q : Q v H) : rIxT K (.ref p) (.int i) H Q := ⟨p, xs, i, v, rfl, rfl, h, e, q⟩
theorem g_setL {k : Int} {j : Nat} (h : H p = some (.lst xs)) (e : ixN xs.length k = some j) (q : QH (upd H p (.lst (xs.set j v)))) : rSetL (.ref p) (.int k) v H QH := ⟨p, xs, k, j, rfl, rfl, h, e, q⟩
theorem ixN_nat {n j : Nat} (h : j < n) : ixN n (j : Int) = some j := by
  unfold ixN
  simp [h]
end
section
variable {n m : Int} {b : Bool} {R : Prop}
theorem g_intI {P : Int → Prop} (h : P n) : (∃ i, [V.int n] = [V.int i] ∧ P i) ∨ R := .inl ⟨n, rfl, h⟩
theorem g_intB {P : Bool → Prop} (h : P b) : R ∨ ∃ k, [V.bl b] = [V.bl k] ∧ P k := .inr ⟨b, rfl, h⟩
theorem g_two {P : Int → Int → Prop} (h : P n m) : ∃ i j, [V.int n, V.int m] = [V.int i, V.int j] ∧ P i j := ⟨n, m, rfl, h⟩
theorem g_one {P : Int → Prop} (h : P n) : ∃ i, [V.int n] = [V.int i] ∧ P i := ⟨n, rfl, h⟩
theorem g_len {K : PySem.W.Frag} {H : Hp} {a : Addr} {xs : List V} {P : Nat → Prop} (hx : SqL K H a xs) (h : P xs.length) : ∃ p ys, [V.ref a] = [V.ref p] ∧ (SqL K H p ys ∨ SqT K H p ys) ∧ P ys.length := ⟨a, xs, rfl, .inl hx, h⟩
end
section
variable {H : Hp} {Q : VK} {i j : Int} {f : Int → Int → V}
theorem g_Ip (c : CPowW i j) (h : Q (f i j) H) : rI CPowW f (.int i) (.int j) H Q := ⟨i, j, rfl, rfl, c, h⟩
theorem g_Im (c : 0 < j) (h : Q (f i j) H) : rI (fun _ j => 0 < j) f (.int i) (.int j) H Q := ⟨i, j, rfl, rfl, c, h⟩
theorem g_Id (c : 0 < j ∧ decide (j.natAbs.log2 < 9000) = true) (h : Q (f i j) H) : rI CDivW f (.int i) (.int j) H Q := ⟨i, j, rfl, rfl, ⟨c.1, of_decide_eq_true c.2⟩, h⟩
theorem g_Is {n : Nat} {f : Int → Int → V} (h : Q (f i (n : Int)) H) : rI (fun _ j => 0 ≤ j) f (.int i) (.int (n : Int)) H Q := ⟨i, n, rfl, rfl, Int.natCast_nonneg n, h⟩
end
section
variable {H : Hp} {Q : VK} {σ : L2.St} {ta tb : TE} {K : PySem.W.Frag} {r : V → Option Int → Option Int → Hp → VK → Prop} {te : TE} {tl th : TO}
theorem g_lstRg (h : ta σ H fun x H1 => ∃ n, x = .int n ∧ RgOk 0 n ∧ ∀ q, H1 q = none → Q (.ref q) (upd H1 q (.lst (rgV 0 n)))) : tLstRg (tRg1 ta) σ H Q := h
theorem rg_ok {m : Nat} (hm : m ≤ 16777216) : RgOk 0 (m : Int) := RgOk.of_le (Int.le_refl _) (by omega) (by omega) (by omega)
theorem g_sl (h : te σ H fun x H1 => tl σ H1 fun l H2 => th σ H2 fun u H3 => r x l u H3 Q) : tSl r te tl th σ H Q := h
theorem g_nopart {QO : Option Int → Hp → Prop} (h : QO none H) : tNoPart σ H QO := h
theorem g_part {QO : Option Int → Hp → Prop} (h : ta σ H fun x H1 => ∃ i, x = .int i ∧ QO (some i) H1) : tPart ta σ H QO := h
theorem g_revl (h : ta σ H fun x H1 => ∃ a xs, x = .ref a ∧ SqL K H1 a xs ∧ ∀ p, H1 p = none → Q (.ref p) (upd H1 p (.lst xs.reverse))) : tRevL K ta σ H Q := h
theorem g_exI {n : Int} {P : Int → Prop} (h : P n) : ∃ i, V.int n = .int i ∧ P i := ⟨n, rfl, h⟩
end
theorem iteD {c A B : Prop} [Decidable c] (h : c) (q : A) : if decide c = true then A else B := by
  rw [decide_eq_true h]
  exact iteT q
theorem iteDn {c A B : Prop} [Decidable c] (h : ¬ c) (q : B) : if decide c = true then A else B := by
  rw [decide_eq_false h]
  exact iteF q
theorem iteN {c A B : Prop} [Decidable c] (h : ¬ c) (q : A) : if (!decide c) = true then A else B := by
  rw [decide_eq_false h]
  exact iteT q
theorem iteNn {c A B : Prop} [Decidable c] (h : c) (q : B) : if (!decide c) = true then A else B := by
  rw [decide_eq_true h]
  exact iteF q
theorem vint_ne {a b : Int} (h : ¬ a = b) : ¬ V.int a = V.int b := fun z => h (V.int.inj z)
theorem vint_eq {a b : Int} (h : a = b) : V.int a = V.int b := congrArg V.int h
section
variable {K : PySem.W.Frag} {H : Hp} {Q : VK} {a : Addr} {xs : List V}
theorem g_lenK (hx : SqL K H a xs) (h : Q (.int xs.length) H) : rLenK K [.ref a] H Q := ⟨a, xs, rfl, .inl hx, h⟩
theorem g_lenT (hx : SqT K H a xs) (h : Q (.int xs.length) H) : rLenK K [.ref a] H Q := ⟨a, xs, rfl, .inr hx, h⟩
theorem g_listK (hx : SqL K H a xs) (h : ∀ l, H l = none → Q (.ref l) (upd H l (.lst xs))) : rListK K [.ref a] H Q := ⟨a, xs, rfl, .inl hx, h⟩
end
/-- a statement, then the rest, with a word between them -/
def tCut (t u : TS) : TS := fun D σ H => ∃ Mid : L2.St → Hp → Prop, t { D with nx := Mid } σ H ∧ ∀ σ' H', Mid σ' H' → u D σ' H'
theorem pss_cut {X : Cx} {st : Stmt} {rest : List Stmt} {t u : TS} (h1 : PS X st t) (h2 : PSs X rest u) : PSs X (st :: rest) (tCut t u) :=
  ⟨fun pins s σ H D I h => h.elim fun Mid z => wpAny_execs_cons (thn (h1.run pins s σ H { D with nx := Mid } I z.1) fun f s1 q => match f, q with
    | .next, q => q.elim fun σ' q => q.elim fun H' q => h2.run pins s1 σ' H' D q.1 (z.2 σ' H' q.2)
    | .ret _, q => q
    | .brk, q => q
    | .cont, q => q)⟩
theorem intBits_one : Builtin.Int.intBits 1 = 1 := by decide +kernel
theorem cshl_one {n : Nat} (h : n ≤ 1000) : CShl 1 (n : Int) := ⟨Int.natCast_nonneg n, by rw [intBits_one]; omega⟩
theorem cshl_small {b n : Nat} (hb : b ≤ 1) (h : n ≤ 1000) : CShl (b : Int) (n : Int) := by
  refine ⟨Int.natCast_nonneg n, ?_⟩
  have e : Builtin.Int.intBits (b : Int) ≤ 1 := by
    rcases (by omega : b = 0 ∨ b = 1) with rfl | rfl <;> decide +kernel
  omega
theorem pow_int (n : Nat) : ((2 ^ n : Nat) : Int) = 2 ^ n := by simp
theorem in_places {p n : Nat} (h : p < 2 ^ n) : (!(decide ((0 : Int) ≤ (p : Int)) && decide ((p : Int) ≤ 1 * 2 ^ ((n : Nat) : Int).toNat - 1))) = false := by
  rw [one_shl]
  have h1 : (0 : Int) ≤ (p : Int) := Int.natCast_nonneg p
  have h2 : (p : Int) ≤ ((2 ^ n : Nat) : Int) - 1 := by omega
  rw [decide_eq_true h1, decide_eq_true h2]
  rfl
end G

/-! The class Turn: how one stands in the heap, what its methods promise, the rules for its uses. -/
namespace G
open PySem PySem.Spec PyProof.Rows L2 M

/-! ### kinds of values -/
/-- whether v is an int and no bool -/
def IsI (K : PySem.W.Frag) (H : Hp) (v : V) (b : Bool) : Prop := ∃ t b1 b2, TyX K H v t ∧ PySem.W.kitOne K t (.type "int") = some b1 ∧ PySem.W.kitOne K t (.type "bool") = some b2 ∧ b = (b1 && !b2)
theorem IsI.int {K : PySem.W.Frag} {H : Hp} (i : Int) : IsI K H (.int i) true := ⟨_, true, false, .base (.int i), kit_ty (by decide +kernel), kit_ty (by decide +kernel), rfl⟩
abbrev sp_is_integer (K : PySem.W.Frag) : Sp := sp1 fun v H Q => ∃ b, IsI K H v b ∧ Q (.bl b) H
abbrev sp_is_between (K : PySem.W.Frag) : Sp := sp3 fun v lo hi H Q => ∃ (b : Bool) (i j : Int), lo = .int i ∧ hi = .int j ∧ IsI K H v b ∧ (b = false → Q (.bl false) H) ∧ (b = true → ∃ n, v = .int n ∧ Q (.bl (decide (i ≤ n) && decide (n ≤ j))) H)
abbrev sp_check_place (K : PySem.W.Frag) : Sp := sp2 fun p n H Q => ∃ (p' n' : Nat), p = .int p' ∧ n = .int n' ∧ n' ≤ 1000 ∧ p' < 2 ^ n' ∧ Q .non H
abbrev sp_check_targets (K : PySem.W.Frag) : Sp := sp1 fun a H Q => ∃ (l : Addr) (ts : List Nat), a = .ref l ∧ H l = some (.lst (nv ts)) ∧ Ts ts ∧ ∀ H', Ext H H' → Q .non H'

/-! ### a turn in the heap -/
def flds (l : Addr) (fl : Nat) : List (Str × V) := putF "_flips" (.int (fl : Int)) (putF "_targets" (.ref l) [])
theorem ne_names : ¬ (("_targets" : Str) = "_flips") := by decide +kernel
theorem ne_names' : ¬ (("_flips" : Str) = "_targets") := by decide +kernel
theorem flds_targets (l : Addr) (fl : Nat) : (flds l fl).lookup ("_targets" : Str) = some (.ref l) := by
  unfold flds
  rw [lookup_putF, if_neg ne_names, lookup_putF, if_pos rfl]
theorem flds_flips (l : Addr) (fl : Nat) : (flds l fl).lookup ("_flips" : Str) = some (.int (fl : Int)) := by
  unfold flds
  rw [lookup_putF, if_pos rfl]
theorem flds_no (l : Addr) (fl : Nat) {m : Str} (h1 : ¬ m = "_flips") (h2 : ¬ m = "_targets") : (flds l fl).lookup m = none := by
  unfold flds
  rw [lookup_putF, if_neg h1, lookup_putF, if_neg h2]
  rfl
/-- at a a turn with the targets ts (its own list of them at l) and the flips fl -/
structure TurnAt (C : Addr) (H : Hp) (a l : Addr) (ts : List Nat) (fl : Nat) : Prop where
  ob : ∃ dx, H a = some (.ins C dx (flds l fl))
  ls : H l = some (.lst (nv ts))
  ok : Ts ts
  fl : fl < 2 ^ ts.length
theorem TurnAt.ext {C : Addr} {H H' : Hp} {a l : Addr} {ts : List Nat} {fl : Nat} (t : TurnAt C H a l ts fl) (e : Ext H H') : TurnAt C H' a l ts fl :=
  ⟨t.ob.elim fun dx h => ⟨dx, e _ _ h⟩, e _ _ t.ls, t.ok, t.fl⟩
theorem TurnAt.stp {C : Addr} {H H' : Hp} {a l r : Addr} {ts : List Nat} {fl : Nat} {xs : List V} (t : TurnAt C H a l ts fl) (e : Stp r H H') (hr : H r = some (.lst xs)) (hl : l ≠ r) : TurnAt C H' a l ts fl :=
  ⟨t.ob.elim fun dx h => ⟨dx, e _ _ h (ne_of h hr (by intro z; cases z))⟩, e _ _ t.ls hl, t.ok, t.fl⟩

/-! ### its methods -/
abbrev sp_Turn_init (K : PySem.W.Frag) (C : Addr) : Sp := sp3 fun self a b H Q => ∃ (x dx l : Addr) (ts : List Nat) (fl : Nat), self = .ref x ∧ a = .ref l ∧ b = .int (fl : Int) ∧ H x = some (.ins C dx []) ∧ H l = some (.lst (nv ts)) ∧ Ts ts ∧ fl < 2 ^ ts.length ∧
  ∀ (H' : Hp) (l' : Addr), (∀ b o, b ≠ x → H b = some o → H' b = some o) → H l' = none → TurnAt C H' x l' ts fl → Q .non H'
abbrev sp_Turn_bits (K : PySem.W.Frag) (C : Addr) : Sp := sp1 fun a H Q => ∃ (x l : Addr) (ts : List Nat) (fl : Nat), a = .ref x ∧ TurnAt C H x l ts fl ∧ Q (.int (ts.length : Int)) H
abbrev sp_Turn_targets (K : PySem.W.Frag) (C : Addr) : Sp := sp1 fun a H Q => ∃ (x l : Addr) (ts : List Nat) (fl : Nat), a = .ref x ∧ TurnAt C H x l ts fl ∧ ∀ p, H p = none → Q (.ref p) (upd H p (.lst (nv ts)))
abbrev sp_Turn_flips (K : PySem.W.Frag) (C : Addr) : Sp := sp1 fun a H Q => ∃ (x l : Addr) (ts : List Nat) (fl : Nat), a = .ref x ∧ TurnAt C H x l ts fl ∧ Q (.int (fl : Int)) H
abbrev sp_Turn_goes_to (K : PySem.W.Frag) (C : Addr) : Sp := sp2 fun a p H Q => ∃ (x l : Addr) (ts : List Nat) (fl n : Nat), a = .ref x ∧ p = .int (n : Int) ∧ TurnAt C H x l ts fl ∧ n < 2 ^ ts.length ∧ ∀ H', Ext H H' → Q (.int (go ts fl n : Int)) H'
/-- a value of another kind -/
def Other (K : PySem.W.Frag) (H : Hp) (v : V) : Prop := ∃ T : String, TyX K H v (.type T) ∧ T ∈ ["NoneType", "int", "bool", "str", "list", "tuple", "dict"]
/-- b compared with the turn (ts, fl) -/
def EqTo (K : PySem.W.Frag) (C : Addr) (H : Hp) (b : V) (ts : List Nat) (fl : Nat) (r : Bool) : Prop :=
  (∃ (y l : Addr) (ts' : List Nat) (fl' : Nat), b = .ref y ∧ TurnAt C H y l ts' fl' ∧ r = decide (ts = ts' ∧ fl = fl')) ∨ (Other K H b ∧ r = false)
abbrev sp_Turn_eq (K : PySem.W.Frag) (C : Addr) : Sp := sp2 fun a b H Q => ∃ (x l : Addr) (ts : List Nat) (fl : Nat) (r : Bool), a = .ref x ∧ TurnAt C H x l ts fl ∧ EqTo K C H b ts fl r ∧ Q (.bl r) H

/-- what the written part says of the class -/
structure TurnText (K : PySem.W.Frag) (mg : Str → Option Value) (C : Addr) : Prop where
  cl : Cls K C
  nT : NoAttr K C "_targets"
  nF : NoAttr K C "_flips"
  ca : PySem.W.findIn K (.ref C) "__class__" = some (some (.builtin "object.__class__"))
  cn : PySem.W.specialIn K (.builtin "object.__class__") "__get__" = some (some (.builtin "getset_descriptor.__get__"))
  ct : PySem.W.takesIn K (.builtin "object.__class__") = some true
  cm : PySem.W.mroIn K C (.type "object") = some true
  kc : PySem.W.keepIn K (.ref C) = true
  mT : mg "Turn" = some (.ref C)
  isC : PySem.W.isClsIn K C = true
  sub : ∀ T ∈ ["NoneType", "int", "bool", "str", "list", "tuple", "dict"], PySem.W.subIn K (.type T) (.ref C) = some false
  tyC : PySem.W.typeIn K (.ref C) = some (.type "type")
theorem TurnText.isT {K : PySem.W.Frag} {mg : Str → Option Value} {C : Addr} (T : TurnText K mg C) : PySem.W.kitOne K (.ref C) (.ref C) = some true := by
  unfold PySem.W.kitOne
  rw [if_pos (beq_iff_eq.mpr rfl)]
theorem TurnText.notT {K : PySem.W.Frag} {mg : Str → Option Value} {C : Addr} (T : TurnText K mg C) {t : String} (ht : t ∈ ["NoneType", "int", "bool", "str", "list", "tuple", "dict"]) : PySem.W.kitOne K (.type t) (.ref C) = some false := by
  have h := T.sub t ht
  unfold PySem.W.kitOne
  rw [if_neg (by intro q; cases (beq_iff_eq.mp q))]
  unfold PySem.W.kitCls
  have hc : (PySem.W.clsIn K C).isSome = true := T.isC
  simp only [T.tyC, h, hc]
  rfl
theorem TurnText.first {K : PySem.W.Frag} {mg : Str → Option Value} {C : Addr} (T : TurnText K mg C) {t : String} (ht : t ∈ ["NoneType", "int", "bool", "str", "list", "tuple", "dict"]) : PySem.W.notFirst K C (.type t) = true := by
  unfold PySem.W.notFirst
  rw [T.sub t ht]
  simp
theorem TurnText.firstC {K : PySem.W.Frag} {mg : Str → Option Value} {C : Addr} (T : TurnText K mg C) : PySem.W.notFirst K C (.ref C) = true := by
  unfold PySem.W.notFirst
  rw [beq_iff_eq.mpr rfl]
  rfl
theorem TurnText.ty {K : PySem.W.Frag} {mg : Str → Option Value} {C : Addr} (T : TurnText K mg C) {H : Hp} {a l : Addr} {ts : List Nat} {fl : Nat} (t : TurnAt C H a l ts fl) : TyX K H (.ref a) (.ref C) := by
  obtain ⟨dx, h⟩ := t.ob
  exact .base (.ins h T.cl T.ca T.cn T.ct T.cm)

/-- the class with its methods' promises, all at most at level 6 -/
structure TurnT (P : Program) (w : World) (K : PySem.W.Frag) (mg : Str → Option Value) (base : Heap) (C : Addr) : Prop where
  tx : TurnText K mg C
  init : ∃ (f : Addr) (fd : FuncData) (ps : List Str), Mk K C f ∧ FnOk P w K mg base CX0 6 f fd ps (sp_Turn_init K C) ∧ Binds K fd ps []
  bits : ∃ (p g : Addr) (fd : FuncData) (ps : List Str), PropOf K C "bits" p g ∧ FnOk P w K mg base CX0 6 g fd ps (sp_Turn_bits K C) ∧ Binds K fd ps []
  targets : ∃ (p g : Addr) (fd : FuncData) (ps : List Str), PropOf K C "targets" p g ∧ FnOk P w K mg base CX0 6 g fd ps (sp_Turn_targets K C) ∧ Binds K fd ps []
  flips : ∃ (p g : Addr) (fd : FuncData) (ps : List Str), PropOf K C "flips" p g ∧ FnOk P w K mg base CX0 6 g fd ps (sp_Turn_flips K C) ∧ Binds K fd ps []
  goes : ∃ (g : Addr) (fd : FuncData) (ps : List Str), Meth K C "goes_to" g ∧ FnOk P w K mg base CX0 6 g fd ps (sp_Turn_goes_to K C) ∧ Binds K fd ps []
  eq : ∃ (g : Addr) (fd : FuncData) (ps : List Str), PySem.W.findIn K (.ref C) "__eq__" = some (some (.ref g)) ∧ PySem.W.isFn K (.ref g) = true ∧ FnOk P w K mg base CX0 6 g fd ps (sp_Turn_eq K C) ∧ Binds K fd ps []

section
variable {X : Cx} {C : Addr} {j : Nat} {p pos apos : Pos} {e o : Expr} {es : List Expr} {t : TA} {ta : TE}
/-- Turn(a, b) -/
def pTurn (C : Addr) : V → V → Hp → VK → Prop := fun a b H Q => ∃ (l : Addr) (ts : List Nat) (fl : Nat), a = .ref l ∧ b = .int (fl : Int) ∧ H l = some (.lst (nv ts)) ∧ Ts ts ∧ fl < 2 ^ ts.length ∧
  ∀ (x l' : Addr) (H' : Hp), Ext H H' → H x = none → H l' = none → TurnAt C H' x l' ts fl → Q (.ref x) H'
def tTurn (C : Addr) (t : TA) : TE := fun σ H Q => t σ H fun vs H1 => sp2 (pTurn C) vs H1 Q E0
theorem pe_Turn (tc : TurnT X.prog X.w X.K X.mg X.base C) (hr : Room j X.A) (hj : 7 ≤ j) (hg : Gl X "Turn") (ha : PA X (e :: es) t)
    (he : starEach (e :: es) X.env = (false, eval e X.env) :: starEach es X.env := by rfl) (hpl : (backTo pos (starEach es X.env)).any (·.1) = false := by rfl) :
    PE X (.Call (.Name "Turn" p) (e :: es) [] pos) (tTurn C t) := by
  obtain ⟨f, fd, ps, Mm, F, B⟩ := tc.init
  refine ⟨fun pins s σ H Q I h => wpAny_Call_Name_kw (ld_glob I hg tc.tx.mT ?_ (by decide))⟩
  refine PySem.W.callWith_K (h₀ := X.base) I.ok.mod.kin Mm.kp (thn (ha.run pos pins s σ H _ I h) fun us s1 hh => ?_) he hpl
  obtain ⟨vs, H1, I1, r, a, b, rfl, l, ts, fl, rfl, rfl, hl, ok, hf, q⟩ := hh
  refine ⟨I1.kIn, run_make (sp := sp_Turn_init X.K C) Mm F (hr.mono hj) B .nil pass0 I1 r fun x dx hx hdx ne => ?_⟩
  have e1 : Ext H1 (upd (upd H1 dx (.own x)) x (.ins C dx [])) := (Ext.new hdx).new' (by rw [upd_ne (Ne.symm ne)]; exact hx)
  refine ⟨_, _, _, rfl, x, dx, l, ts, fl, rfl, rfl, rfl, upd_same, e1 _ _ hl, ok, hf, fun H2 l' st hn at_ => ⟨rfl, ?_⟩⟩
  refine q x l' H2 (fun b o hb => st b o (ne_of_none hb hx) (e1 b o hb)) hx (e1.free hn) at_
/-- o.bits, o.targets, o.flips -/
def tProp1 (P : V → Hp → VK → Prop) (ta : TE) : TE := fun σ H Q => ta σ H fun x H1 => P x H1 Q
def pBits (C : Addr) : V → Hp → VK → Prop := fun a H Q => ∃ (x l : Addr) (ts : List Nat) (fl : Nat), a = .ref x ∧ TurnAt C H x l ts fl ∧ Q (.int (ts.length : Int)) H
def pTargets (C : Addr) : V → Hp → VK → Prop := fun a H Q => ∃ (x l : Addr) (ts : List Nat) (fl : Nat), a = .ref x ∧ TurnAt C H x l ts fl ∧ ∀ p, H p = none → Q (.ref p) (upd H p (.lst (nv ts)))
def pFlips (C : Addr) : V → Hp → VK → Prop := fun a H Q => ∃ (x l : Addr) (ts : List Nat) (fl : Nat), a = .ref x ∧ TurnAt C H x l ts fl ∧ Q (.int (fl : Int)) H
def pGoes (C : Addr) : V → V → Hp → VK → Prop := fun a p H Q => ∃ (x l : Addr) (ts : List Nat) (fl n : Nat), a = .ref x ∧ p = .int (n : Int) ∧ TurnAt C H x l ts fl ∧ n < 2 ^ ts.length ∧ ∀ H', Ext H H' → Q (.int (go ts fl n : Int)) H'
theorem pe_Turn_bits (tc : TurnT X.prog X.w X.K X.mg X.base C) (hr : Room j X.A) (hj : 7 ≤ j) (he : PE X o ta) (hab : attributeBase o "bits" X.env (eval o X.env) = eval o X.env) : PE X (.Attribute o "bits" pos) (tProp1 (pBits C) ta) := by
  obtain ⟨p, g, fd, ps, hp, F, B⟩ := tc.bits
  refine ⟨fun pins s σ H Q I h => attr_of hab (thn (he.run pins s σ H _ I h) fun u s1 hh => ?_)⟩
  obtain ⟨v, H1, I1, rv, x, l, ts, fl, rfl, at_, q⟩ := hh
  cases (show u = Value.ref x from rv)
  obtain ⟨dx, hx⟩ := at_.ob
  exact getprop_ok I1 hx tc.tx.cl hp F (hr.mono hj) B .nil pass0 ⟨_, rfl, x, l, ts, fl, rfl, at_, q⟩
theorem pe_Turn_targets (tc : TurnT X.prog X.w X.K X.mg X.base C) (hr : Room j X.A) (hj : 7 ≤ j) (he : PE X o ta) (hab : attributeBase o "targets" X.env (eval o X.env) = eval o X.env) : PE X (.Attribute o "targets" pos) (tProp1 (pTargets C) ta) := by
  obtain ⟨p, g, fd, ps, hp, F, B⟩ := tc.targets
  refine ⟨fun pins s σ H Q I h => attr_of hab (thn (he.run pins s σ H _ I h) fun u s1 hh => ?_)⟩
  obtain ⟨v, H1, I1, rv, x, l, ts, fl, rfl, at_, q⟩ := hh
  cases (show u = Value.ref x from rv)
  obtain ⟨dx, hx⟩ := at_.ob
  exact getprop_ok I1 hx tc.tx.cl hp F (hr.mono hj) B .nil pass0 ⟨_, rfl, x, l, ts, fl, rfl, at_, q⟩
theorem pe_Turn_flips (tc : TurnT X.prog X.w X.K X.mg X.base C) (hr : Room j X.A) (hj : 7 ≤ j) (he : PE X o ta) (hab : attributeBase o "flips" X.env (eval o X.env) = eval o X.env) : PE X (.Attribute o "flips" pos) (tProp1 (pFlips C) ta) := by
  obtain ⟨p, g, fd, ps, hp, F, B⟩ := tc.flips
  refine ⟨fun pins s σ H Q I h => attr_of hab (thn (he.run pins s σ H _ I h) fun u s1 hh => ?_)⟩
  obtain ⟨v, H1, I1, rv, x, l, ts, fl, rfl, at_, q⟩ := hh
  cases (show u = Value.ref x from rv)
  obtain ⟨dx, hx⟩ := at_.ob
  exact getprop_ok I1 hx tc.tx.cl hp F (hr.mono hj) B .nil pass0 ⟨_, rfl, x, l, ts, fl, rfl, at_, q⟩
/-- o.goes_to(e) -/
def tGoes (C : Addr) (ta : TE) (t : TA) : TE := fun σ H Q => ta σ H fun x H1 => (∃ (a l : Addr) (ts : List Nat) (fl : Nat), x = .ref a ∧ TurnAt C H1 a l ts fl) ∧ t σ H1 fun vs H2 => ∃ v, vs = [v] ∧ pGoes C x v H2 Q
theorem pe_Turn_goes_to {pl : Sem Bool} (tc : TurnT X.prog X.w X.K X.mg X.base C) (hr : Room j X.A) (hj : 6 ≤ j) (ho : PE X o ta) (ha : PA X (e :: es) t)
    (hst : starEach (e :: es) X.env = (false, eval e X.env) :: starEach es X.env := by rfl) (hpl : (backTo pos (starEach es X.env)).any (·.1) = false := by rfl)
    (ht : eval (.Call (.Attribute o "goes_to" apos) (e :: es) [] pos) X.env = (do
      let v ← eval o X.env
      standAt apos.atName
      let (g, first) ← holding [v] (getMethod v "goes_to" pl)
      callWith pos g first (backTo pos (starEach (e :: es) X.env)) (backToKw pos (keywordEach [] X.env))) := by rfl) :
    PE X (.Call (.Attribute o "goes_to" apos) (e :: es) [] pos) (tGoes C ta t) := by
  obtain ⟨g, fd, ps, hm, F, B⟩ := tc.goes
  refine ⟨fun pins s σ H Q I h => PySem.W.methodCall_KW (pl := pl) (thn (ho.run pins s σ H _ I h) fun u s1 hh => ?_) ht⟩
  obtain ⟨x, H1, I1, rx, ⟨a, l, ts, fl, rfl, at_⟩, q⟩ := hh
  cases (show u = Value.ref a from rx)
  obtain ⟨dx, hx⟩ := at_.ob
  refine getmeth_ok I1 hx tc.tx.cl hm (flds_no _ _ (by decide +kernel) (by decide +kernel)) ?_
  refine PySem.W.callWith_K (first := [.ref a]) (h₀ := X.base) I.ok.mod.kin hm.kp (thn (ha.run pos pins s1 σ H1 _ I1 q) fun us s2 hh => ?_) hst hpl
  obtain ⟨vs, H2, I2, r, v, rfl, q2⟩ := hh
  exact ⟨I2.kIn, run_fn (sp := sp_Turn_goes_to X.K C) (us := .ref a :: us) (vs := [.ref a, v]) F (hr.mono hj) B .nil pass0 I2 (.cons rfl r) ⟨_, _, rfl, q2⟩⟩
/-- a == b, a a turn -/
def rTurnEq (K : PySem.W.Frag) (C : Addr) : R2 := fun a b H Q => ∃ (x l : Addr) (ts : List Nat) (fl : Nat) (r : Bool), a = .ref x ∧ TurnAt C H x l ts fl ∧ EqTo K C H b ts fl r ∧ Q (.bl r) H
theorem op_Turn_eq0 (tc : TurnT X.prog X.w X.K X.mg X.base C) (hr : Room j X.A) (hj : 6 ≤ j) : OpR X (compareOp .Eq) (rTurnEq X.K C) := by
  obtain ⟨g, fd, ps, hs, hf, F, B⟩ := tc.eq
  intro pins s σ H x y v u Q I rx ry h
  refine op_eqOwn hs hf F (hr.mono hj) B pass0 pins s σ H x y v u Q I rx ry ?_
  obtain ⟨a, l, ts, fl, r, rfl, at_, eq, q⟩ := h
  obtain ⟨dx, hx⟩ := at_.ob
  rcases eq with ⟨b, l', ts', fl', rfl, bt, er⟩ | ⟨⟨T, ty, mem⟩, er⟩
  · exact ⟨a, dx, _, _, rfl, hx, tc.tx.ty bt, tc.tx.firstC, _, _, rfl, a, l, ts, fl, r, rfl, at_, .inl ⟨b, l', ts', fl', rfl, bt, er⟩, q⟩
  · exact ⟨a, dx, _, _, rfl, hx, ty, tc.tx.first mem, _, _, rfl, a, l, ts, fl, r, rfl, at_, .inr ⟨⟨T, ty, mem⟩, er⟩, q⟩
theorem op_Turn_eq {K0 : PySem.W.Frag} (tc : TurnT X.prog X.w X.K X.mg X.base C) (hr : Room j X.A) (hj : 6 ≤ j) (hK : X.K = K0 := by rfl) : OpR X (compareOp .Eq) (rTurnEq K0 C) := hK ▸ op_Turn_eq0 tc hr hj
end
end G

/-! The draws of the laws: a reel at r (its digits, a number to mix, a counter of at most n). -/
namespace G
open PySem PySem.Spec PyProof.Rows L2 M
def Reel (H : Hp) (r : Addr) (n : Nat) : Prop := ∃ x y z : Nat, H r = some (.lst [.int (x : Int), .int (y : Int), .int (z : Int)]) ∧ y < 2 ^ 150 ∧ z ≤ n
theorem Reel.mono {H : Hp} {r : Addr} {n m : Nat} (h : Reel H r n) (hm : n ≤ m) : Reel H r m := by
  obtain ⟨x, y, z, a, b, c⟩ := h
  exact ⟨x, y, z, a, b, Nat.le_trans c hm⟩
theorem Reel.ext {H H' : Hp} {r : Addr} {n : Nat} (h : Reel H r n) (e : Ext H H') : Reel H' r n := by
  obtain ⟨x, y, z, a, b⟩ := h
  exact ⟨x, y, z, e _ _ a, b⟩
theorem Reel.at {H : Hp} {r : Addr} {n : Nat} (h : Reel H r n) : ∃ xs, H r = some (.lst xs) := by
  obtain ⟨x, y, z, a, _⟩ := h
  exact ⟨_, a⟩
theorem Reel.ne {H : Hp} {r p : Addr} {n : Nat} (h : Reel H r n) (hp : H p = none) : p ≠ r := fun e => by
  obtain ⟨xs, a⟩ := h.at
  rw [e, a] at hp
  cases hp
/-- a draw from 0 to many - 1 -/
abbrev sp_law_spin (K : PySem.W.Frag) : Sp := sp2 fun a b H Q => ∃ (r : Addr) (many n : Nat), a = .ref r ∧ b = .int (many : Int) ∧ Reel H r n ∧ n < 2 ^ 40 ∧ 0 < many ∧ many < 2 ^ 1000 ∧ ∀ (d : Nat) (H' : Hp), d < many → Stp r H H' → Reel H' r (n + 1) → Q (.int (d : Int)) H'
abbrev sp_law_wound (K : PySem.W.Frag) : Sp := sp2 fun a b H Q => ∃ (l : Addr) (ns : List Int) (k : Nat), a = .ref l ∧ b = .int (k : Int) ∧ SqL K H l (ns.map V.int) ∧ k < 64 ∧
  ∀ (r : Addr) (H' : Hp), Ext H H' → H r = none → Reel H' r 0 → Q (.ref r) H'
theorem div_ok {n : Nat} (h0 : 0 < n) (h : n < 2 ^ 1000) : CDivW (0 : Int) (n : Int) := wide_div (by omega) (by rw [Int.natAbs_natCast]; exact h) (by decide) (by decide : 1000 ≤ 9000)
theorem bits_lt {i : Int} {a : Nat} (h0 : 0 ≤ i) (h : i < 2 ^ a) : i.natAbs < 2 ^ a := by
  have e : ((2 ^ a : Nat) : Int) = 2 ^ a := by simp
  omega
theorem cpow3 {i : Int} (h0 : 0 ≤ i) (h : i < 2 ^ 200) : CPowW i 3 := by
  have b := PyProof.Rows.intBits_le (bits_lt h0 h)
  refine ⟨by decide, ?_⟩
  have e : ((2 : Int) ^ 27) = 134217728 := by decide
  omega
theorem cmulx {i j : Int} {a b : Nat} (h0 : 0 ≤ i) (h : i < 2 ^ a) (k0 : 0 ≤ j) (k : j < 2 ^ b) (hab : a + b ≤ 134217728) : CMulX i j := mulx_ok (bits_lt h0 h) (bits_lt k0 k) hab
theorem Stp.new {r p : Addr} {H H1 : Hp} {o : HO} (e : Stp r H H1) (h : H1 p = none) : Stp r H (upd H1 p o) := e.trans (Ext.new h).stp
theorem Stp.mut {r p : Addr} {H H1 : Hp} {o : HO} (e : Stp r H H1) (h : H p = none) : Stp r H (upd H1 p o) := fun b u hb hr => by
  rw [upd_ne (ne_of_none hb h)]
  exact e b u hb hr
theorem Reel.new {r p : Addr} {H : Hp} {o : HO} {n : Nat} (e : Reel H r n) (h : H p = none) : Reel (upd H p o) r n := e.ext (Ext.new h)
theorem Reel.mut {r p : Addr} {H : Hp} {o : HO} {n : Nat} (e : Reel H r n) (h : p ≠ r) : Reel (upd H p o) r n := by
  obtain ⟨x, y, z, a, b⟩ := e
  exact ⟨x, y, z, by rw [upd_ne (Ne.symm h)]; exact a, b⟩
abbrev sp_law_drawn_targets (K : PySem.W.Frag) : Sp := sp2 fun a b H Q => ∃ (r : Addr) (bits n : Nat), a = .ref r ∧ b = .int (bits : Int) ∧ Reel H r n ∧ n < 2 ^ 39 ∧ 1 ≤ bits ∧ bits ≤ 100 ∧
  ∀ (l : Addr) (ts : List Nat) (H' : Hp), Stp r H H' → Reel H' r (n + 300) → H l = none → H' l = some (.lst (nv ts)) → ts.Perm (List.range bits) → Q (.ref l) H'
abbrev sp_law_drawn_flips (K : PySem.W.Frag) : Sp := sp2 fun a b H Q => ∃ (r : Addr) (bits n : Nat), a = .ref r ∧ b = .int (bits : Int) ∧ Reel H r n ∧ n < 2 ^ 39 ∧ 1 ≤ bits ∧ bits ≤ 100 ∧
  ∀ (fl : Nat) (H' : Hp), Stp r H H' → Reel H' r (n + 300) → fl < 2 ^ bits → Q (.int (fl : Int)) H'
abbrev sp_law_goes (K : PySem.W.Frag) : Sp := sp3 fun a b c H Q => ∃ (l : Addr) (ts : List Nat) (fl p : Nat), a = .ref l ∧ b = .int (fl : Int) ∧ c = .int (p : Int) ∧ H l = some (.lst (nv ts)) ∧ Ts ts ∧ ∀ H', Ext H H' → Q (.int (go ts fl p : Int)) H'
abbrev sp_law_great (K : PySem.W.Frag) : Sp := sp1 fun a H Q => ∃ (r : Addr) (n : Nat), a = .ref r ∧ Reel H r n ∧ n < 2 ^ 38 ∧
  ∀ (p l : Addr) (ts : List Nat) (fl : Nat) (H' : Hp), Stp r H H' → Reel H' r (n + 1000) → H l = none → H' l = some (.lst (nv ts)) → H p = none → H' p = some (.tup [.ref l, .int (fl : Int)]) → Ts ts → fl < 2 ^ ts.length → Q (.ref p) H'
theorem swap_perm {ts : List Nat} {i j a b : Nat} (hi : ts[i]? = some a) (hj : ts[j]? = some b) : ((ts.set i b).set j a).Perm ts := by
  obtain ⟨h1, rfl⟩ := List.getElem?_eq_some_iff.mp hi
  obtain ⟨h2, rfl⟩ := List.getElem?_eq_some_iff.mp hj
  exact List.set_set_perm h1 h2
set_option exponentiation.threshold 2000 in
theorem many_lt : 1000 < 2 ^ 1000 := Nat.lt_two_pow_self
set_option exponentiation.threshold 2000 in
theorem places_lt {bits : Nat} (h : bits ≤ 100) : 2 ^ bits < 2 ^ 1000 := Nat.pow_lt_pow_right (by decide) (by omega)
end G

/-! Steps of the laws: turns made and asked, texts of lists, lists by comprehension. -/
namespace G
open PySem PySem.Spec PyProof.Rows L2 M
section
variable {D : Ends} {σ : L2.St} {H : Hp} {Q : VK} {K : PySem.W.Frag} {C x l a : Addr} {ts : List Nat} {fl n : Nat} {tl : TA} {xs : List V} {v : V} {te ta : TE}
theorem g_mkT (h : tl σ H fun vs H1 => sp2 (pTurn C) vs H1 Q E0) : tTurn C tl σ H Q := h
theorem g_bits (t : TurnAt C H x l ts fl) (q : Q (.int (ts.length : Int)) H) (e : σ[n]? = some (some (.ref x)) := by rfl) : tProp1 (pBits C) (tVar n) σ H Q := ⟨_, e, x, l, ts, fl, rfl, t, q⟩
theorem g_flips (t : TurnAt C H x l ts fl) (q : Q (.int (fl : Int)) H) (e : σ[n]? = some (some (.ref x)) := by rfl) : tProp1 (pFlips C) (tVar n) σ H Q := ⟨_, e, x, l, ts, fl, rfl, t, q⟩
theorem g_targets (t : TurnAt C H x l ts fl) (q : ∀ p, H p = none → Q (.ref p) (upd H p (.lst (nv ts)))) (e : σ[n]? = some (some (.ref x)) := by rfl) : tProp1 (pTargets C) (tVar n) σ H Q := ⟨_, e, x, l, ts, fl, rfl, t, q⟩
/-- x.append(c) -/
theorem g_appC (hl : H a = some (.lst xs)) (hs : xs.length < sizeLine) (q : Q .non (upd H a (.lst (xs ++ [v])))) (e : σ[n]? = some (some (.ref a)) := by rfl) : tBM K "list" rAppend (tVar n) (tCons (tC v) tNil) σ H Q :=
  ⟨_, e, .inl ⟨rfl, _, SqL.of hl⟩, a, xs, v, rfl, rfl, hl, hs, q⟩
end
theorem g_goes {C : Addr} {ta : TE} {t : TA} {σ : L2.St} {H : Hp} {Q : VK} (h : ta σ H fun x H1 => (∃ (a l : Addr) (ts : List Nat) (fl : Nat), x = .ref a ∧ TurnAt C H1 a l ts fl) ∧ t σ H1 fun vs H2 => ∃ v, vs = [v] ∧ pGoes C x v H2 Q) : tGoes C ta t σ H Q := h
theorem g_nn {P : Prop} (h : P) : V.non = V.non ∧ P := ⟨rfl, h⟩
theorem g_un2 {P : V → V → Hp → VK → Prop} {x y : V} {H : Hp} {Q : VK} (h : P x y H Q) : (fun a b H Q => P a b H Q) x y H Q := h
theorem TurnAt.put {C : Addr} {H : Hp} {x l p : Addr} {ts : List Nat} {fl : Nat} {o : HO} (t : TurnAt C H x l ts fl) (h1 : x ≠ p) (h2 : l ≠ p) : TurnAt C (upd H p o) x l ts fl :=
  ⟨t.ob.elim fun dx h => ⟨dx, by rw [upd_ne h1]; exact h⟩, by rw [upd_ne h2]; exact t.ls, t.ok, t.fl⟩
theorem TurnAt.new {C : Addr} {H : Hp} {x l p : Addr} {ts : List Nat} {fl : Nat} {o : HO} (t : TurnAt C H x l ts fl) (h : H p = none) : TurnAt C (upd H p o) x l ts fl := t.ext (Ext.new h)

theorem TurnAt.nx {C : Addr} {H : Hp} {x l p : Addr} {ts : List Nat} {fl : Nat} (t : TurnAt C H x l ts fl) (h : H p = none) : x ≠ p := t.ob.elim fun _ z => ne_of_none z h
theorem TurnAt.nl {C : Addr} {H : Hp} {x l p : Addr} {ts : List Nat} {fl : Nat} (t : TurnAt C H x l ts fl) (h : H p = none) : l ≠ p := ne_of_none t.ls h
/-- a list made and changed thereafter -/
theorem TurnAt.put2 {C : Addr} {H : Hp} {x l p : Addr} {ts : List Nat} {fl : Nat} {o o' : HO} (t : TurnAt C H x l ts fl) (h : H p = none) : TurnAt C (upd (upd H p o) p o') x l ts fl := (t.new h).put (t.nx h) (t.nl h)
theorem Ext.put2 {H H1 : Hp} {p : Addr} {o o' : HO} (e : Ext H H1) (h : H1 p = none) : Ext H (upd (upd H1 p o) p o') := (e.new' h).mut (e.free h)
theorem Ext.keep {H H1 : Hp} {a : Addr} {o : HO} (e : Ext H H1) (h : H a = some o) : H1 a = some o := e a o h

/-- what was made and changed after H -/
theorem Stp.out {r : Addr} {H H1 H2 : Hp} (e : Ext H H1) (s : Stp r H1 H2) (hr : H r = none) : Ext H H2 := fun b o h => s b o (e b o h) (ne_of_none h hr)

/-! ### texts -/
theorem _root_.M.Ts.small {ts : List Nat} (h : Ts ts) : ∀ n ∈ ts, n < 2 ^ 1900 := fun n hn => by
  have h1 := h.lt n hn
  have h2 := h.most
  refine Nat.lt_trans (Nat.lt_of_lt_of_le h1 h2) ?_
  exact Nat.lt_of_lt_of_le (by decide : 100 < 2 ^ 7) (Nat.pow_le_pow_right (by decide) (by decide))
theorem _root_.M.Ts.fl_small {ts : List Nat} {fl : Nat} (h : Ts ts) (hf : fl < 2 ^ ts.length) : fl < 2 ^ 1900 := Nat.lt_of_lt_of_le hf (Nat.pow_le_pow_right (by decide) (Nat.le_trans h.most (by decide)))
theorem log_small {n : Nat} (h : n < 2 ^ 1900) : ((n : Int)).natAbs.log2 < 1920 := by
  rw [Int.natAbs_natCast]
  by_cases h0 : n = 0
  · subst h0
    decide
  · rw [Nat.log2_lt h0]
    exact Nat.lt_trans h (Nat.pow_lt_pow_right (by decide) (by decide))
/-- [a, ts, b] -/
def d3 (a : Nat) (ts : List Nat) (b : Nat) : PyData := .list [.int (a : Int), .list (nd ts), .int (b : Int)]
open PyData in
theorem nd_text {l : List Nat} (h : ∀ n ∈ l, n < 2 ^ 1900) : (listText (shownAll (nd l))).length ≤ 1923 * l.length + 2 := by
  have := (nd_show l h).2.2
  have := listText_le (shownAll (nd l))
  omega
open PyData in
theorem repr_nd {K : PySem.W.Frag} {H : Hp} {a : Addr} {l : List Nat} {Q : VK} (hl : H a = some (.lst (nv l))) (h : ∀ n ∈ l, n < 2 ^ 1900) (hn : l.length ≤ 8000) (q : Q (.str (PyData.list (nd l)).shown) H) : rReprD K [.ref a] H Q := by
  obtain ⟨h1, h2, h3⟩ := nd_show l h
  have h4 := nd_text h
  refine ⟨_, .list (nd l), rfl, dp_nv hl, ?_, ?_, ?_, ?_, ⟨a, rfl⟩, q⟩
  · unfold showable
    exact h1
  · unfold hasDict
    exact h2
  · unfold depth
    rw [nd_depth]
    decide
  · have e : sizeLine = 16777216 := by decide
    unfold PyData.shown
    omega
open PyData in
theorem repr_d3 {K : PySem.W.Frag} {H : Hp} {p a : Addr} {n m : Nat} {ts : List Nat} {Q : VK} (hp : H p = some (.lst [.int (n : Int), .ref a, .int (m : Int)])) (hl : H a = some (.lst (nv ts))) (h : ∀ n ∈ ts, n < 2 ^ 1900) (ht : ts.length ≤ 1000)
    (hn : n < 2 ^ 1900) (hm : m < 2 ^ 1900) (q : Q (.str (d3 n ts m).shown) H) : rReprD K [.ref p] H Q := by
  obtain ⟨h1, h2, h3⟩ := nd_show ts h
  have h4 := nd_text h
  have hn' := log_small hn
  have hm' := log_small hm
  have s1 := int_show_le hn'
  have s2 := int_show_le hm'
  refine ⟨_, d3 n ts m, rfl, .lst (SqL.of hp) (.cons (.int _) (.cons (dp_nv hl) (.cons (.int _) .nil))), ?_, ?_, ?_, ?_, ⟨p, rfl⟩, q⟩
  · unfold d3
    simp only [showable, showableAll, decide_eq_true hn', decide_eq_true hm', h1, Bool.and_true]
  · unfold d3
    simp only [hasDict, hasDictAll, h2, Bool.or_false]
  · unfold d3
    simp only [depth, depthAll, nd_depth]
    decide
  · have e : sizeLine = 16777216 := by decide
    have e2 := listText_le [PyData.shown (.int (n : Int)), listText (shownAll (nd ts)), PyData.shown (.int (m : Int))]
    have e3 : (d3 n ts m).shown = listText [PyData.shown (.int (n : Int)), listText (shownAll (nd ts)), PyData.shown (.int (m : Int))] := by
      unfold d3
      simp only [PyData.shown, shownAll]
    rw [e3]
    simp only [piled_cons, piled_nil] at e2
    omega
theorem nv_succ (f : Nat → Nat) (i : Nat) : nv ((List.range i).map f) ++ [.int (f i : Int)] = nv ((List.range (i + 1)).map f) := by
  rw [List.range_succ, List.map_append, nv_append]
  rfl
/-- a list that grows by one -/
theorem grown {H H' H2 : Hp} {p : Addr} {f : Nat → Nat} {i : Nat} (e : Ext H H') (e2 : Ext H' H2) (hp : H p = none) (h : H' p = some (.lst (nv ((List.range i).map f)))) (hi : i < 16000000) :
    ∃ acc, H2 p = some (.lst acc) ∧ acc.length < sizeLine ∧ (Ext H (upd H2 p (.lst (acc ++ [.int (f i : Int)]))) ∧ upd H2 p (.lst (acc ++ [.int (f i : Int)])) p = some (.lst (nv ((List.range (i + 1)).map f)))) := by
  have hs : sizeLine = 16777216 := by decide
  refine ⟨_, e2 _ _ h, ?_, (e.trans e2).mut hp, ?_⟩
  · rw [nv_len, List.length_map, List.length_range]
    omega
  · rw [upd_same, nv_succ]
theorem xor_one_ne (a : Nat) : ¬ a = a ^^^ 1 := fun h => by
  have h1 : (a ^^^ 1) % 2 = 1 ↔ ¬(a % 2 = 1 ↔ 1 % 2 = 1) := Nat.xor_mod_two_eq_one
  rw [← h] at h1
  omega
theorem xor_one_lt {a n : Nat} (h : a < 2 ^ n) (hn : 1 ≤ n) : a ^^^ 1 < 2 ^ n := Nat.xor_lt_two_pow h (Nat.one_lt_two_pow (by omega))
theorem xor_one (a : Nat) : Builtin.bitXor (a : Int) 1 = ((a ^^^ 1 : Nat) : Int) := bitXor_nat a 1
/-- one more that stays -/
theorem _root_.M.Ts.snoc {ts : List Nat} (h : Ts ts) (hl : ts.length < 100) : Ts (ts ++ [ts.length]) := by
  refine (Ts.of_perm (n := ts.length + 1) ?_ (by omega) (by omega)).1
  rw [List.range_succ]
  exact h.perm.append_right _
theorem Other.non {K : PySem.W.Frag} {H : Hp} : Other K H .non := ⟨"NoneType", .base .non, by decide⟩
theorem Other.int {K : PySem.W.Frag} {H : Hp} {i : Int} : Other K H (.int i) := ⟨"int", .base (.int i), by decide⟩
theorem Other.str {K : PySem.W.Frag} {H : Hp} {x : Str} : Other K H (.str x) := ⟨"str", .base (.str x), by decide⟩
theorem Other.lst {K : PySem.W.Frag} {H : Hp} {a : Addr} {xs : List V} (h : H a = some (.lst xs)) : Other K H (.ref a) := ⟨"list", .base (.lst h), by decide⟩
theorem Other.tup {K : PySem.W.Frag} {H : Hp} {a : Addr} {xs : List V} (h : H a = some (.tup xs)) : Other K H (.ref a) := ⟨"tuple", .base (.tup h), by decide⟩
theorem EqTo.other {K : PySem.W.Frag} {C : Addr} {H : Hp} {b : V} {ts : List Nat} {fl : Nat} (h : Other K H b) : EqTo K C H b ts fl false := .inr ⟨h, rfl⟩
theorem EqTo.turn {K : PySem.W.Frag} {C : Addr} {H : Hp} {y l : Addr} {ts ts' : List Nat} {fl fl' : Nat} (h : TurnAt C H y l ts' fl') : EqTo K C H (.ref y) ts fl (decide (ts = ts' ∧ fl = fl')) := .inl ⟨y, l, ts', fl', rfl, h, rfl⟩
theorem dp_nilL {K : PySem.W.Frag} {H : Hp} {a : Addr} (h : H a = some (.lst [])) : Dp K H (.ref a) (.list []) := .lst (SqL.of h) .nil
theorem len5 {P : V → Prop} {a b c d e : V} (ha : P a) (hb : P b) (hc : P c) (hd : P d) (he : P e) {i : Nat} {x : V} (h : [a, b, c, d, e][i]? = some x) : P x := by
  match i, h with
  | 0, h => cases h; exact ha
  | 1, h => cases h; exact hb
  | 2, h => cases h; exact hc
  | 3, h => cases h; exact hd
  | 4, h => cases h; exact he
  | _ + 5, h => cases h
open PyData in
theorem pair_eq (l m : List Nat) (a b : Nat) : eqv (.tuple [.list (nd l), .int (a : Int)]) (.tuple [.list (nd m), .int (b : Int)]) = decide (l = m ∧ a = b) := by
  have e : eqv (.tuple [.list (nd l), .int (a : Int)]) (.tuple [.list (nd m), .int (b : Int)]) = (eqv (.list (nd l)) (.list (nd m)) && (eqv (.int (a : Int)) (.int (b : Int)) && true)) := by
    simp only [eqv, eqvAll]
  rw [e, nd_eq]
  have e2 : eqv (.int (a : Int)) (.int (b : Int)) = decide (a = b) := by
    unfold eqv
    by_cases h : a = b
    · subst h
      simp
    · have h' : ¬ ((a : Int) = (b : Int)) := by omega
      simp [h, h']
  rw [e2]
  by_cases h : l = m <;> by_cases g : a = b <;> simp [h, g]
open PyData in
theorem pair_shaped (l : List Nat) (a : Nat) : SeqAt.shaped (.tuple [.list (nd l), .int (a : Int)]) = true := by
  unfold SeqAt.shaped
  simp only [canLay0, canLayAll0, depth, depthAll, nd_canLay, nd_depth]
  rfl
theorem dp_pair {K : PySem.W.Frag} {H : Hp} {p l : Addr} {ts : List Nat} {a : Nat} (hp : H p = some (.tup [.ref l, .int (a : Int)])) (hl : H l = some (.lst (nv ts))) : Dp K H (.ref p) (.tuple [.list (nd ts), .int (a : Int)]) :=
  .tup (SqT.of hp) (.cons (dp_nv hl) (.cons (.int _) .nil))
/-- sorted numbers that are 0 .. n - 1 in some order -/
theorem sorted_range {ns : List Int} {l : List Nat} {n : Nat} (hp : ns.Perm (l.map fun (n : Nat) => (n : Int))) (hs : ns.Pairwise (· ≤ ·)) (hl : l.Perm (List.range n)) : ns.map V.int = nv (List.range n) := by
  have h1 : ns.Perm ((List.range n).map fun (n : Nat) => (n : Int)) := hp.trans (hl.map _)
  have h2 : ((List.range n).map fun (n : Nat) => (n : Int)).Pairwise (· ≤ ·) := by
    rw [List.pairwise_map]
    exact List.Pairwise.imp (fun {a b} (h : a < b) => by omega) List.pairwise_lt_range
  have e := List.Perm.eq_of_pairwise (le := (· ≤ ·)) (fun a b _ _ h1 h2 => Int.le_antisymm h1 h2) hs h2 h1
  rw [e, nv_ints]
/-- max(1, min(6, n)) -/
theorem few_ex (n k : Nat) (hk : 1 ≤ k) : ∃ m : Nat, m ≤ k ∧ (if (if (n : Int) < (k : Int) then (n : Int) else (k : Int)) > 1 then (if (n : Int) < (k : Int) then (n : Int) else (k : Int)) else 1) = (m : Int) := by
  by_cases h : (n : Int) < (k : Int)
  · by_cases g : (n : Int) > 1
    · exact ⟨n, by omega, by rw [if_pos h, if_pos g]⟩
    · exact ⟨1, by omega, by rw [if_pos h, if_neg g]; rfl⟩
  · by_cases g : (k : Int) > 1
    · exact ⟨k, by omega, by rw [if_neg h, if_pos g]⟩
    · exact ⟨1, by omega, by rw [if_neg h, if_neg g]; rfl⟩
end G

namespace L
open PySem PySem.Spec PyProof.Rows L2 G M
/-! ### the steps that need no word -/
local macro_rules | `(tactic| walk_at "go1") => `(tactic| first
  | (with_reducible first
    | refine g_seq ?_ | refine g_next ?_ | refine g_asg ?_ | refine g_drop ?_ | refine g_ret ?_ | refine g_if ?_ | refine g_par ?_ | refine g_par2 ?_ | refine g_name ?_ | refine g_gcons ?_ | refine g_gnil ?_ | refine g_gsub ?_
    | refine g_c ?_ | refine g_op ?_ | refine g_un ?_ | refine g_I0 ?_ | refine g_U ?_ | refine g_test ?_ | refine g_B ?_ | refine g_bl ?_ | refine g_yes ?_ | refine g_and ?_ | refine g_or ?_ | refine g_not ?_
    | refine g_andV ?_ | refine g_orV ?_ | refine g_notV ?_ | refine g_ifE ?_ | refine g_chain ?_ | refine g_nil ?_ | refine g_cons ?_ | refine g_cal ?_ | refine g_cb ?_ | refine g_sp1 ?_ | refine g_sp2 ?_ | refine g_sp3 ?_ | refine g_sp4 ?_
    | refine g_tupT ?_ | refine g_lstT ?_ | refine g_sfld ?_ | refine g_dput ?_ | refine g_din ?_ | refine g_dnew ?_ | refine g_for ?_ | refine g_lc ?_ | refine g_ienum ?_ | refine g_irng1 ?_ | refine g_ilist ?_ | refine g_itup ?_
    | refine g_mkT ?_ | refine g_nn ?_ | refine g_intI ?_ | refine g_intB ?_ | refine g_two ?_ | refine g_one ?_ | refine g_lstRg ?_ | refine g_sl ?_ | refine g_nopart ?_ | refine g_part ?_ | refine g_revl ?_ | refine g_exI ?_)
  | ((with_reducible refine' g_var ?e ?_); (case e => rfl))
  | ((with_reducible refine' g_eq ?e ?_); (case e => rfl))
  | ((with_reducible refine' g_ne ?e ?_); (case e => rfl))
  | ((with_reducible refine' g_short ?e ?_); (case e => rfl))
  | ((with_reducible refine' g_Ip ?c ?_); (case c => exact ⟨by decide, by decide +kernel⟩))
  | ((with_reducible refine' g_Im ?c ?_); (case c => first | decide | omega))
  | ((with_reducible refine' g_Id ?c ?_); (case c => exact ⟨by decide, by decide +kernel⟩))
  | (with_reducible refine g_Is ?_))
local macro_rules | `(tactic| walk_at "go") => `(tactic| repeat (walk_at "go1"))

/-! ### the text by places -/
def top (i : Nat) : Stmt := PySem.Challenge.pw_indexturns_k01_places_by_bits.main.body.getD i (.Pass ⟨0, 0, 0, 0⟩)
structure Txt (K : PySem.W.Frag) (mg : Str → Option Value) (CT : Addr) : Prop where
  n_bool : mg "bool" = none
  n_enumerate : mg "enumerate" = none
  n_int : mg "int" = none
  n_isinstance : mg "isinstance" = none
  n_len : mg "len" = none
  n_list : mg "list" = none
  n_max : mg "max" = none
  n_min : mg "min" = none
  n_range : mg "range" = none
  n_repr : mg "repr" = none
  n_sorted : mg "sorted" = none
  m_MOST_BITS : ∃ u, mg "MOST_BITS" = some u ∧ RelV (.int 100) u
  m_Turn : mg "Turn" = some (.ref CT)
abbrev s_is_integer : Stmt := top 7
abbrev N_is_integer : List Str := ["value"]
theorem sc_is_integer : FnScope N_is_integer ["value"] (defScope s_is_integer) := ⟨rfl, rfl, rfl, by decide +kernel, rfl, by decide +kernel, by decide +kernel⟩
theorem ok_is_integer {P : Program} {w : World} {K : PySem.W.Frag} {mg : Str → Option Value} {base : Heap} {f CT : Addr} {fd : FuncData} (F : Fun K "is_integer" "is_integer" s_is_integer f fd) (T : Txt K mg CT) : FnOk P w K mg base CX0 1 f fd ["value"] (sp_is_integer K) := by
  refine F.ok sc_is_integer sp1_len (fun cd A outer s H vs Q E hr h => ?_)
  obtain ⟨v, rfl, b, ⟨t, b1, b2, ty, k1, k2, rfl⟩, q⟩ := h
  refine ⟨_, (pss_one (ps_ret (pe_and (pe_callB (call_isiK (K0 := K)) rfl T.n_isinstance bt_isinstance (pa_cons (pv 0) (pa_cons (pe_bltn (v := .ty "int") rfl T.n_int bt_int rfl) pa_nil))) (pe_one (pe_not (pe_callB (call_isiK (K0 := K)) rfl T.n_isinstance bt_isinstance (pa_cons (pv 0) (pa_cons (pe_bltn (v := .ty "bool") rfl T.n_bool bt_bool rfl) pa_nil)))))))), ?_⟩
  walk_at "go"
  refine ⟨v, .ty "int", t, .type "int", b1, rfl, .ty "int", ty, k1, ?_⟩
  walk_at "go"
  cases b1 with
  | false => exact q
  | true =>
    refine iteT ?_
    walk_at "go"
    refine ⟨v, .ty "bool", t, .type "bool", b2, rfl, .ty "bool", ty, k2, ?_⟩
    walk_at "go"
    exact q

abbrev s_is_between : Stmt := top 8
abbrev N_is_between : List Str := ["value", "least", "greatest"]
theorem sc_is_between : FnScope N_is_between ["value", "least", "greatest"] (defScope s_is_between) := ⟨rfl, rfl, rfl, by decide +kernel, rfl, by decide +kernel, by decide +kernel⟩
theorem ok_is_between {P : Program} {w : World} {K : PySem.W.Frag} {mg : Str → Option Value} {base : Heap} {f CT : Addr} {fd : FuncData} (F : Fun K "is_between" "is_between" s_is_between f fd) (T : Txt K mg CT) (c_is_integer : CalO P w K mg base "is_integer" 1 (sp_is_integer K)) : FnOk P w K mg base CX0 2 f fd ["value", "least", "greatest"] (sp_is_between K) := by
  refine F.ok sc_is_between sp3_len (fun cd A outer s H vs Q E hr h => ?_)
  obtain ⟨v, lo, hi, rfl, b, i, j, rfl, rfl, hb, q0, q1⟩ := h
  refine ⟨_, (pss_one (ps_ret (pe_and (pe_o c_is_integer hr (by decide) rfl (pa_cons (pv 0) pa_nil)) (pe_one (pe_chain op_le op_le (pv 1) (pv 0) (pv 2)))))), ?_⟩
  walk_at "go"
  refine ⟨b, hb, ?_⟩
  walk_at "go"
  cases b with
  | false => exact q0 rfl
  | true =>
    obtain ⟨n, rfl, q⟩ := q1 rfl
    refine iteT ?_
    walk_at "go"
    by_cases h1 : i ≤ n
    · rw [decide_eq_true h1]
      refine iteT ?_
      walk_at "go"
      rw [decide_eq_true h1] at q
      exact q
    · rw [decide_eq_false h1]
      refine iteF ?_
      rw [decide_eq_false h1] at q
      exact q

abbrev s_check_place : Stmt := top 9
abbrev N_check_place : List Str := ["place", "bits"]
theorem sc_check_place : FnScope N_check_place ["place", "bits"] (defScope s_check_place) := ⟨rfl, rfl, rfl, by decide +kernel, rfl, by decide +kernel, by decide +kernel⟩
theorem ok_check_place {P : Program} {w : World} {K : PySem.W.Frag} {mg : Str → Option Value} {base : Heap} {f CT : Addr} {fd : FuncData} (F : Fun K "check_place" "check_place" s_check_place f fd) (T : Txt K mg CT) (c_is_between : CalO P w K mg base "is_between" 2 (sp_is_between K)) : FnOk P w K mg base CX0 3 f fd ["place", "bits"] (sp_check_place K) := by
  refine F.ok sc_check_place sp2_len (fun cd A outer s H vs Q E hr h => ?_)
  obtain ⟨p, n, rfl, p', n', rfl, rfl, hn, hp, q⟩ := h
  refine ⟨_, (pss_one (ps_if (pt_not (pt_val (pe_o c_is_between hr (by decide) rfl (pa_cons (pv 0) (pa_cons pe_int (pa_cons (pe_op op_sub (pe_op op_shlW pe_int (pv 1)) pe_int) pa_nil)))))) (pss_one ps_never) pss_nil)), ?_⟩
  walk_at "go"
  refine g_I (cshl_one hn) ?_
  walk_at "go"
  refine ⟨true, 0, _, rfl, rfl, IsI.int _, (fun z => by cases z), fun _ => ⟨_, rfl, ?_⟩⟩
  walk_at "go"
  rw [in_places hp]
  exact iteF q

abbrev s_Turn_init : Stmt := inClass (top 11) 0
abbrev N_Turn_init : List Str := ["self", "targets", "flips"]
theorem sc_Turn_init : FnScope N_Turn_init ["self", "targets", "flips"] (defScope s_Turn_init) := ⟨rfl, rfl, rfl, by decide +kernel, rfl, by decide +kernel, by decide +kernel⟩
theorem ok_Turn_init {P : Program} {w : World} {K : PySem.W.Frag} {mg : Str → Option Value} {base : Heap} {f CT : Addr} {fd : FuncData} (F : Fun K "__init__" "Turn.__init__" s_Turn_init f fd) (T : Txt K mg CT) (ct : TurnText K mg CT) (c_is_between : CalO P w K mg base "is_between" 2 (sp_is_between K)) (c_check_targets : CalO P w K mg base "check_targets" 3 (sp_check_targets K)) : FnOk P w K mg base CX0 4 f fd ["self", "targets", "flips"] (sp_Turn_init K CT) := by
  refine F.ok sc_Turn_init sp3_len (fun cd A outer s H vs Q E hr h => ?_)
  obtain ⟨self, a, b, rfl, x, dx, l, ts, fl, rfl, rfl, rfl, hx, hl, ok, hf, q⟩ := h
  have hm := ok.most
  refine ⟨_, (pss_cons (ps_expr (pe_o c_check_targets hr (by decide) rfl (pa_cons (pv 1) pa_nil)))
    (pss_cons (ps_if (pt_not (pt_val (pe_o c_is_between hr (by decide) rfl (pa_cons (pv 2) (pa_cons pe_int (pa_cons (pe_op op_sub (pe_op op_shlW pe_int (pe_callB (call_lenK (K0 := K)) rfl T.n_len bt_len (pa_cons (pv 1) pa_nil))) pe_int) pa_nil)))))) (pss_one ps_never) pss_nil)
    (pss_cons (ps_fld (pv 0) (pe_callTy (call_listK (K0 := K)) rfl T.n_list bt_list (pa_cons (pv 1) pa_nil)) rfl)
    (pss_one (ps_fld (pv 0) (pv 2) rfl))))), ?_⟩
  walk_at "go"
  refine ⟨l, ts, rfl, hl, ok, fun H1 e1 => ?_⟩
  walk_at "go"
  refine ⟨l, nv ts, rfl, .inl (SqL.of (e1 _ _ hl)), ?_⟩
  walk_at "go"
  refine g_I (cshl_one (by rw [nv_len]; omega)) ?_
  walk_at "go"
  refine ⟨true, 0, _, rfl, rfl, IsI.int _, (fun z => by cases z), fun _ => ⟨_, rfl, ?_⟩⟩
  walk_at "go"
  rw [in_places (by rw [nv_len]; exact hf)]
  refine iteF ?_
  walk_at "go"
  refine ⟨l, nv ts, rfl, .inl (SqL.of (e1 _ _ hl)), fun l' hl' => ?_⟩
  have hxl : x ≠ l' := ne_of_none (e1 _ _ hx) hl'
  walk_at "go"
  refine ⟨x, CT, dx, [], rfl, by rw [upd_ne hxl]; exact e1 _ _ hx, ct.cl, ct.nT, (by show 0 < 1000; decide), ?_⟩
  walk_at "go"
  refine ⟨x, CT, dx, _, rfl, upd_same, ct.cl, ct.nF, (by show 1 < 1000; decide), ?_⟩
  refine q _ l' (fun b o hb e => ?_) (e1.free hl') ⟨⟨dx, upd_same⟩, ?_, ok, hf⟩
  · rw [upd_ne hb, upd_ne hb, upd_ne (ne_of_none (e1 _ _ e) hl')]
    exact e1 _ _ e
  · rw [upd_ne (Ne.symm hxl), upd_ne (Ne.symm hxl), upd_same]

abbrev s_Turn_bits : Stmt := inClass (top 11) 1
abbrev N_Turn_bits : List Str := ["self"]
theorem sc_Turn_bits : FnScope N_Turn_bits ["self"] (defScope s_Turn_bits) := ⟨rfl, rfl, rfl, by decide +kernel, rfl, by decide +kernel, by decide +kernel⟩
theorem ok_Turn_bits {P : Program} {w : World} {K : PySem.W.Frag} {mg : Str → Option Value} {base : Heap} {f CT : Addr} {fd : FuncData} (F : Fun K "bits" "Turn.bits" s_Turn_bits f fd) (T : Txt K mg CT) (ct : TurnText K mg CT) : FnOk P w K mg base CX0 1 f fd ["self"] (sp_Turn_bits K CT) := by
  refine F.ok sc_Turn_bits sp1_len (fun cd A outer s H vs Q E hr h => ?_)
  obtain ⟨a, rfl, x, l, ts, fl, rfl, at_, q⟩ := h
  obtain ⟨dx, hx⟩ := at_.ob
  refine ⟨_, (pss_one (ps_ret (pe_callB (call_lenK (K0 := K)) rfl T.n_len bt_len (pa_cons (pe_fldK (K0 := K) (pv 0) rfl) pa_nil)))), ?_⟩
  walk_at "go"
  refine g_fld hx ct.cl ct.nT (flds_targets _ _) ?_
  walk_at "go"
  refine ⟨l, nv ts, rfl, .inl (SqL.of at_.ls), ?_⟩
  rw [nv_len]
  exact q

abbrev s_Turn_targets : Stmt := inClass (top 11) 2
abbrev N_Turn_targets : List Str := ["self"]
theorem sc_Turn_targets : FnScope N_Turn_targets ["self"] (defScope s_Turn_targets) := ⟨rfl, rfl, rfl, by decide +kernel, rfl, by decide +kernel, by decide +kernel⟩
theorem ok_Turn_targets {P : Program} {w : World} {K : PySem.W.Frag} {mg : Str → Option Value} {base : Heap} {f CT : Addr} {fd : FuncData} (F : Fun K "targets" "Turn.targets" s_Turn_targets f fd) (T : Txt K mg CT) (ct : TurnText K mg CT) : FnOk P w K mg base CX0 1 f fd ["self"] (sp_Turn_targets K CT) := by
  refine F.ok sc_Turn_targets sp1_len (fun cd A outer s H vs Q E hr h => ?_)
  obtain ⟨a, rfl, x, l, ts, fl, rfl, at_, q⟩ := h
  obtain ⟨dx, hx⟩ := at_.ob
  refine ⟨_, (pss_one (ps_ret (pe_callTy (call_listK (K0 := K)) rfl T.n_list bt_list (pa_cons (pe_fldK (K0 := K) (pv 0) rfl) pa_nil)))), ?_⟩
  walk_at "go"
  refine g_fld hx ct.cl ct.nT (flds_targets _ _) ?_
  walk_at "go"
  exact ⟨l, nv ts, rfl, .inl (SqL.of at_.ls), fun p hp => q p hp⟩

abbrev s_Turn_flips : Stmt := inClass (top 11) 3
abbrev N_Turn_flips : List Str := ["self"]
theorem sc_Turn_flips : FnScope N_Turn_flips ["self"] (defScope s_Turn_flips) := ⟨rfl, rfl, rfl, by decide +kernel, rfl, by decide +kernel, by decide +kernel⟩
theorem ok_Turn_flips {P : Program} {w : World} {K : PySem.W.Frag} {mg : Str → Option Value} {base : Heap} {f CT : Addr} {fd : FuncData} (F : Fun K "flips" "Turn.flips" s_Turn_flips f fd) (T : Txt K mg CT) (ct : TurnText K mg CT) : FnOk P w K mg base CX0 1 f fd ["self"] (sp_Turn_flips K CT) := by
  refine F.ok sc_Turn_flips sp1_len (fun cd A outer s H vs Q E hr h => ?_)
  obtain ⟨a, rfl, x, l, ts, fl, rfl, at_, q⟩ := h
  obtain ⟨dx, hx⟩ := at_.ob
  refine ⟨_, (pss_one (ps_ret (pe_fldK (K0 := K) (pv 0) rfl))), ?_⟩
  walk_at "go"
  exact g_fld hx ct.cl ct.nF (flds_flips _ _) q

abbrev s_Turn_goes_to : Stmt := inClass (top 11) 4
abbrev N_Turn_goes_to : List Str := ["self", "place", "moved", "bit", "target"]
theorem sc_Turn_goes_to : FnScope N_Turn_goes_to ["self", "place"] (defScope s_Turn_goes_to) := ⟨rfl, rfl, rfl, by decide +kernel, rfl, by decide +kernel, by decide +kernel⟩
theorem ok_Turn_goes_to {P : Program} {w : World} {K : PySem.W.Frag} {mg : Str → Option Value} {base : Heap} {f CT : Addr} {fd : FuncData} (F : Fun K "goes_to" "Turn.goes_to" s_Turn_goes_to f fd) (T : Txt K mg CT) (ct : TurnText K mg CT) (c_check_place : CalO P w K mg base "check_place" 3 (sp_check_place K)) : FnOk P w K mg base CX0 4 f fd ["self", "place"] (sp_Turn_goes_to K CT) := by
  refine F.ok sc_Turn_goes_to sp2_len (fun cd A outer s H vs Q E hr h => ?_)
  obtain ⟨a, p, rfl, x, l, ts, fl, n, rfl, rfl, at_, hn, q⟩ := h
  obtain ⟨dx, hx⟩ := at_.ob
  have hm := at_.ok.most
  refine ⟨_, (pss_cons (ps_expr (pe_o c_check_place hr (by decide) rfl (pa_cons (pv 1) (pa_cons (pe_callB (call_lenK (K0 := K)) rfl T.n_len bt_len (pa_cons (pe_fldK (K0 := K) (pv 0) rfl) pa_nil)) pa_nil))))
    (pss_cons (ps_set (i := 2) sc_Turn_goes_to.nd rfl (.inl rfl) pe_int)
    (pss_cons (ps_for PassesOwn.never rfl (pi_enum rfl T.n_enumerate (pa_cons (pe_fldK (K0 := K) (pv 0) rfl) pa_nil)) (pg_tup rfl (pgs_cons (pg_name (i := 3) sc_Turn_goes_to.nd rfl (.inl rfl)) (pgs_cons (pg_name (i := 4) sc_Turn_goes_to.nd rfl (.inl rfl)) pgs_nil)))
    (pss_one (ps_set (i := 2) sc_Turn_goes_to.nd rfl (.inl rfl) (pe_op op_or (pv 2) (pe_op op_shlW (pe_op op_and (pe_op op_shr (pv 1) (pv 3)) pe_int) (pv 4))))))
    (pss_one (ps_ret (pe_op op_xor (pv 2) (pe_fldK (K0 := K) (pv 0) rfl))))))), ?_⟩
  walk_at "go"
  refine g_fld hx ct.cl ct.nT (flds_targets _ _) ?_
  walk_at "go"
  refine ⟨l, nv ts, rfl, .inl (SqL.of at_.ls), ?_⟩
  walk_at "go"
  refine ⟨n, (nv ts).length, rfl, rfl, by rw [nv_len]; omega, by rw [nv_len]; exact hn, ?_⟩
  walk_at "go"
  refine g_fld hx ct.cl ct.nT (flds_targets _ _) ?_
  walk_at "go"
  refine u_enum (SqL.of at_.ls) (fun i σ' H' => ∃ (m : Nat) (u v : Option V), σ' = [some (.ref x), some (.int (n : Int)), some (.int (m : Int)), u, v] ∧ Ext H H' ∧ ∀ j, m.testBit j = byFirst ts (fun e _ => n.testBit e) i j) ?_ ?_ ?_ ?_
  · exact ⟨0, none, none, rfl, Ext.refl H, fun j => by rw [byFirst_zero, Nat.zero_testBit]⟩
  · rintro i σ' H' _ ⟨m, u, v, rfl, e, _⟩
    exact SqL.of (e _ _ at_.ls)
  · rintro i v σ' H1 H2 hi ⟨m, u, w', rfl, e1, hb⟩ e2
    obtain ⟨t, ht, rfl⟩ := nv_get hi
    have htl := at_.ok.lt t (List.mem_of_getElem? ht)
    walk_at "go"
    rw [bit_at]
    refine g_I (cshl_small (by cases n.testBit i <;> decide) (by omega)) ?_
    walk_at "go"
    rw [shl_nat, bitOr_nat]
    exact ⟨_, _, _, rfl, e1.trans e2, or_step at_.ok ht hb rfl⟩
  · rintro σ' H1 ⟨m, u, w', rfl, e1, hb⟩
    walk_at "go"
    refine g_fld (e1 _ _ hx) ct.cl ct.nF (flds_flips _ _) ?_
    walk_at "go"
    rw [bitXor_nat]
    rw [nv_len] at hb
    rw [go_of_or at_.ok at_.fl hb]
    exact q H1 e1

abbrev s_Turn_eq : Stmt := inClass (top 11) 5
abbrev N_Turn_eq : List Str := ["self", "other"]
theorem sc_Turn_eq : FnScope N_Turn_eq ["self", "other"] (defScope s_Turn_eq) := ⟨rfl, rfl, rfl, by decide +kernel, rfl, by decide +kernel, by decide +kernel⟩
theorem ok_Turn_eq {P : Program} {w : World} {K : PySem.W.Frag} {mg : Str → Option Value} {base : Heap} {f CT : Addr} {fd : FuncData} (F : Fun K "__eq__" "Turn.__eq__" s_Turn_eq f fd) (T : Txt K mg CT) (ct : TurnText K mg CT) : FnOk P w K mg base CX0 1 f fd ["self", "other"] (sp_Turn_eq K CT) := by
  refine F.ok sc_Turn_eq sp2_len (fun cd A outer s H vs Q E hr h => ?_)
  obtain ⟨a, b, rfl, x, l, ts, fl, r, rfl, at_, eq, q⟩ := h
  obtain ⟨dx, hx⟩ := at_.ob
  refine ⟨_, (pss_one (ps_ret (pe_and (pe_callB (call_isiK (K0 := K)) rfl T.n_isinstance bt_isinstance (pa_cons (pv 1) (pa_cons (pe_glob (v := .ref CT) rfl T.m_Turn rfl) pa_nil))) (pe_and (pe_cmpR (op_eqDK (K0 := K) hr) (pe_fldK (K0 := K) (pv 0) rfl) (pe_fldK (K0 := K) (pv 1) rfl) (nomark _)) (pe_one (pe_cmpR op_eq (pe_fldK (K0 := K) (pv 0) rfl) (pe_fldK (K0 := K) (pv 1) rfl) (nomark _))))))), ?_⟩
  walk_at "go"
  rcases eq with ⟨y, l', ts', fl', rfl, bt, er⟩ | ⟨⟨t, ty, mem⟩, er⟩
  · obtain ⟨dy, hy⟩ := bt.ob
    refine ⟨_, .ref CT, .ref CT, .ref CT, true, rfl, .own CT, ct.ty bt, ct.isT, ?_⟩
    walk_at "go"
    refine iteT ?_
    walk_at "go"
    refine g_fld hx ct.cl ct.nT (flds_targets _ _) ?_
    walk_at "go"
    refine g_fld hy ct.cl ct.nT (flds_targets _ _) ?_
    refine ⟨_, _, dp_nv at_.ls, dp_nv bt.ls, nd_shaped _, nd_shaped _, ?_⟩
    walk_at "go"
    rw [nd_eq]
    by_cases e : ts = ts'
    · rw [decide_eq_true e]
      refine iteT ?_
      walk_at "go"
      refine g_fld hx ct.cl ct.nF (flds_flips _ _) ?_
      walk_at "go"
      refine g_fld hy ct.cl ct.nF (flds_flips _ _) ?_
      walk_at "go"
      have e2 : decide (V.int (fl : Int) = V.int (fl' : Int)) = r := by
        rw [er]
        simp [e]
        constructor
        · intro z
          cases z
          omega
        · rintro rfl
          rfl
      rw [e2]
      exact q
    · rw [decide_eq_false e]
      refine iteF ?_
      have e2 : r = false := by
        rw [er]
        simp [e]
      rw [e2] at q
      exact q
  · refine ⟨_, .ref CT, _, .ref CT, false, rfl, .own CT, ty, ct.notT mem, ?_⟩
    walk_at "go"
    refine iteF ?_
    rw [er] at q
    exact q

abbrev s_check_targets : Stmt := top 12
abbrev N_check_targets : List Str := ["targets", "ahead", "item", "target"]
theorem sc_check_targets : FnScope N_check_targets ["targets"] (defScope s_check_targets) := ⟨rfl, rfl, rfl, by decide +kernel, rfl, by decide +kernel, by decide +kernel⟩
theorem ok_check_targets {P : Program} {w : World} {K : PySem.W.Frag} {mg : Str → Option Value} {base : Heap} {f CT : Addr} {fd : FuncData} (F : Fun K "check_targets" "check_targets" s_check_targets f fd) (T : Txt K mg CT) (c_is_between : CalO P w K mg base "is_between" 2 (sp_is_between K)) : FnOk P w K mg base CX0 3 f fd ["targets"] (sp_check_targets K) := by
  refine F.ok sc_check_targets sp1_len (fun cd A outer s H vs Q E hr h => ?_)
  obtain ⟨a, rfl, l, ts, rfl, hl, ok, q⟩ := h
  have h1 := ok.one
  have h2 := ok.most
  refine ⟨_, (pss_cons (ps_if (PW.pt (pw_or (pt_not (pt_val (pe_callB (call_isiK (K0 := K)) rfl T.n_isinstance bt_isinstance (pa_cons (pv 0) (pa_cons (pe_bltn (v := .ty "list") rfl T.n_list bt_list rfl) pa_nil))))) (pw_or1 (pt_not (pt_chain op_le op_le pe_int (pe_callB (call_lenK (K0 := K)) rfl T.n_len bt_len (pa_cons (pv 0) pa_nil)) (pe_gc rfl T.m_MOST_BITS)))))) (pss_one ps_never) pss_nil)
    (pss_cons (ps_set (i := 1) sc_check_targets.nd rfl (.inl rfl) pe_dnewK)
    (pss_one (ps_for PassesOwn.never rfl (pi_enum rfl T.n_enumerate (pa_cons (pv 0) pa_nil)) (pg_tup rfl (pgs_cons (pg_name (i := 2) sc_check_targets.nd rfl (.inl rfl)) (pgs_cons (pg_name (i := 3) sc_check_targets.nd rfl (.inl rfl)) pgs_nil)))
    (pss_cons (ps_if (PW.pt (pw_or (pt_not (pt_val (pe_o c_is_between hr (by decide) rfl (pa_cons (pv 3) (pa_cons pe_int (pa_cons (pe_op op_sub (pe_callB (call_lenK (K0 := K)) rfl T.n_len bt_len (pa_cons (pv 0) pa_nil)) pe_int) pa_nil)))))) (pw_or1 (pt_cmp (pc_din (hu_of hr) (pv 3) (pv 1)))))) (pss_one ps_never) pss_nil)
    (pss_one (ps_dput (hu_of hr) (pv 1) (pv 3) pe_bl rfl))))))), ?_⟩
  walk_at "go"
  refine ⟨_, .ty "list", .type "list", .type "list", true, rfl, .ty "list", .base (.lst hl), kit_ty (by decide +kernel), ?_⟩
  walk_at "go"
  refine iteF ?_
  walk_at "go"
  refine ⟨l, nv ts, rfl, .inl (SqL.of hl), ?_⟩
  walk_at "go"
  rw [decide_eq_true (show (1 : Int) ≤ ((nv ts).length : Nat) by rw [nv_len]; omega)]
  refine iteT ?_
  walk_at "go"
  rw [decide_eq_true (show (((nv ts).length : Nat) : Int) ≤ 100 by rw [nv_len]; omega)]
  refine iteF ?_
  walk_at "go"
  intro d hd
  walk_at "go"
  have e0 : Ext H (upd H d (.dK [])) := Ext.new hd
  refine u_enum (SqL.of (e0 _ _ hl)) (fun i σ' H' => ∃ (u v : Option V) (kvs : List (Key × V)), σ' = [some (.ref l), some (.ref d), u, v] ∧ Ext H H' ∧ H' d = some (.dK kvs) ∧ kvs.length = i ∧ ∀ k, k ∈ kvs.map (·.1) → ∃ e t, e < i ∧ ts[e]? = some t ∧ k = Sum.inl (t : Int)) ?_ ?_ ?_ ?_
  · exact ⟨none, none, [], rfl, e0, upd_same, rfl, fun k hk => by cases hk⟩
  · rintro i σ' H' _ ⟨u, v, kvs, rfl, e, _⟩
    exact SqL.of (e _ _ hl)
  · rintro i x σ' H1 H2 hi ⟨u, v, kvs, rfl, e1, hd1, hlen, hk⟩ e2
    obtain ⟨t, ht, rfl⟩ := nv_get hi
    have htl := ok.lt t (List.mem_of_getElem? ht)
    have hit := (List.getElem?_eq_some_iff.mp ht).1
    walk_at "go"
    refine ⟨l, nv ts, rfl, .inl (SqL.of (e2 _ _ (e1 _ _ hl))), ?_⟩
    walk_at "go"
    refine ⟨true, 0, _, rfl, rfl, IsI.int _, (fun z => by cases z), fun _ => ⟨_, rfl, ?_⟩⟩
    walk_at "go"
    rw [decide_eq_true (show (0 : Int) ≤ (t : Int) by omega), decide_eq_true (show (t : Int) ≤ ((nv ts).length : Nat) - 1 by rw [nv_len]; omega)]
    refine iteF ?_
    have hn : valV kvs (Sum.inl (t : Int)) = none := by
      cases z : valV kvs (Sum.inl (t : Int)) with
      | none => rfl
      | some w =>
        obtain ⟨e, t', he, ht', hk'⟩ := hk _ (valV_in z)
        have tt : t' = t := by
          have := Sum.inl.inj hk'
          omega
        subst tt
        have a := ok.idx_get ht
        have b := ok.idx_get ht'
        omega
    walk_at "go"
    refine ⟨d, none, rfl, by rw [← hn]; exact DGet.k (k := Sum.inl (t : Int)) (e2 _ _ hd1), ?_⟩
    walk_at "go"
    refine iteF ?_
    walk_at "go"
    refine ⟨d, _, rfl, DPut.k (k := Sum.inl (t : Int)) (e2 _ _ hd1) (small1000 (by omega)), ?_⟩
    refine ⟨_, _, _, rfl, (e1.trans e2).mut hd, upd_same, ?_, ?_⟩
    · rw [putK_new _ hn, List.length_append, hlen]
      rfl
    · intro k hk'
      rw [putK_new _ hn, List.map_append] at hk'
      rcases List.mem_append.mp hk' with z | z
      · obtain ⟨e, t', he, h3, h4⟩ := hk k z
        exact ⟨e, t', by omega, h3, h4⟩
      · refine ⟨i, t, by omega, ht, ?_⟩
        simpa using z
  · rintro σ' H1 ⟨u, v, kvs, rfl, e1, _⟩
    exact q H1 e1

abbrev s_law_wound : Stmt := top 14
abbrev N_law_wound : List Str := ["script", "k", "cell"]
theorem sc_law_wound : FnScope N_law_wound ["script", "k"] (defScope s_law_wound) := ⟨rfl, rfl, rfl, by decide +kernel, rfl, by decide +kernel, by decide +kernel⟩
theorem ok_law_wound {P : Program} {w : World} {K : PySem.W.Frag} {mg : Str → Option Value} {base : Heap} {f CT : Addr} {fd : FuncData} (F : Fun K "_law_wound" "_law_wound" s_law_wound f fd) (T : Txt K mg CT) : FnG P w K mg base CX0 1 f fd ["script", "k"] (sp_law_wound K) := by
  refine fn_G0 F sc_law_wound sp2_len (fun cd A outer s H vs Q E gd hr h => ?_)
  obtain ⟨a, k, rfl, l, ns, n, rfl, rfl, hl, hn, q⟩ := h
  refine ⟨_, (pss_cons (ps_set (i := 2) sc_law_wound.nd rfl (.inl rfl) pe_int)
    (pss_cut (ps_if (pt_cmpR op_lt (pv 1) (pe_callB (call_lenK (K0 := K)) rfl T.n_len bt_len (pa_cons (pv 0) pa_nil)) (nomark _)) (pss_one (ps_set (i := 2) sc_law_wound.nd rfl (.inl rfl) (pe_ix (ix_listK (K0 := K)) (pv 0) (pv 1) (fun _ _ => rfl)))) pss_nil)
    (pss_one (ps_ret (pe_lst (pa_cons (pe_callB (call_max2 rfl) rfl T.n_max bt_max (pa_cons pe_int (pa_cons (pe_op op_sub (pv 2) (pe_op op_powW pe_int pe_int)) pa_nil))) (pa_cons (pe_op op_add (pe_op op_add (pe_op op_mulX (pe_op op_mod (pe_callTy call_int1 rfl T.n_int bt_int (pa_cons (pv 2) pa_nil)) (pe_op op_add (pe_op op_powW pe_int pe_int) pe_int)) pe_int) (pe_op op_mulX pe_int (pv 1))) pe_int) (pa_cons pe_int pa_nil)))))))), ?_⟩
  walk_at "go"
  refine ⟨fun σ' H' => ∃ c : Int, σ' = [some (.ref l), some (.int (n : Int)), some (.int c)] ∧ H' = H, ?_, ?_⟩
  · walk_at "go"
    refine ⟨l, _, rfl, .inl hl, ?_⟩
    walk_at "go"
    by_cases hk : (n : Int) < ((ns.map V.int).length : Nat)
    · rw [decide_eq_true hk]
      refine iteT ?_
      walk_at "go"
      have hk' : n < (ns.map V.int).length := by omega
      obtain ⟨c, hc⟩ : ∃ c, (ns.map V.int)[n]? = some (V.int c) := by
        rw [List.length_map] at hk'
        exact ⟨ns[n], by rw [List.getElem?_map, List.getElem?_eq_getElem hk']; rfl⟩
      refine g_ixL hl (atI_nat hc) ?_
      walk_at "go"
      exact ⟨c, rfl, rfl⟩
    · rw [decide_eq_false hk]
      refine iteF ?_
      walk_at "go"
      exact ⟨0, rfl, rfl⟩
  · rintro σ' H' ⟨c, rfl, rfl⟩
    walk_at "go"
    have h1 := Int.emod_nonneg c (show (10 : Int) ^ (38 : Int).toNat + 133 ≠ 0 by decide)
    have h2 := Int.emod_lt_of_pos c (show (0 : Int) < 10 ^ (38 : Int).toNat + 133 by decide)
    have e38 : ((10 : Int) ^ (38 : Int).toNat + 133) = 100000000000000000000000000000000000133 := by decide
    have e150 : ((2 : Nat) ^ 150) = 1427247692705959881058285969449495136382746624 := by decide
    have e150' : ((2 : Int) ^ 150) = 1427247692705959881058285969449495136382746624 := by decide
    generalize hm : c % (10 ^ (38 : Int).toNat + 133) = m at h1 h2 ⊢
    refine g_I (cmulx (a := 150) (b := 150) h1 (by omega) (by decide) (by decide) (by decide)) ?_
    walk_at "go"
    refine g_I (cmulx (a := 150) (b := 150) (by decide) (by decide) (by omega) (by omega) (by decide)) ?_
    walk_at "go"
    intro r hr
    refine q r _ (Ext.new hr) hr ⟨(if c - 10 ^ (18 : Int).toNat > 0 then c - 10 ^ (18 : Int).toNat else 0).toNat, (m * 67 + 141650939 * (n : Int) + 23).toNat, 0, ?_, ?_, Nat.le_refl _⟩
    · rw [upd_same, Int.toNat_of_nonneg (by split <;> omega), Int.toNat_of_nonneg (by omega)]
      rfl
    · omega

abbrev s_law_spin : Stmt := top 15
abbrev N_law_spin : List Str := ["reel", "many", "drawn", "mixed"]
theorem sc_law_spin : FnScope N_law_spin ["reel", "many"] (defScope s_law_spin) := ⟨rfl, rfl, rfl, by decide +kernel, rfl, by decide +kernel, by decide +kernel⟩
theorem ok_law_spin {P : Program} {w : World} {K : PySem.W.Frag} {mg : Str → Option Value} {base : Heap} {f CT : Addr} {fd : FuncData} (F : Fun K "_law_spin" "_law_spin" s_law_spin f fd) (T : Txt K mg CT) : FnG P w K mg base CX0 1 f fd ["reel", "many"] (sp_law_spin K) := by
  refine fn_G0 F sc_law_spin sp2_len (fun cd A outer s H vs Q E gd hr h => ?_)
  obtain ⟨a, m, rfl, r, many, n, rfl, rfl, ⟨x, y, z, hr0, hy, hz⟩, h1, h2, h3, q⟩ := h
  refine ⟨_, (pss_cons (ps_if (pt_cmpR op_gt (pe_ix (ix_listK (K0 := K)) (pv 0) pe_int (fun _ _ => rfl)) pe_int (nomark _)) (pss_cons (ps_set (i := 2) sc_law_spin.nd rfl (.inl rfl) (pe_op op_mod (pe_callTy call_int1 rfl T.n_int bt_int (pa_cons (pe_ix (ix_listK (K0 := K)) (pv 0) pe_int (fun _ _ => rfl)) pa_nil)) (pv 1)))
    (pss_cons (ps_asg (pe_op op_fdivW (pe_ix (ix_listK (K0 := K)) (pv 0) pe_int (fun _ _ => rfl)) (pv 1)) (pg_sub (pv 0) pe_int set_list))
    (pss_one (ps_ret (pv 2))))) pss_nil)
    (pss_cons (ps_asg (pe_op op_add (pe_ix (ix_listK (K0 := K)) (pv 0) pe_int (fun _ _ => rfl)) pe_int) (pg_sub (pv 0) pe_int set_list))
    (pss_cons (ps_set (i := 3) sc_law_spin.nd rfl (.inl rfl) (pe_op op_mod (pe_callTy call_int1 rfl T.n_int bt_int (pa_cons (pe_op op_powW (pe_op op_add (pe_ix (ix_listK (K0 := K)) (pv 0) pe_int (fun _ _ => rfl)) (pe_op op_mulX pe_int (pe_ix (ix_listK (K0 := K)) (pv 0) pe_int (fun _ _ => rfl)))) pe_int) pa_nil)) (pe_op op_add (pe_op op_powW pe_int pe_int) pe_int)))
    (pss_cons (ps_set (i := 3) sc_law_spin.nd rfl (.inl rfl) (pe_op op_mod (pe_callTy call_int1 rfl T.n_int bt_int (pa_cons (pe_op op_powW (pe_op op_add (pv 3) (pe_op op_mulX pe_int (pe_ix (ix_listK (K0 := K)) (pv 0) pe_int (fun _ _ => rfl)))) pe_int) pa_nil)) (pe_op op_add (pe_op op_powW pe_int pe_int) pe_int)))
    (pss_one (ps_ret (pe_op op_mod (pe_callTy call_int1 rfl T.n_int bt_int (pa_cons (pe_op op_fdivW (pv 3) pe_int) pa_nil)) (pv 1)))))))), ?_⟩
  walk_at "go"
  refine g_ixL (SqL.of hr0) (i := 0) rfl ?_
  walk_at "go"
  by_cases hx : (0 : Int) < (x : Int)
  · rw [decide_eq_true hx]
    refine iteT ?_
    walk_at "go"
    refine g_ixL (SqL.of hr0) (i := 0) rfl ?_
    walk_at "go"
    refine g_ixL (SqL.of hr0) (i := 0) rfl ?_
    walk_at "go"
    refine g_I (div_ok h2 h3) ?_
    walk_at "go"
    refine g_setL hr0 (j := 0) rfl ?_
    walk_at "go"
    rw [show ((x : Int) % (many : Int)) = ((x % many : Nat) : Int) by simp]
    refine q _ _ (Nat.mod_lt _ h2) Stp.put ⟨x / many, y, z, ?_, hy, by omega⟩
    rw [upd_same]
    simp
  · rw [decide_eq_false hx]
    refine iteF ?_
    walk_at "go"
    refine g_ixL (SqL.of hr0) (i := 2) rfl ?_
    walk_at "go"
    refine g_setL hr0 (j := 2) rfl ?_
    walk_at "go"
    have hr1 : upd H r (.lst ([V.int (x : Int), .int (y : Int), .int (z : Int)].set 2 (.int ((z : Int) + 1)))) r = some (.lst [V.int (x : Int), .int (y : Int), .int ((z + 1 : Nat) : Int)]) := by
      rw [upd_same]
      rfl
    generalize hH : upd H r (.lst ([V.int (x : Int), .int (y : Int), .int (z : Int)].set 2 (.int ((z : Int) + 1)))) = H1 at hr1 ⊢
    have e200 : ((2 : Int) ^ 200) = 1606938044258990275541962092341162602522202993782792835301376 := by decide
    have e150 : ((2 : Nat) ^ 150) = 1427247692705959881058285969449495136382746624 := by decide
    have e100 : ((2 : Int) ^ 100) = 1267650600228229401496703205376 := by decide
    have e40 : ((2 : Nat) ^ 40) = 1099511627776 := by decide
    have e42 : ((10 : Int) ^ (42 : Int).toNat + 63) = 1000000000000000000000000000000000000000063 := by decide
    have e44 : ((10 : Int) ^ (44 : Int).toNat + 57) = 100000000000000000000000000000000000000000057 := by decide
    refine g_ixL (SqL.of hr1) (i := 1) rfl ?_
    walk_at "go"
    refine g_ixL (SqL.of hr1) (i := 2) rfl ?_
    refine g_I (cmulx (a := 100) (b := 100) (by decide) (by decide) (by omega) (by omega) (by decide)) ?_
    walk_at "go"
    refine g_I (cpow3 (by omega) (by omega)) ?_
    walk_at "go"
    have a1 := Int.emod_nonneg (((y : Int) + 86028121 * ((z + 1 : Nat) : Int)) ^ (3 : Int).toNat) (show (10 : Int) ^ (42 : Int).toNat + 63 ≠ 0 by decide)
    have a2 := Int.emod_lt_of_pos (((y : Int) + 86028121 * ((z + 1 : Nat) : Int)) ^ (3 : Int).toNat) (show (0 : Int) < (10 : Int) ^ (42 : Int).toNat + 63 by decide)
    generalize (((y : Int) + 86028121 * ((z + 1 : Nat) : Int)) ^ (3 : Int).toNat) % ((10 : Int) ^ (42 : Int).toNat + 63) = m1 at a1 a2 ⊢
    refine g_ixL (SqL.of hr1) (i := 2) rfl ?_
    refine g_I (cmulx (a := 100) (b := 100) (by decide) (by decide) (by omega) (by omega) (by decide)) ?_
    walk_at "go"
    refine g_I (cpow3 (by omega) (by omega)) ?_
    walk_at "go"
    have b1 := Int.emod_nonneg ((m1 + 67867967 * ((z + 1 : Nat) : Int)) ^ (3 : Int).toNat) (show (10 : Int) ^ (44 : Int).toNat + 57 ≠ 0 by decide)
    generalize ((m1 + 67867967 * ((z + 1 : Nat) : Int)) ^ (3 : Int).toNat) % ((10 : Int) ^ (44 : Int).toNat + 57) = m2 at b1 ⊢
    obtain ⟨d, hd⟩ : ∃ d : Nat, m2 / 655331 % (many : Int) = (d : Int) := ⟨(m2 / 655331 % (many : Int)).toNat, (Int.toNat_of_nonneg (Int.emod_nonneg _ (by omega))).symm⟩
    have hl := Int.emod_lt_of_pos (m2 / 655331) (show (0 : Int) < (many : Int) by omega)
    rw [hd] at hl ⊢
    refine q d H1 (by omega) (by rw [← hH]; exact Stp.put) ⟨x, y, z + 1, hr1, hy, by omega⟩

abbrev s_law_drawn_targets : Stmt := top 16
abbrev N_law_drawn_targets : List Str := ["reel", "bits", "way", "found", "spot", "other", "up", "turn"]
theorem sc_law_drawn_targets : FnScope N_law_drawn_targets ["reel", "bits"] (defScope s_law_drawn_targets) := ⟨rfl, rfl, rfl, by decide +kernel, rfl, by decide +kernel, by decide +kernel⟩
theorem ok_law_drawn_targets {P : Program} {w : World} {K : PySem.W.Frag} {mg : Str → Option Value} {base : Heap} {f CT : Addr} {fd : FuncData} (F : Fun K "_law_drawn_targets" "_law_drawn_targets" s_law_drawn_targets f fd) (T : Txt K mg CT) (c_law_spin : Cal P w K mg base "_law_spin" 1 (sp_law_spin K)) : FnG P w K mg base CX0 2 f fd ["reel", "bits"] (sp_law_drawn_targets K) := by
  refine fn_G0 F sc_law_drawn_targets sp2_len (fun cd A outer s H vs Q E gd hr h => ?_)
  obtain ⟨a, b, rfl, r, bits, n, rfl, rfl, hR, hn, hb1, hb2, q⟩ := h
  have e40 : ((2 : Nat) ^ 40) = 1099511627776 := by decide
  have e39 : ((2 : Nat) ^ 39) = 549755813888 := by decide
  have e1000 : 1000 < 2 ^ 1000 := many_lt
  refine ⟨_, (pss_cons (ps_par (i := 2) (j := 3) rfl sc_law_drawn_targets.nd rfl rfl (by decide) rfl rfl (pa_cons (pe_c c_law_spin gd hr (by decide) rfl (pa_cons (pv 0) (pa_cons pe_int pa_nil))) (pa_cons (pe_listRg rfl rfl T.n_list (prg_1 rfl T.n_range (pv 1))) pa_nil)) rfl)
    (pss_cut (ps_if (pt_cmpR op_lt (pv 2) pe_int (nomark _)) (pss_one (ps_for PassesOwn.never rfl (pi_range1 rfl T.n_range (pa_cons (pv 1) pa_nil)) (pg_name (i := 4) sc_law_drawn_targets.nd rfl (.inl rfl))
    (pss_cons (ps_set (i := 5) sc_law_drawn_targets.nd rfl (.inl rfl) (pe_op op_add (pv 4) (pe_c c_law_spin gd hr (by decide) rfl (pa_cons (pv 0) (pa_cons (pe_op op_sub (pv 1) (pv 4)) pa_nil)))))
    (pss_one (ps_asg (pe_tup (pa_cons (pe_ix (ix_listK (K0 := K)) (pv 3) (pv 5) (fun _ _ => rfl)) (pa_cons (pe_ix (ix_listK (K0 := K)) (pv 3) (pv 4) (fun _ _ => rfl)) pa_nil))) (pg_tup rfl (pgs_cons (pg_sub (pv 3) (pv 4) set_list) (pgs_cons (pg_sub (pv 3) (pv 5) set_list) pgs_nil)))))))) (pss_one (ps_if (pt_cmpR op_eq (pv 2) pe_int (nomark _)) (pss_cons (ps_set (i := 6) sc_law_drawn_targets.nd rfl (.inl rfl) (pe_c c_law_spin gd hr (by decide) rfl (pa_cons (pv 0) (pa_cons (pv 1) pa_nil))))
    (pss_one (ps_set (i := 3) sc_law_drawn_targets.nd rfl (.inl rfl) (pe_op op_cat (pe_slice (sl_listK (K0 := K)) (pv 3) (po_some (pv 6)) po_none) (pe_slice (sl_listK (K0 := K)) (pv 3) po_none (po_some (pv 6))))))) (pss_one (ps_if (pt_cmpR op_eq (pv 2) pe_int (nomark _)) (pss_one (ps_set (i := 3) sc_law_drawn_targets.nd rfl (.inl rfl) (pe_revL (pv 3)))) (pss_one (ps_if (pt_cmpR op_eq (pv 2) pe_int (nomark _)) (pss_one (ps_for PassesOwn.never rfl (pi_range1 rfl T.n_range (pa_cons (pe_op op_add pe_int (pe_c c_law_spin gd hr (by decide) rfl (pa_cons (pv 0) (pa_cons pe_int pa_nil)))) pa_nil)) (pg_name (i := 7) sc_law_drawn_targets.nd rfl (.inl rfl))
    (pss_cons (ps_par (i := 4) (j := 5) rfl sc_law_drawn_targets.nd rfl rfl (by decide) rfl rfl (pa_cons (pe_c c_law_spin gd hr (by decide) rfl (pa_cons (pv 0) (pa_cons (pv 1) pa_nil))) (pa_cons (pe_c c_law_spin gd hr (by decide) rfl (pa_cons (pv 0) (pa_cons (pv 1) pa_nil))) pa_nil)) rfl)
    (pss_one (ps_asg (pe_tup (pa_cons (pe_ix (ix_listK (K0 := K)) (pv 3) (pv 5) (fun _ _ => rfl)) (pa_cons (pe_ix (ix_listK (K0 := K)) (pv 3) (pv 4) (fun _ _ => rfl)) pa_nil))) (pg_tup rfl (pgs_cons (pg_sub (pv 3) (pv 4) set_list) (pgs_cons (pg_sub (pv 3) (pv 5) set_list) pgs_nil)))))))) pss_nil)))))))
    (pss_one (ps_ret (pv 3))))), ?_⟩
  walk_at "go"
  refine ⟨r, 6, n, rfl, rfl, hR, by omega, by decide, by omega, fun way H1 hw s1 R1 => ?_⟩
  walk_at "go"
  refine ⟨rg_ok (by omega), fun l0 hl0 => ?_⟩
  rw [rgV_nv]
  walk_at "go"
  have nl0 : l0 ≠ r := R1.ne hl0
  have R2 : Reel (upd H1 l0 (.lst (nv (List.range bits)))) r (n + 1) := R1.new hl0
  have s2 : Stp r H (upd H1 l0 (.lst (nv (List.range bits)))) := s1.new hl0
  have f0 : H l0 = none := s1.free hl0 nl0
  refine ⟨fun σ' H' => ∃ (l : Addr) (ts : List Nat) (v4 v5 v6 v7 : Option V), σ' = [some (.ref r), some (.int (bits : Int)), some (.int (way : Int)), some (.ref l), v4, v5, v6, v7] ∧ Stp r H H' ∧ Reel H' r (n + 300) ∧ H l = none ∧ H' l = some (.lst (nv ts)) ∧ ts.Perm (List.range bits), ?_, ?_⟩
  · -- one exchange of two items
    have swap : ∀ (Hx : Hp) (ts : List Nat) (i j : Nat), Hx l0 = some (.lst (nv ts)) → ts.Perm (List.range bits) → i < bits → j < bits → ∃ x y, (nv ts)[i]? = some x ∧ (nv ts)[j]? = some y ∧ ∃ ts' : List Nat, ((nv ts).set i y).set j x = nv ts' ∧ ts'.Perm (List.range bits) := by
      intro Hx ts i j hx pm hi hj
      have hlen : ts.length = bits := by rw [pm.length_eq, List.length_range]
      have ei : ts[i]? = some ts[i] := List.getElem?_eq_getElem (by omega)
      have ej : ts[j]? = some ts[j] := List.getElem?_eq_getElem (by omega)
      exact ⟨_, _, nv_at ei, nv_at ej, (ts.set i ts[j]).set j ts[i], by rw [nv_set, nv_set], (swap_perm ei ej).trans pm⟩
    walk_at "go"
    by_cases h1 : (way : Int) < 2
    · refine iteD h1 ?_
      walk_at "go"
      refine u_range (n := bits) (by omega) (fun i σ' H' => ∃ (ts : List Nat) (v4 v5 : Option V), σ' = [some (.ref r), some (.int (bits : Int)), some (.int (way : Int)), some (.ref l0), v4, v5, none, none] ∧ Stp r H H' ∧ Reel H' r (n + 1 + i) ∧ H' l0 = some (.lst (nv ts)) ∧ ts.Perm (List.range bits)) ?_ ?_ ?_
      · exact ⟨List.range bits, none, none, rfl, s2, R2, upd_same, .refl _⟩
      · rintro i σ' Ha hi ⟨ts, v4, v5, rfl, sa, Ra, ha, pm⟩
        walk_at "go"
        refine ⟨r, bits - i, n + 1 + i, rfl, by rw [Int.ofNat_sub (by omega)], Ra, by omega, by omega, by omega, fun d Hb hd sb Rb => ?_⟩
        walk_at "go"
        have hlen : (nv ts).length = bits := by rw [nv_len, pm.length_eq, List.length_range]
        have hb := sb _ _ ha nl0
        obtain ⟨x, y, ex, ey, ts', e', pm'⟩ := swap Hb ts i (i + d) hb pm hi (by omega)
        have cst : ((i : Int) + (d : Int)) = ((i + d : Nat) : Int) := by omega
        rw [cst]
        refine g_ixL (SqL.of hb) (atI_nat ey) ?_
        walk_at "go"
        refine g_ixL (SqL.of hb) (atI_nat ex) ?_
        walk_at "go"
        intro p hp
        have npl : l0 ≠ p := ne_of_none hb hp
        refine g_gtup (SqT.of upd_same) rfl ?_
        walk_at "go"
        refine g_setL (j := i) (by rw [upd_ne npl]; exact hb) (ixN_nat (by omega)) ?_
        walk_at "go"
        refine g_setL (j := i + d) upd_same (ixN_nat (by rw [List.length_set]; omega)) ?_
        walk_at "go"
        refine ⟨ts', _, _, rfl, (((sa.trans sb).new hp).mut f0).mut f0, ((Rb.new hp).mut nl0).mut nl0, ?_, pm'⟩
        rw [upd_same, e']
      · rintro σ' Ha ⟨ts, v4, v5, rfl, sa, Ra, ha, pm⟩
        exact ⟨l0, ts, _, _, _, _, rfl, sa, Ra.mono (by omega), f0, ha, pm⟩
    · refine iteDn h1 ?_
      walk_at "go"
      by_cases h2 : way = 2
      · subst h2
        refine iteD (vint_eq rfl) ?_
        walk_at "go"
        refine ⟨r, bits, n + 1, rfl, rfl, R2, by omega, by omega, by omega, fun up Ha hd sa Ra => ?_⟩
        walk_at "go"
        have ha := sa _ _ upd_same nl0
        refine ⟨l0, _, rfl, SqL.of ha, fun p hp => ?_⟩
        walk_at "go"
        refine ⟨l0, _, rfl, SqL.of (by rw [upd_ne (ne_of_none ha hp)]; exact ha), fun p2 hp2 => ?_⟩
        have hpp : p2 ≠ p := fun z => by
          rw [z, upd_same] at hp2
          cases hp2
        have hp2' : Ha p2 = none := by rw [upd_ne hpp] at hp2; exact hp2
        have c1 : cutV (nv (List.range bits)) (some (up : Int)) none = nv ((List.range bits).drop up) := by
          rw [cut_from _ _ (by rw [nv_len, List.length_range]; omega)]
          unfold nv
          rw [List.map_drop]
        have c2 : cutV (nv (List.range bits)) none (some (up : Int)) = nv ((List.range bits).take up) := by
          rw [cut_to _ _ (by rw [nv_len, List.length_range]; omega)]
          unfold nv
          rw [List.map_take]
        rw [c1, c2]
        refine ⟨p, p2, _, _, rfl, rfl, by rw [upd_ne (Ne.symm hpp)]; exact upd_same, upd_same, ?_, fun p3 hp3 => ?_⟩
        · rw [nv_len, nv_len, List.length_drop, List.length_take, List.length_range]
          exact Nat.le_trans (show _ ≤ 1000 by omega) (by decide)
        walk_at "go"
        have hp2b : upd Ha p (.lst (nv ((List.range bits).drop up))) p2 = none := by rw [upd_ne hpp]; exact hp2'
        have sx : Stp r H (upd (upd Ha p (.lst (nv ((List.range bits).drop up)))) p2 (.lst (nv ((List.range bits).take up)))) := ((s2.trans sa).new hp).new hp2b
        have Rx : Reel (upd (upd Ha p (.lst (nv ((List.range bits).drop up)))) p2 (.lst (nv ((List.range bits).take up)))) r (n + 1 + 1) := (Ra.new hp).new hp2b
        have n3 : p3 ≠ r := Rx.ne hp3
        refine ⟨p3, (List.range bits).drop up ++ (List.range bits).take up, _, _, _, _, rfl, sx.new hp3, (Rx.new hp3).mono (by omega), sx.free hp3 n3, ?_, ?_⟩
        · rw [upd_same, nv_append]
        · exact List.perm_append_comm.trans (by rw [List.take_append_drop])
      · refine iteDn (vint_ne (by omega)) ?_
        walk_at "go"
        by_cases h3 : way = 3
        · subst h3
          refine iteD (vint_eq rfl) ?_
          walk_at "go"
          refine ⟨l0, _, rfl, SqL.of upd_same, fun p hp => ?_⟩
          walk_at "go"
          have n3 : p ≠ r := R2.ne hp
          refine ⟨p, (List.range bits).reverse, _, _, _, _, rfl, s2.new hp, (R2.new hp).mono (by omega), s2.free hp n3, ?_, List.reverse_perm _⟩
          rw [upd_same, nv_rev]
        · refine iteDn (vint_ne (by omega)) ?_
          walk_at "go"
          by_cases h4 : way = 4
          · subst h4
            refine iteD (vint_eq rfl) ?_
            walk_at "go"
            refine ⟨r, 3, n + 1, rfl, rfl, R2, by omega, by decide, by omega, fun many Ha hd sa Ra => ?_⟩
            walk_at "go"
            have cst : ((1 : Int) + (many : Int)) = ((1 + many : Nat) : Int) := by omega
            rw [cst]
            refine u_range (n := 1 + many) (by omega) (fun i σ' H' => ∃ (ts : List Nat) (v4 v5 v7 : Option V), σ' = [some (.ref r), some (.int (bits : Int)), some (.int ((4 : Nat) : Int)), some (.ref l0), v4, v5, none, v7] ∧ Stp r H H' ∧ Reel H' r (n + 2 + 2 * i) ∧ H' l0 = some (.lst (nv ts)) ∧ ts.Perm (List.range bits)) ?_ ?_ ?_
            · exact ⟨List.range bits, none, none, none, rfl, s2.trans sa, Ra, sa _ _ upd_same nl0, .refl _⟩
            · rintro i σ' Hb hi ⟨ts, v4, v5, v7, rfl, sb, Rb, hb, pm⟩
              walk_at "go"
              refine ⟨r, bits, n + 2 + 2 * i, rfl, rfl, Rb, by omega, by omega, by omega, fun spot Hc hd1 sc Rc => ?_⟩
              walk_at "go"
              refine ⟨r, bits, n + 2 + 2 * i + 1, rfl, rfl, Rc, by omega, by omega, by omega, fun other Hd hd2 sd Rd => ?_⟩
              walk_at "go"
              have hlen : (nv ts).length = bits := by rw [nv_len, pm.length_eq, List.length_range]
              have hh := sd _ _ (sc _ _ hb nl0) nl0
              obtain ⟨x, y, ex, ey, ts', e', pm'⟩ := swap Hd ts spot other hh pm hd1 hd2
              refine g_ixL (SqL.of hh) (atI_nat ey) ?_
              walk_at "go"
              refine g_ixL (SqL.of hh) (atI_nat ex) ?_
              walk_at "go"
              intro p hp
              have npl : l0 ≠ p := ne_of_none hh hp
              refine g_gtup (SqT.of upd_same) rfl ?_
              walk_at "go"
              refine g_setL (j := spot) (by rw [upd_ne npl]; exact hh) (ixN_nat (by omega)) ?_
              walk_at "go"
              refine g_setL (j := other) upd_same (ixN_nat (by rw [List.length_set]; omega)) ?_
              walk_at "go"
              refine ⟨ts', _, _, _, rfl, ((((sb.trans sc).trans sd).new hp).mut f0).mut f0, (((Rd.new hp).mut nl0).mut nl0).mono (by omega), ?_, pm'⟩
              rw [upd_same, e']
            · rintro σ' Hb ⟨ts, v4, v5, v7, rfl, sb, Rb, hb, pm⟩
              exact ⟨l0, ts, _, _, _, _, rfl, sb, Rb.mono (by omega), f0, hb, pm⟩
          · refine iteDn (vint_ne (by omega)) ?_
            walk_at "go"
            exact ⟨l0, List.range bits, _, _, _, _, rfl, s2, R2.mono (by omega), f0, upd_same, .refl _⟩
  · rintro σ' H' ⟨l, ts, v4, v5, v6, v7, rfl, sa, Ra, fl, hl, pm⟩
    walk_at "go"
    exact q l ts H' sa Ra fl hl pm

abbrev s_law_drawn_flips : Stmt := top 17
abbrev N_law_drawn_flips : List Str := ["reel", "bits", "some"]
theorem sc_law_drawn_flips : FnScope N_law_drawn_flips ["reel", "bits"] (defScope s_law_drawn_flips) := ⟨rfl, rfl, rfl, by decide +kernel, rfl, by decide +kernel, by decide +kernel⟩
theorem ok_law_drawn_flips {P : Program} {w : World} {K : PySem.W.Frag} {mg : Str → Option Value} {base : Heap} {f CT : Addr} {fd : FuncData} (F : Fun K "_law_drawn_flips" "_law_drawn_flips" s_law_drawn_flips f fd) (T : Txt K mg CT) (c_law_spin : Cal P w K mg base "_law_spin" 1 (sp_law_spin K)) : FnG P w K mg base CX0 2 f fd ["reel", "bits"] (sp_law_drawn_flips K) := by
  refine fn_G0 F sc_law_drawn_flips sp2_len (fun cd A outer s H vs Q E gd hr h => ?_)
  obtain ⟨a, b, rfl, r, bits, n, rfl, rfl, hR, hn, hb1, hb2, q⟩ := h
  have e39 : ((2 : Nat) ^ 39) = 549755813888 := by decide
  have e40 : ((2 : Nat) ^ 40) = 1099511627776 := by decide
  have e1000 : 1000 < 2 ^ 1000 := many_lt
  have hp : 0 < 2 ^ bits := Nat.two_pow_pos bits
  refine ⟨_, (pss_cons (ps_set (i := 2) sc_law_drawn_flips.nd rfl (.inl rfl) (pe_lst (pa_cons pe_int (pa_cons pe_int (pa_cons (pe_c c_law_spin gd hr (by decide) rfl (pa_cons (pv 0) (pa_cons (pe_op op_shlW pe_int (pv 1)) pa_nil))) (pa_cons (pe_op op_sub (pe_op op_shlW pe_int (pv 1)) pe_int) (pa_cons (pe_op op_shlW pe_int (pe_c c_law_spin gd hr (by decide) rfl (pa_cons (pv 0) (pa_cons (pv 1) pa_nil)))) pa_nil)))))))
    (pss_one (ps_ret (pe_op op_xor (pe_ix (ix_listK (K0 := K)) (pv 2) (pe_c c_law_spin gd hr (by decide) rfl (pa_cons (pv 0) (pa_cons pe_int pa_nil))) (fun _ _ => rfl)) (pe_op op_mulX (pe_op op_shlW pe_int (pe_c c_law_spin gd hr (by decide) rfl (pa_cons (pv 0) (pa_cons (pv 1) pa_nil)))) (pe_callTy call_int1 rfl T.n_int bt_int (pa_cons (pe_cmpR op_eq (pe_c c_law_spin gd hr (by decide) rfl (pa_cons (pv 0) (pa_cons pe_int pa_nil))) pe_int (nomark _)) pa_nil))))))), ?_⟩
  walk_at "go"
  refine g_I (cshl_one (by omega)) ?_
  walk_at "go"
  rw [one_shl]
  refine ⟨r, 2 ^ bits, n, rfl, rfl, hR, by omega, hp, places_lt hb2, fun d1 H1 hd1 s1 R1 => ?_⟩
  walk_at "go"
  refine g_I (cshl_one (by omega)) ?_
  walk_at "go"
  refine ⟨r, bits, n + 1, rfl, rfl, R1, by omega, by omega, by omega, fun d2 H2 hd2 s2 R2 => ?_⟩
  refine g_I (cshl_one (by omega)) ?_
  walk_at "go"
  intro p hp
  walk_at "go"
  have R3 := R2.new (o := .lst [.int 0, .int 0, .int (d1 : Int), .int (1 * 2 ^ ((bits : Int)).toNat - 1), .int (1 * 2 ^ ((d2 : Int)).toNat)]) hp
  refine ⟨r, 5, n + 2, rfl, rfl, R3, by omega, by decide, by omega, fun d3 H3 hd3 s3 R4 => ?_⟩
  have npr : p ≠ r := R2.ne hp
  have hl := s3 _ _ upd_same npr
  rw [one_shl, one_shl] at hl
  have e1 : (((2 ^ bits : Nat) : Int) - 1) = ((2 ^ bits - 1 : Nat) : Int) := by omega
  rw [e1] at hl
  obtain ⟨x, hx, hxl⟩ : ∃ x : Nat, ([V.int 0, .int 0, .int (d1 : Int), .int ((2 ^ bits - 1 : Nat) : Int), .int ((2 ^ d2 : Nat) : Int)])[d3]? = some (.int (x : Int)) ∧ x < 2 ^ bits := by
    have : d3 = 0 ∨ d3 = 1 ∨ d3 = 2 ∨ d3 = 3 ∨ d3 = 4 := by omega
    have h2 : 2 ^ d2 < 2 ^ bits := Nat.pow_lt_pow_right (by decide) hd2
    rcases this with rfl | rfl | rfl | rfl | rfl
    · exact ⟨0, rfl, by omega⟩
    · exact ⟨0, rfl, by omega⟩
    · exact ⟨d1, rfl, hd1⟩
    · exact ⟨2 ^ bits - 1, rfl, by omega⟩
    · exact ⟨2 ^ d2, rfl, h2⟩
  refine g_ixL (SqL.of hl) (atI_nat hx) ?_
  walk_at "go"
  refine ⟨r, bits, n + 3, rfl, rfl, R4, by omega, by omega, by omega, fun d4 H4 hd4 s4 R5 => ?_⟩
  refine g_I (cshl_one (by omega)) ?_
  walk_at "go"
  refine ⟨r, 4, n + 4, rfl, rfl, R5, by omega, by decide, by omega, fun d5 H5 hd5 s5 R6 => ?_⟩
  walk_at "go"
  have sx : Stp r H H5 := ((((s1.trans s2).new hp).trans s3).trans s4).trans s5
  have h4 : 2 ^ d4 < 2 ^ bits := Nat.pow_lt_pow_right (by decide) hd4
  rw [one_shl]
  generalize 2 ^ d4 = v at h4 ⊢
  by_cases hz : V.int (d5 : Int) = V.int 0
  · rw [decide_eq_true hz]
    have big : v < 2 ^ 100 := Nat.lt_of_lt_of_le h4 (Nat.pow_le_pow_right (by decide) hb2)
    have e100 : ((2 : Nat) ^ 100) = 1267650600228229401496703205376 := by decide
    have e100' : ((2 : Int) ^ 100) = 1267650600228229401496703205376 := by decide
    refine g_I (cmulx (a := 100) (b := 1) (by omega) (by omega) (by decide) (by decide) (by decide)) ?_
    walk_at "go"
    rw [if_pos rfl, Int.mul_one, bitXor_nat]
    exact q _ H5 sx (R6.mono (by omega)) (Nat.xor_lt_two_pow hxl h4)
  · rw [decide_eq_false hz]
    have big : v < 2 ^ 100 := Nat.lt_of_lt_of_le h4 (Nat.pow_le_pow_right (by decide) hb2)
    have e100 : ((2 : Nat) ^ 100) = 1267650600228229401496703205376 := by decide
    have e100' : ((2 : Int) ^ 100) = 1267650600228229401496703205376 := by decide
    refine g_I (cmulx (a := 100) (b := 1) (by omega) (by omega) (by decide) (by decide) (by decide)) ?_
    walk_at "go"
    rw [if_neg Bool.false_ne_true, Int.mul_zero]
    have e0 : Builtin.bitXor (x : Int) 0 = (x : Int) := by
      show Builtin.bitXor (x : Int) ((0 : Nat) : Int) = _
      rw [bitXor_nat, Nat.xor_zero]
    rw [e0]
    exact q _ H5 sx (R6.mono (by omega)) hxl

abbrev s_law_goes : Stmt := top 18
abbrev N_law_goes : List Str := ["targets", "flips", "place", "found", "bit", "target"]
theorem sc_law_goes : FnScope N_law_goes ["targets", "flips", "place"] (defScope s_law_goes) := ⟨rfl, rfl, rfl, by decide +kernel, rfl, by decide +kernel, by decide +kernel⟩
theorem ok_law_goes {P : Program} {w : World} {K : PySem.W.Frag} {mg : Str → Option Value} {base : Heap} {f CT : Addr} {fd : FuncData} (F : Fun K "_law_goes" "_law_goes" s_law_goes f fd) (T : Txt K mg CT) : FnG P w K mg base CX0 1 f fd ["targets", "flips", "place"] (sp_law_goes K) := by
  refine fn_G0 F sc_law_goes sp3_len (fun cd A outer s H vs Q E gd hr h => ?_)
  obtain ⟨a, b, c, rfl, l, ts, fl, p, rfl, rfl, rfl, hl, ok, q⟩ := h
  have hm := ok.most
  refine ⟨_, (pss_cons (ps_set (i := 3) sc_law_goes.nd rfl (.inl rfl) pe_int)
    (pss_cons (ps_for PassesOwn.never rfl (pi_enum rfl T.n_enumerate (pa_cons (pv 0) pa_nil)) (pg_tup rfl (pgs_cons (pg_name (i := 4) sc_law_goes.nd rfl (.inl rfl)) (pgs_cons (pg_name (i := 5) sc_law_goes.nd rfl (.inl rfl)) pgs_nil)))
    (pss_one (ps_if (pt_cmpR op_ne (pe_op op_and (pe_op op_shr (pv 2) (pv 4)) pe_int) (pe_op op_and (pe_op op_shr (pv 1) (pv 5)) pe_int) (nomark _)) (pss_one (ps_set (i := 3) sc_law_goes.nd rfl (.inl rfl) (pe_op op_add (pv 3) (pe_op op_shlW pe_int (pv 5))))) pss_nil)))
    (pss_one (ps_ret (pv 3))))), ?_⟩
  walk_at "go"
  refine u_enum (SqL.of hl) (fun i σ' H' => ∃ (m : Nat) (u v : Option V), σ' = [some (.ref l), some (.int (fl : Int)), some (.int (p : Int)), some (.int (m : Int)), u, v] ∧ Ext H H' ∧ ∀ j, m.testBit j = byFirst ts (fun e t => p.testBit e != fl.testBit t) i j) ?_ ?_ ?_ ?_
  · exact ⟨0, none, none, rfl, Ext.refl H, fun j => by rw [byFirst_zero, Nat.zero_testBit]⟩
  · rintro i σ' H' _ ⟨m, u, v, rfl, e, _⟩
    exact SqL.of (e _ _ hl)
  · rintro i v σ' H1 H2 hi ⟨m, u, w', rfl, e1, hb⟩ e2
    obtain ⟨t, ht, rfl⟩ := nv_get hi
    have htl := ok.lt t (List.mem_of_getElem? ht)
    have st := add_step ok ht hb
    walk_at "go"
    rw [bit_at, bit_at]
    walk_at "go"
    have e : (!decide (V.int (((p.testBit i).toNat : Nat) : Int) = V.int (((fl.testBit t).toNat : Nat) : Int))) = (p.testBit i != fl.testBit t) := by
      cases p.testBit i <;> cases fl.testBit t <;> rfl
    rw [e]
    cases hg : (p.testBit i != fl.testBit t) with
    | true =>
      refine iteT ?_
      walk_at "go"
      refine g_I (cshl_one (by omega)) ?_
      walk_at "go"
      rw [one_shl]
      refine ⟨m + 2 ^ t, _, _, rfl, e1.trans e2, fun j => ?_⟩
      rw [← st j, hg, if_pos rfl]
    | false =>
      refine iteF ?_
      walk_at "go"
      refine ⟨m, _, _, rfl, e1.trans e2, fun j => ?_⟩
      rw [← st j, hg]
      rfl
  · rintro σ' H1 ⟨m, u, w', rfl, e1, hb⟩
    walk_at "go"
    rw [nv_len] at hb
    rw [go_of_add ok hb]
    exact q H1 e1

abbrev s_law_great : Stmt := top 19
abbrev N_law_great : List Str := ["reel", "bits"]
theorem sc_law_great : FnScope N_law_great ["reel"] (defScope s_law_great) := ⟨rfl, rfl, rfl, by decide +kernel, rfl, by decide +kernel, by decide +kernel⟩
theorem ok_law_great {P : Program} {w : World} {K : PySem.W.Frag} {mg : Str → Option Value} {base : Heap} {f CT : Addr} {fd : FuncData} (F : Fun K "_law_great" "_law_great" s_law_great f fd) (T : Txt K mg CT) (c_law_spin : Cal P w K mg base "_law_spin" 1 (sp_law_spin K)) (c_law_drawn_targets : Cal P w K mg base "_law_drawn_targets" 2 (sp_law_drawn_targets K)) (c_law_drawn_flips : Cal P w K mg base "_law_drawn_flips" 2 (sp_law_drawn_flips K)) : FnG P w K mg base CX0 3 f fd ["reel"] (sp_law_great K) := by
  refine fn_G0 F sc_law_great sp1_len (fun cd A outer s H vs Q E gd hr h => ?_)
  obtain ⟨a, rfl, r, n, rfl, hR, hn, q⟩ := h
  have e38 : ((2 : Nat) ^ 38) = 274877906944 := by decide
  have e39 : ((2 : Nat) ^ 39) = 549755813888 := by decide
  have e40 : ((2 : Nat) ^ 40) = 1099511627776 := by decide
  have e1000 : 1000 < 2 ^ 1000 := many_lt
  refine ⟨_, (pss_cons (ps_set (i := 1) sc_law_great.nd rfl (.inl rfl) (pe_op op_add pe_int (pe_c c_law_spin gd hr (by decide) rfl (pa_cons (pv 0) (pa_cons (pe_ix (ix_listK (K0 := K)) (pe_lst (pa_cons pe_int (pa_cons pe_int pa_nil))) (pe_c c_law_spin gd hr (by decide) rfl (pa_cons (pv 0) (pa_cons pe_int pa_nil))) (fun _ _ => rfl)) pa_nil)))))
    (pss_one (ps_ret (pe_tup (pa_cons (pe_c c_law_drawn_targets gd hr (by decide) rfl (pa_cons (pv 0) (pa_cons (pv 1) pa_nil))) (pa_cons (pe_c c_law_drawn_flips gd hr (by decide) rfl (pa_cons (pv 0) (pa_cons (pv 1) pa_nil))) pa_nil)))))), ?_⟩
  walk_at "go"
  intro p0 hp0
  walk_at "go"
  have np0 : p0 ≠ r := hR.ne hp0
  refine ⟨r, 2, n, rfl, rfl, hR.new hp0, by omega, by decide, by omega, fun d1 H1 hd1 s1 R1 => ?_⟩
  have hl := s1 _ _ upd_same np0
  obtain ⟨m, hm, hm1, hm2⟩ : ∃ m : Nat, ([V.int 8, .int 100])[d1]? = some (.int (m : Int)) ∧ 1 ≤ m ∧ m ≤ 100 := by
    have : d1 = 0 ∨ d1 = 1 := by omega
    rcases this with rfl | rfl
    · exact ⟨8, rfl, by decide, by decide⟩
    · exact ⟨100, rfl, by decide, by decide⟩
  refine g_ixL (SqL.of hl) (atI_nat hm) ?_
  walk_at "go"
  refine ⟨r, m, n + 1, rfl, rfl, R1, by omega, by omega, by omega, fun d2 H2 hd2 s2 R2 => ?_⟩
  walk_at "go"
  have cst : ((1 : Int) + (d2 : Int)) = ((1 + d2 : Nat) : Int) := by omega
  rw [cst]
  refine ⟨r, 1 + d2, n + 2, rfl, rfl, R2, by omega, by omega, by omega, fun l ts H3 s3 R3 fl3 hl3 pm => ?_⟩
  walk_at "go"
  have nl : l ≠ r := R2.ne fl3
  refine ⟨r, 1 + d2, n + 302, rfl, rfl, R3, by omega, by omega, by omega, fun fl H4 s4 R4 hfl => ?_⟩
  walk_at "go"
  intro p hp
  obtain ⟨ok, len⟩ := Ts.of_perm pm (by omega) (by omega)
  have h4 := s4 _ _ hl3 nl
  have npl : l ≠ p := ne_of_none h4 hp
  have npr : p ≠ r := R4.ne hp
  have s02 : Stp r H H2 := ((Stp.refl r H).new hp0 |>.trans s1).trans s2
  have s04 : Stp r H H4 := (s02.trans s3).trans s4
  refine q p l ts fl _ (s04.new hp) ((R4.new hp).mono (by omega)) (s02.free fl3 nl) (by rw [upd_ne npl]; exact h4) (s04.free hp npr) upd_same ok (by rw [len]; exact hfl)

abbrev s_law_kept : Stmt := top 20
abbrev N_law_kept : List Str := ["targets", "flips", "given", "one", "told", "alike", "odd"]
theorem sc_law_kept : FnScope N_law_kept ["targets", "flips"] (defScope s_law_kept) := ⟨rfl, rfl, rfl, by decide +kernel, rfl, by decide +kernel, by decide +kernel⟩
abbrev sp_law_kept (K : PySem.W.Frag) (CT : Addr) : Sp := sp2 fun a b H Q => ∃ (l : Addr) (ts : List Nat) (fl : Nat), a = .ref l ∧ b = .int (fl : Int) ∧ H l = some (.lst (nv ts)) ∧ Ts ts ∧ fl < 2 ^ ts.length ∧
  ∀ (x l' : Addr) (H' : Hp), Ext H H' → H x = none → H l' = none → TurnAt CT H' x l' ts fl → Q (.ref x) H'
theorem ok_law_kept {P : Program} {w : World} {K : PySem.W.Frag} {mg : Str → Option Value} {base : Heap} {f CT : Addr} {fd : FuncData} (F : Fun K "_law_kept" "_law_kept" s_law_kept f fd) (T : Txt K mg CT) (tc : TurnT P w K mg base CT) : FnG P w K mg base CX0 8 f fd ["targets", "flips"] (sp_law_kept K CT) := by
  refine fn_G0 F sc_law_kept sp2_len (fun cd A outer s H vs Q E gd hr h => ?_)
  obtain ⟨a, b, rfl, l, ts, fl, rfl, rfl, hl, ok, hf, q⟩ := h
  have hm := ok.most
  have hs : sizeLine = 16777216 := by decide
  have sm := ok.small
  have sf := ok.fl_small hf
  have sl : ts.length < 2 ^ 1900 := Nat.lt_of_le_of_lt hm (Nat.lt_of_lt_of_le (by decide : 100 < 2 ^ 7) (Nat.pow_le_pow_right (by decide) (by decide)))
  refine ⟨_, (pss_cons (ps_set (i := 2) sc_law_kept.nd rfl (.inl rfl) (pe_callTy (call_listK (K0 := K)) rfl T.n_list bt_list (pa_cons (pv 0) pa_nil)))
    (pss_cons (ps_set (i := 3) sc_law_kept.nd rfl (.inr rfl) (pe_Turn tc hr (by decide) rfl (pa_cons (pv 2) (pa_cons (pv 1) pa_nil))))
    (pss_cons (ps_expr (pe_bm PySem.F.plainAttrs_list PySem.F.slot_list_append PySem.F.type_list_append mt_append (pv 2) (pa_cons pe_int pa_nil)))
    (pss_cons (ps_set (i := 4) sc_law_kept.nd rfl (.inl rfl) (pe_Turn_targets tc hr (by decide) (pv 3) rfl))
    (pss_cons (ps_expr (pe_bm PySem.F.plainAttrs_list PySem.F.slot_list_append PySem.F.type_list_append mt_append (pv 4) (pa_cons pe_non pa_nil)))
    (pss_cons (ps_if (pt_cmpR op_ne (pe_callB (CallR.or SkE.call_repr_int (call_reprK (K0 := K) gd hr)) rfl T.n_repr bt_repr (pa_cons (pe_lst (pa_cons (pe_Turn_bits tc hr (by decide) (pv 3) rfl) (pa_cons (pe_Turn_targets tc hr (by decide) (pv 3) rfl) (pa_cons (pe_Turn_flips tc hr (by decide) (pv 3) rfl) pa_nil)))) pa_nil)) (pe_callB (CallR.or SkE.call_repr_int (call_reprK (K0 := K) gd hr)) rfl T.n_repr bt_repr (pa_cons (pe_lst (pa_cons (pe_callB (call_lenK (K0 := K)) rfl T.n_len bt_len (pa_cons (pv 0) pa_nil)) (pa_cons (pv 0) (pa_cons (pv 1) pa_nil)))) pa_nil)) (nomark _)) (pss_one (ps_ret pe_non)) pss_nil)
    (pss_cons (ps_setLc (i := 5) (own := [("odd", 6)]) (g := gName 6) rfl sc_law_kept.nd rfl rfl (sw_true rfl rfl rfl (by decide +kernel)) (pi_tup (pe_tup (pa_cons pe_non (pa_cons pe_int (pa_cons (pv 0) (pa_cons (pe_tup (pa_cons (pv 0) (pa_cons (pv 1) pa_nil))) (pa_cons pe_str pa_nil))))))) (blkOk_by (own := [("odd", 6)]) (N := N_law_kept) (sc := defScope s_law_kept) (by decide +kernel)) (fun _ _ _ _ _ => (pg_name (i := 6) sc_law_kept.nd rfl (.inl rfl))) (fun _ _ _ _ _ => pts_one (pt_cmpR (op_Turn_eq (K0 := K) (j := 7) tc hr (by decide)) (pv 3) (pv 6) (nomark _))) (fun _ _ _ _ _ => (pv 6)))
    (pss_one (ps_ret (pe_ifExp (PW.pt (pw_and (pt_cmpR (op_Turn_eq (K0 := K) (j := 7) tc hr (by decide)) (pv 3) (pe_Turn tc hr (by decide) rfl (pa_cons (pv 0) (pa_cons (pv 1) pa_nil))) (nomark _)) (pw_and1 (pt_cmpR (op_eqDK (K0 := K) hr) (pv 5) (pe_lst pa_nil) (nomark _))))) (pv 3) pe_non)))))))))), ?_⟩
  walk_at "go"
  refine g_listK (SqL.of hl) fun p1 hp1 => ?_
  walk_at "go"
  refine ⟨p1, ts, fl, rfl, rfl, upd_same, ok, hf, fun x l2 H1 e1 hx hl2 at1 => ?_⟩
  have E1 : Ext H H1 := (Ext.new hp1).trans e1
  have h1 : H1 p1 = some (.lst (nv ts)) := e1 _ _ upd_same
  have nx1 : x ≠ p1 := fun z => by rw [z, upd_same] at hx; cases hx
  have nl1 : l2 ≠ p1 := fun z => by rw [z, upd_same] at hl2; cases hl2
  have hx0 : H x = none := (Ext.new hp1).free hx
  have hl0 : H l2 = none := (Ext.new hp1).free hl2
  walk_at "go"
  refine g_appC h1 (by rw [nv_len]; omega) ?_
  have E2 := E1.mut (o := .lst (nv ts ++ [V.int 0])) hp1
  have at2 := at1.put (o := .lst (nv ts ++ [V.int 0])) nx1 nl1
  revert E2 at2
  generalize upd H1 p1 (.lst (nv ts ++ [V.int 0])) = H2
  intro E2 at2
  walk_at "go"
  refine g_targets at2 fun p2 hp2 => ?_
  walk_at "go"
  refine g_appC upd_same (by rw [nv_len]; omega) ?_
  have E3 := E2.put2 (o := .lst (nv ts)) (o' := .lst (nv ts ++ [V.non])) hp2
  have at3 := at2.put2 (o := .lst (nv ts)) (o' := .lst (nv ts ++ [V.non])) hp2
  revert E3 at3
  generalize upd (upd H2 p2 (.lst (nv ts))) p2 (.lst (nv ts ++ [V.non])) = H3
  intro E3 at3
  walk_at "go"
  refine g_bits at3 ?_
  walk_at "go"
  refine g_targets at3 fun p4 hp4 => ?_
  walk_at "go"
  have at4 := at3.new (o := .lst (nv ts)) hp4
  have E4 := E3.new' (o := .lst (nv ts)) hp4
  refine g_flips at4 ?_
  walk_at "go"
  intro p5 hp5
  walk_at "go"
  have n45 : p4 ≠ p5 := fun z => by rw [← z, upd_same] at hp5; cases hp5
  refine .inr (repr_d3 upd_same (by rw [upd_ne n45, upd_same]) sm (by omega) sl sf ?_)
  have at5 := at4.new (o := .lst [.int (ts.length : Int), .ref p4, .int (fl : Int)]) hp5
  have E5 := E4.new' (o := .lst [.int (ts.length : Int), .ref p4, .int (fl : Int)]) hp5
  revert at5 E5
  generalize upd (upd H3 p4 _) p5 _ = H5
  intro at5 E5
  walk_at "go"
  refine g_lenK (SqL.of (E5.keep hl)) ?_
  rw [nv_len]
  walk_at "go"
  intro p6 hp6
  walk_at "go"
  have n6 : l ≠ p6 := ne_of_none (E5.keep hl) hp6
  refine .inr (repr_d3 upd_same (by rw [upd_ne n6]; exact E5.keep hl) sm (by omega) sl sf ?_)
  have at6 := at5.new (o := .lst [.int (ts.length : Int), .ref l, .int (fl : Int)]) hp6
  have E6 := E5.new' (o := .lst [.int (ts.length : Int), .ref l, .int (fl : Int)]) hp6
  revert at6 E6
  generalize upd H5 p6 _ = H6
  intro at6 E6
  walk_at "go"
  refine iteNn rfl ?_
  walk_at "go"
  intro p7 hp7
  walk_at "go"
  intro p8 hp8
  have n78 : p7 ≠ p8 := fun z => by rw [← z, upd_same] at hp8; cases hp8
  have at8 := (at6.new (o := .tup [.ref l, .int (fl : Int)]) hp7).new (o := .tup [V.non, .int 0, .ref l, .ref p7, .str ""]) hp8
  have E8 := (E6.new' (o := .tup [.ref l, .int (fl : Int)]) hp7).new' (o := .tup [V.non, .int 0, .ref l, .ref p7, .str ""]) hp8
  have o7 : upd (upd H6 p7 (.tup [.ref l, .int (fl : Int)])) p8 (.tup [V.non, .int 0, .ref l, .ref p7, .str ""]) p7 = some (.tup [.ref l, .int (fl : Int)]) := by rw [upd_ne n78, upd_same]
  have o8 : upd (upd H6 p7 (.tup [.ref l, .int (fl : Int)])) p8 (.tup [V.non, .int 0, .ref l, .ref p7, .str ""]) p8 = some (.tup [V.non, .int 0, .ref l, .ref p7, .str ""]) := upd_same
  revert at8 E8 o7 o8
  generalize upd (upd H6 p7 (.tup [.ref l, .int (fl : Int)])) p8 (.tup [V.non, .int 0, .ref l, .ref p7, .str ""]) = H8
  intro at8 E8 o7 o8
  refine u_lctIf (SqT.of o8) (fun D i H' => H' = upd H8 D (.lst [])) (fun D hD => rfl) (fun D i H' hD hi e => ?_) (fun D i y H' hD hi e => ?_) (fun D H' hD e => ?_)
  · subst e
    exact SqT.of (by rw [upd_ne (ne_of_none o8 hD)]; exact o8)
  · subst e
    have oth : Other K (upd H8 D (.lst [])) y := len5 Other.non Other.int (Other.lst (by rw [upd_ne (ne_of_none (E8.keep hl) hD)]; exact E8.keep hl)) (Other.tup (by rw [upd_ne (ne_of_none o7 hD)]; exact o7)) Other.str hi
    walk_at "go"
    refine ⟨x, l2, ts, fl, false, rfl, at8.new hD, .other oth, ?_⟩
    walk_at "go"
    exact iteF rfl
  subst e
  have at9 := at8.new (o := .lst []) hD
  have E9 := E8.new' (o := .lst []) hD
  have o9 : upd H8 D (.lst []) D = some (.lst []) := upd_same
  revert at9 E9 o9
  generalize upd H8 D (.lst []) = H9
  intro at9 E9 o9
  walk_at "go"
  refine ⟨l, ts, fl, rfl, rfl, E9.keep hl, ok, hf, fun y l3 H10 e10 _ _ aty => ?_⟩
  refine ⟨x, l2, ts, fl, _, rfl, at9.ext e10, .turn aty, ?_⟩
  walk_at "go"
  refine iteD ⟨rfl, rfl⟩ ?_
  walk_at "go"
  intro p9 hp9
  have n9 : D ≠ p9 := ne_of_none (e10.keep o9) hp9
  refine ⟨.list [], .list [], dp_nilL (by rw [upd_ne n9]; exact e10.keep o9), dp_nilL upd_same, rfl, rfl, ?_⟩
  walk_at "go"
  refine iteT ?_
  walk_at "go"
  exact q x l2 _ ((E9.trans e10).new' hp9) hx0 hl0 ((at9.ext e10).new hp9)

abbrev s_law_small_right : Stmt := top 21
abbrev N_law_small_right : List Str := ["reel", "bits", "targets", "flips", "one", "other", "told", "due", "place"]
theorem sc_law_small_right : FnScope N_law_small_right ["reel"] (defScope s_law_small_right) := ⟨rfl, rfl, rfl, by decide +kernel, rfl, by decide +kernel, by decide +kernel⟩
abbrev sp_law_small_right (K : PySem.W.Frag) : Sp := sp1 fun a H Q => ∃ (r : Addr) (n : Nat), a = .ref r ∧ Reel H r n ∧ n < 2 ^ 38 ∧ ∀ (H' : Hp), Stp r H H' → Reel H' r (n + 2000) → Q (.bl true) H'
theorem ok_law_small_right {P : Program} {w : World} {K : PySem.W.Frag} {mg : Str → Option Value} {base : Heap} {f CT : Addr} {fd : FuncData} (F : Fun K "_law_small_right" "_law_small_right" s_law_small_right f fd) (T : Txt K mg CT) (c_law_spin : Cal P w K mg base "_law_spin" 1 (sp_law_spin K)) (c_law_drawn_targets : Cal P w K mg base "_law_drawn_targets" 2 (sp_law_drawn_targets K)) (c_law_drawn_flips : Cal P w K mg base "_law_drawn_flips" 2 (sp_law_drawn_flips K)) (c_law_goes : Cal P w K mg base "_law_goes" 1 (sp_law_goes K)) (c_law_kept : Cal P w K mg base "_law_kept" 8 (sp_law_kept K CT)) (tc : TurnT P w K mg base CT) : FnG P w K mg base CX0 9 f fd ["reel"] (sp_law_small_right K) := by
  refine fn_G0 F sc_law_small_right sp1_len (fun cd A outer s H vs Q E gd hr h => ?_)
  obtain ⟨a, rfl, r, n, rfl, hR, hn, q⟩ := h
  have e38 : ((2 : Nat) ^ 38) = 274877906944 := by decide
  have e39 : ((2 : Nat) ^ 39) = 549755813888 := by decide
  have e40 : ((2 : Nat) ^ 40) = 1099511627776 := by decide
  have e1000 : 1000 < 2 ^ 1000 := many_lt
  refine ⟨_, (pss_cons (ps_set (i := 1) sc_law_small_right.nd rfl (.inl rfl) (pe_op op_add pe_int (pe_c c_law_spin gd hr (by decide) rfl (pa_cons (pv 0) (pa_cons pe_int pa_nil)))))
    (pss_cons (ps_asg (pe_tup (pa_cons (pe_c c_law_drawn_targets gd hr (by decide) rfl (pa_cons (pv 0) (pa_cons (pv 1) pa_nil))) (pa_cons (pe_c c_law_drawn_flips gd hr (by decide) rfl (pa_cons (pv 0) (pa_cons (pv 1) pa_nil))) pa_nil))) (pg_tup rfl (pgs_cons (pg_name (i := 2) sc_law_small_right.nd rfl (.inr rfl)) (pgs_cons (pg_name (i := 3) sc_law_small_right.nd rfl (.inr rfl)) pgs_nil))))
    (pss_cons (ps_asg (pe_tup (pa_cons (pe_c c_law_kept gd hr (by decide) rfl (pa_cons (pv 2) (pa_cons (pv 3) pa_nil))) (pa_cons (pe_tup (pa_cons (pe_c c_law_drawn_targets gd hr (by decide) rfl (pa_cons (pv 0) (pa_cons (pv 1) pa_nil))) (pa_cons (pe_c c_law_drawn_flips gd hr (by decide) rfl (pa_cons (pv 0) (pa_cons (pv 1) pa_nil))) pa_nil))) pa_nil))) (pg_tup rfl (pgs_cons (pg_name (i := 4) sc_law_small_right.nd rfl (.inr rfl)) (pgs_cons (pg_name (i := 5) sc_law_small_right.nd rfl (.inl rfl)) pgs_nil))))
    (pss_cons (ps_if (PW.pt (pw_or (pt_cmpR op_isN (pv 4) pe_non (nomark _)) (pw_or1 (pt_cmpR op_ne (pe_cmpR (op_Turn_eq (K0 := K) (j := 8) tc hr (by decide)) (pv 4) (pe_Turn tc hr (by decide) rfl (pa_cons (pe_ix (ix_tupK (K0 := K)) (pv 5) pe_int (fun _ _ => rfl)) (pa_cons (pe_ix (ix_tupK (K0 := K)) (pv 5) pe_int (fun _ _ => rfl)) pa_nil))) (nomark _)) (pe_cmpR (op_eqDK (K0 := K) hr) (pe_tup (pa_cons (pv 2) (pa_cons (pv 3) pa_nil))) (pv 5) (nomark _)) (nomark _))))) (pss_one (ps_ret pe_bl)) pss_nil)
    (pss_cons (ps_setLc (i := 6) (own := [("place", 8)]) (g := gName 8) (tt := tYes) rfl sc_law_small_right.nd rfl rfl (sw_true rfl rfl rfl (by decide +kernel)) (pi_range1 rfl T.n_range (pa_cons (pe_op op_shlW pe_int (pv 1)) pa_nil)) (blkOk_by (own := [("place", 8)]) (N := N_law_small_right) (sc := defScope s_law_small_right) (by decide +kernel)) (fun _ _ _ _ _ => (pg_name (i := 8) sc_law_small_right.nd rfl (.inl rfl))) (fun _ _ _ _ _ => pts_nil) (fun _ _ _ _ _ => (pe_Turn_goes_to tc hr (by decide) (pv 4) (pa_cons (pv 8) pa_nil))))
    (pss_cons (ps_setLc (i := 7) (own := [("place", 8)]) (g := gName 8) (tt := tYes) rfl sc_law_small_right.nd rfl rfl (sw_true rfl rfl rfl (by decide +kernel)) (pi_range1 rfl T.n_range (pa_cons (pe_op op_shlW pe_int (pv 1)) pa_nil)) (blkOk_by (own := [("place", 8)]) (N := N_law_small_right) (sc := defScope s_law_small_right) (by decide +kernel)) (fun _ _ _ _ _ => (pg_name (i := 8) sc_law_small_right.nd rfl (.inl rfl))) (fun _ _ _ _ _ => pts_nil) (fun _ _ _ _ _ => (pe_c c_law_goes gd hr (by decide) rfl (pa_cons (pv 2) (pa_cons (pv 3) (pa_cons (pv 8) pa_nil))))))
    (pss_one (ps_ret (pe_and (pe_cmpR op_eq (pe_callB (CallR.or SkE.call_repr_int (call_reprK (K0 := K) gd hr)) rfl T.n_repr bt_repr (pa_cons (pv 6) pa_nil)) (pe_callB (CallR.or SkE.call_repr_int (call_reprK (K0 := K) gd hr)) rfl T.n_repr bt_repr (pa_cons (pv 7) pa_nil)) (nomark _)) (pe_one (pe_cmpR (op_eqDK (K0 := K) hr) (pe_callB (cr_sortedK (K0 := K)) rfl T.n_sorted bt_sorted (pa_cons (pv 6) pa_nil)) (pe_listRg rfl rfl T.n_list (prg_1 rfl T.n_range (pe_op op_shlW pe_int (pv 1)))) (nomark _)))))))))))), ?_⟩
  walk_at "go"
  refine ⟨r, 5, n, rfl, rfl, hR, by omega, by decide, by omega, fun d1 H1 hd1 s1 R1 => ?_⟩
  walk_at "go"
  have cst : ((1 : Int) + (d1 : Int)) = ((1 + d1 : Nat) : Int) := by omega
  rw [cst]
  have hb5 : 1 + d1 ≤ 5 := by omega
  have hb1 : 1 ≤ 1 + d1 := by omega
  revert hb5 hb1
  generalize 1 + d1 = bits
  intro hb5 hb1
  walk_at "go"
  refine ⟨r, bits, n + 1, rfl, rfl, R1, by omega, hb1, by omega, fun l ts H2 s2 R2 fl2 hl2 pm => ?_⟩
  have lr : l ≠ r := R1.ne fl2
  walk_at "go"
  refine ⟨r, bits, n + 301, rfl, rfl, R2, by omega, hb1, by omega, fun fl H3 s3 R3 hfl => ?_⟩
  have hl3 := s3 _ _ hl2 lr
  obtain ⟨ok, len⟩ := Ts.of_perm pm hb1 (by omega)
  rw [← len] at hfl
  walk_at "go"
  intro p1 hp1
  have S3 : Stp r H H3 := (s1.trans s2).trans s3
  refine g_gtup (SqT.of upd_same) rfl ?_
  walk_at "go"
  have S4 := S3.new (o := .tup [.ref l, .int (fl : Int)]) hp1
  have R4 := R3.new (o := .tup [.ref l, .int (fl : Int)]) hp1
  have hl4 : upd H3 p1 (.tup [.ref l, .int (fl : Int)]) l = some (.lst (nv ts)) := by rw [upd_ne (ne_of_none hl3 hp1)]; exact hl3
  revert S4 R4 hl4
  generalize upd H3 p1 (.tup [.ref l, .int (fl : Int)]) = H4
  intro S4 R4 hl4
  refine ⟨l, ts, fl, rfl, rfl, hl4, ok, hfl, fun x l2 H5 e5 hx hl2' at5 => ?_⟩
  have xr : x ≠ r := R4.ne hx
  have l2r : l2 ≠ r := R4.ne hl2'
  have R5 := R4.ext e5
  have S5 := S4.ext e5
  have hl5 := e5.keep hl4
  walk_at "go"
  refine ⟨r, bits, n + 601, rfl, rfl, R5, by omega, hb1, by omega, fun m us H6 s6 R6 fl6 hm6 pm6 => ?_⟩
  have mr : m ≠ r := R5.ne fl6
  walk_at "go"
  refine ⟨r, bits, n + 901, rfl, rfl, R6, by omega, hb1, by omega, fun gl H7 s7 R7 hgl => ?_⟩
  obtain ⟨oku, lenu⟩ := Ts.of_perm pm6 hb1 (by omega)
  rw [← lenu] at hgl
  have hm7 := s7 _ _ hm6 mr
  have S7 := (S5.trans s6).trans s7
  have hl7 := s7 _ _ (s6 _ _ hl5 lr) lr
  obtain ⟨xs5, hxs5⟩ := R5.at
  have at7 := at5.stp (s6.trans s7) hxs5 l2r
  walk_at "go"
  intro p2 hp2
  walk_at "go"
  intro p3 hp3
  refine g_gtup (SqT.of upd_same) rfl ?_
  walk_at "go"
  have n23 : p2 ≠ p3 := fun z => by rw [← z, upd_same] at hp3; cases hp3
  have S9 := (S7.new (o := .tup [.ref m, .int (gl : Int)]) hp2).new (o := .tup [.ref x, .ref p2]) hp3
  have R9 := (R7.new (o := .tup [.ref m, .int (gl : Int)]) hp2).new (o := .tup [.ref x, .ref p2]) hp3
  have at9 := (at7.new (o := .tup [.ref m, .int (gl : Int)]) hp2).new (o := .tup [.ref x, .ref p2]) hp3
  have e9 : Ext H7 (upd (upd H7 p2 (.tup [.ref m, .int (gl : Int)])) p3 (.tup [.ref x, .ref p2])) := (Ext.new hp2).new' hp3
  have op2 : upd (upd H7 p2 (.tup [.ref m, .int (gl : Int)])) p3 (.tup [.ref x, .ref p2]) p2 = some (.tup [.ref m, .int (gl : Int)]) := by rw [upd_ne n23, upd_same]
  revert S9 R9 at9 e9 op2
  generalize upd (upd H7 p2 (.tup [.ref m, .int (gl : Int)])) p3 (.tup [.ref x, .ref p2]) = H9
  intro S9 R9 at9 e9 op2
  have hm9 := e9.keep hm7
  have hl9 := e9.keep hl7
  walk_at "go"
  refine iteDn (by intro z; cases z) ?_
  walk_at "go"
  refine g_ixT (SqT.of op2) rfl ?_
  walk_at "go"
  refine g_ixT (SqT.of op2) rfl ?_
  walk_at "go"
  refine ⟨m, us, gl, rfl, rfl, hm9, oku, hgl, fun y l3 H10 e10 _ _ aty => ?_⟩
  refine ⟨x, l2, ts, fl, _, rfl, at9.ext e10, .turn aty, ?_⟩
  walk_at "go"
  have S10 := S9.ext e10
  have R10 := R9.ext e10
  have at10 := at9.ext e10
  have hl10 := e10.keep hl9
  have hm10 := e10.keep hm9
  have op10 := e10.keep op2
  intro p4 hp4
  walk_at "go"
  refine ⟨_, _, dp_pair upd_same (by rw [upd_ne (ne_of_none hl10 hp4)]; exact hl10), dp_pair (by rw [upd_ne (ne_of_none op10 hp4)]; exact op10) (by rw [upd_ne (ne_of_none hm10 hp4)]; exact hm10), pair_shaped _ _, pair_shaped _ _, ?_⟩
  rw [pair_eq]
  have S11 := S10.new (o := .tup [.ref l, .int (fl : Int)]) hp4
  have R11 := R10.new (o := .tup [.ref l, .int (fl : Int)]) hp4
  have at11 := at10.new (o := .tup [.ref l, .int (fl : Int)]) hp4
  have hl11 : upd H10 p4 (.tup [.ref l, .int (fl : Int)]) l = some (.lst (nv ts)) := by rw [upd_ne (ne_of_none hl10 hp4)]; exact hl10
  revert S11 R11 at11 hl11
  generalize upd H10 p4 (.tup [.ref l, .int (fl : Int)]) = H11
  intro S11 R11 at11 hl11
  walk_at "go"
  refine iteNn rfl ?_
  walk_at "go"
  have h32 : 2 ^ bits ≤ 32 := Nat.le_trans (Nat.pow_le_pow_right (by decide) hb5) (by decide)
  refine g_I (cshl_one (by omega)) ?_
  walk_at "go"
  rw [one_shl]
  refine u_lcr (n := 2 ^ bits) (by omega) (fun D i H' => Ext H11 H' ∧ H' D = some (.lst (nv ((List.range i).map (go ts fl))))) (fun D hD => ⟨Ext.new hD, upd_same⟩) (fun D i H' hD hi h => ?_) (fun D H' hD h => ?_)
  · walk_at "go"
    refine ⟨_, rfl, ⟨x, l2, ts, fl, rfl, at11.ext h.1⟩, ?_⟩
    walk_at "go"
    refine ⟨_, rfl, x, l2, ts, fl, i, rfl, rfl, at11.ext h.1, by rw [len]; exact hi, fun H'' e'' => ?_⟩
    exact grown h.1 e'' hD h.2 (by omega)
  obtain ⟨e12, h12⟩ := h
  walk_at "go"
  have S12 := S11.ext e12
  have R12 := R11.ext e12
  have hl12 := e12.keep hl11
  refine g_I (cshl_one (by omega)) ?_
  walk_at "go"
  rw [one_shl]
  refine u_lcr (n := 2 ^ bits) (by omega) (fun D2 i H2 => Ext H' H2 ∧ H2 D2 = some (.lst (nv ((List.range i).map (go ts fl))))) (fun D hD => ⟨Ext.new hD, upd_same⟩) (fun D2 i H2 hD2 hi h => ?_) (fun D2 H2 hD2 h => ?_)
  · walk_at "go"
    refine ⟨l, ts, fl, i, rfl, rfl, rfl, h.1.keep hl12, ok, fun H'' e'' => ?_⟩
    exact grown h.1 e'' hD2 h.2 (by omega)
  obtain ⟨e13, h13⟩ := h
  walk_at "go"
  have S13 := S12.ext e13
  have R13 := R12.ext e13
  have hD13 := e13.keep h12
  have sm : ∀ n ∈ (List.range (2 ^ bits)).map (go ts fl), n < 2 ^ 1900 := fun n hn => by
    obtain ⟨i, _, rfl⟩ := List.mem_map.mp hn
    exact ok.fl_small (go_lt _ _ _)
  have lm : ((List.range (2 ^ bits)).map (go ts fl)).length ≤ 8000 := by
    rw [List.length_map, List.length_range]
    omega
  refine .inr (repr_nd hD13 sm lm ?_)
  walk_at "go"
  refine .inr (repr_nd h13 sm lm ?_)
  walk_at "go"
  refine iteD rfl ?_
  walk_at "go"
  have eD : nv ((List.range (2 ^ bits)).map (go ts fl)) = (((List.range (2 ^ bits)).map (go ts fl)).map fun (n : Nat) => (n : Int)).map V.int := nv_ints _
  refine ⟨D, _, rfl, SqL.of (by rw [← eD]; exact hD13), fun ns p5 pm5 so hp5 => ?_⟩
  walk_at "go"
  refine g_I (cshl_one (by omega)) ?_
  walk_at "go"
  rw [one_shl]
  refine ⟨rg_ok (by omega), fun p6 hp6 => ?_⟩
  walk_at "go"
  have all := go_all ok fl
  rw [len] at all
  have es := sorted_range pm5 so all
  have n56 : p5 ≠ p6 := fun z => by rw [← z, upd_same] at hp6; cases hp6
  rw [es, rgV_nv]
  refine ⟨_, _, dp_nv (by rw [upd_ne n56, upd_same]), dp_nv upd_same, nd_shaped _, nd_shaped _, ?_⟩
  rw [nd_eq, decide_eq_true rfl]
  exact q _ ((S13.new hp5).new (by rw [es] at hp6; exact hp6)) (((R13.new hp5).new (by rw [es] at hp6; exact hp6)).mono (by omega))

abbrev s_law_great_right : Stmt := top 22
abbrev N_law_great_right : List Str := ["reel", "targets", "flips", "one", "many", "place", "turn"]
theorem sc_law_great_right : FnScope N_law_great_right ["reel"] (defScope s_law_great_right) := ⟨rfl, rfl, rfl, by decide +kernel, rfl, by decide +kernel, by decide +kernel⟩
abbrev sp_law_great_right (K : PySem.W.Frag) : Sp := sp1 fun a H Q => ∃ (r : Addr) (n : Nat), a = .ref r ∧ Reel H r n ∧ n < 2 ^ 38 ∧ ∀ (H' : Hp), Stp r H H' → Reel H' r (n + 2000) → Q (.bl true) H'
theorem ok_law_great_right {P : Program} {w : World} {K : PySem.W.Frag} {mg : Str → Option Value} {base : Heap} {f CT : Addr} {fd : FuncData} (F : Fun K "_law_great_right" "_law_great_right" s_law_great_right f fd) (T : Txt K mg CT) (c_law_spin : Cal P w K mg base "_law_spin" 1 (sp_law_spin K)) (c_law_goes : Cal P w K mg base "_law_goes" 1 (sp_law_goes K)) (c_law_great : Cal P w K mg base "_law_great" 3 (sp_law_great K)) (c_law_kept : Cal P w K mg base "_law_kept" 8 (sp_law_kept K CT)) (tc : TurnT P w K mg base CT) : FnG P w K mg base CX0 9 f fd ["reel"] (sp_law_great_right K) := by
  refine fn_G0 F sc_law_great_right sp1_len (fun cd A outer s H vs Q E gd hr h => ?_)
  obtain ⟨a, rfl, r, n, rfl, hR, hn, q⟩ := h
  have e38 : ((2 : Nat) ^ 38) = 274877906944 := by decide
  have e39 : ((2 : Nat) ^ 39) = 549755813888 := by decide
  have e40 : ((2 : Nat) ^ 40) = 1099511627776 := by decide
  have e1000 : 1000 < 2 ^ 1000 := many_lt
  refine ⟨_, (pss_cons (ps_asg (pe_c c_law_great gd hr (by decide) rfl (pa_cons (pv 0) pa_nil)) (pg_tup rfl (pgs_cons (pg_name (i := 1) sc_law_great_right.nd rfl (.inl rfl)) (pgs_cons (pg_name (i := 2) sc_law_great_right.nd rfl (.inl rfl)) pgs_nil))))
    (pss_cons (ps_asg (pe_tup (pa_cons (pe_c c_law_kept gd hr (by decide) rfl (pa_cons (pv 1) (pa_cons (pv 2) pa_nil))) (pa_cons (pe_op op_shlW pe_int (pe_callB (call_lenK (K0 := K)) rfl T.n_len bt_len (pa_cons (pv 1) pa_nil))) pa_nil))) (pg_tup rfl (pgs_cons (pg_name (i := 3) sc_law_great_right.nd rfl (.inl rfl)) (pgs_cons (pg_name (i := 4) sc_law_great_right.nd rfl (.inr rfl)) pgs_nil))))
    (pss_cons (ps_if (PW.pt (pw_or (pt_cmpR op_isN (pv 3) pe_non (nomark _)) (pw_or1 (pt_cmpR (op_Turn_eq (K0 := K) (j := 8) tc hr (by decide)) (pv 3) (pe_Turn tc hr (by decide) rfl (pa_cons (pv 1) (pa_cons (pe_op op_xor (pv 2) pe_int) pa_nil))) (nomark _))))) (pss_one (ps_ret pe_bl)) pss_nil)
    (pss_cons (ps_for PassesOwn.never rfl (pi_list (pe_op op_cat (pe_lst (pa_cons pe_int (pa_cons (pe_op op_sub (pv 4) pe_int) pa_nil))) (pe_lc (own := [("turn", 6)]) (g := gName 6) (tt := tYes) rfl sc_law_great_right.nd (pi_range1 rfl T.n_range (pa_cons pe_int pa_nil)) (blkOk_by (own := [("turn", 6)]) (N := N_law_great_right) (sc := defScope s_law_great_right) (by decide +kernel)) (fun _ _ _ _ _ => (pg_name (i := 6) sc_law_great_right.nd rfl (.inl rfl))) (fun _ _ _ _ _ => pts_nil) (fun _ _ _ _ _ => (pe_c c_law_spin gd hr (by decide) rfl (pa_cons (pv 0) (pa_cons (pv 4) pa_nil))))))) (pg_name (i := 5) sc_law_great_right.nd rfl (.inl rfl))
    (pss_one (ps_if (pt_cmpR op_ne (pe_callB (CallR.or SkE.call_repr_int (call_reprK (K0 := K) gd hr)) rfl T.n_repr bt_repr (pa_cons (pe_Turn_goes_to tc hr (by decide) (pv 3) (pa_cons (pv 5) pa_nil)) pa_nil)) (pe_callB (CallR.or SkE.call_repr_int (call_reprK (K0 := K) gd hr)) rfl T.n_repr bt_repr (pa_cons (pe_c c_law_goes gd hr (by decide) rfl (pa_cons (pv 1) (pa_cons (pv 2) (pa_cons (pv 5) pa_nil)))) pa_nil)) (nomark _)) (pss_one (ps_ret pe_bl)) pss_nil)))
    (pss_one (ps_ret (pe_or (pe_cmpR op_eq (pe_callB (call_lenK (K0 := K)) rfl T.n_len bt_len (pa_cons (pv 1) pa_nil)) pe_int (nomark _)) (pe_one (pe_not (pe_cmpR (op_Turn_eq (K0 := K) (j := 8) tc hr (by decide)) (pv 3) (pe_Turn tc hr (by decide) rfl (pa_cons (pe_op op_cat (pv 1) (pe_lst (pa_cons (pe_callB (call_lenK (K0 := K)) rfl T.n_len bt_len (pa_cons (pv 1) pa_nil)) pa_nil))) (pa_cons (pv 2) pa_nil))) (nomark _))))))))))), ?_⟩
  walk_at "go"
  refine ⟨r, n, rfl, hR, hn, fun p l ts fl H1 s1 R1 hl0 hl1 hp0 hp1 ok hfl => ?_⟩
  have lr : l ≠ r := hR.ne hl0
  have hm := ok.most
  refine g_gtup (SqT.of hp1) rfl ?_
  walk_at "go"
  refine ⟨l, ts, fl, rfl, rfl, hl1, ok, hfl, fun x l2 H2 e2 hx hl2 at2 => ?_⟩
  walk_at "go"
  have S2 := s1.ext e2
  have R2 := R1.ext e2
  have xr : x ≠ r := R1.ne hx
  have l2r : l2 ≠ r := R1.ne hl2
  have h2 := e2.keep hl1
  refine g_lenK (SqL.of h2) ?_
  rw [nv_len]
  walk_at "go"
  refine g_I (cshl_one (by omega)) ?_
  walk_at "go"
  rw [one_shl]
  intro p3 hp3
  refine g_gtup (SqT.of upd_same) rfl ?_
  walk_at "go"
  have S3 := S2.new (o := .tup [.ref x, .int ((2 ^ ts.length : Nat) : Int)]) hp3
  have R3 := R2.new (o := .tup [.ref x, .int ((2 ^ ts.length : Nat) : Int)]) hp3
  have at3 := at2.new (o := .tup [.ref x, .int ((2 ^ ts.length : Nat) : Int)]) hp3
  have h3 : upd H2 p3 (.tup [.ref x, .int ((2 ^ ts.length : Nat) : Int)]) l = some (.lst (nv ts)) := by rw [upd_ne (ne_of_none h2 hp3)]; exact h2
  revert S3 R3 at3 h3
  generalize upd H2 p3 (.tup [.ref x, .int ((2 ^ ts.length : Nat) : Int)]) = H3
  intro S3 R3 at3 h3
  have hs : sizeLine = 16777216 := by decide
  have pos : 0 < 2 ^ ts.length := Nat.two_pow_pos _
  have big : 2 ^ ts.length < 2 ^ 1000 := places_lt hm
  have kl : ∀ {H' : Hp}, Stp r H3 H' → TurnAt CT H' x l2 ts fl ∧ H' l = some (.lst (nv ts)) := fun {H'} e => ⟨R3.at.elim fun _ z => at3.stp e z l2r, e _ _ h3 lr⟩
  refine iteDn (by intro z; cases z) ?_
  walk_at "go"
  rw [xor_one]
  refine ⟨l, ts, fl ^^^ 1, rfl, rfl, h3, ok, xor_one_lt hfl ok.one, fun y l3 H4 e4 _ _ aty => ?_⟩
  refine ⟨x, l2, ts, fl, _, rfl, at3.ext e4, .turn aty, ?_⟩
  walk_at "go"
  refine iteDn (fun z => xor_one_ne _ z.2) ?_
  walk_at "go"
  intro p5 hp5
  walk_at "go"
  have n5 : p5 ≠ r := (R3.ext e4).ne hp5
  have E5 := e4.new' (o := .lst [.int 0, .int (((2 ^ ts.length : Nat) : Int) - 1)]) hp5
  have o5 : upd H4 p5 (.lst [.int 0, .int (((2 ^ ts.length : Nat) : Int) - 1)]) p5 = some (.lst [.int 0, .int (((2 ^ ts.length : Nat) : Int) - 1)]) := upd_same
  revert E5 o5
  generalize upd H4 p5 (.lst [.int 0, .int (((2 ^ ts.length : Nat) : Int) - 1)]) = H5
  intro E5 o5
  have S5 := S3.ext E5
  have R5 := R3.ext E5
  refine u_lcr (n := 6) (by decide) (fun D i H' => Stp r H5 H' ∧ Reel H' r (n + 1000 + i) ∧ ∃ ps : List Nat, H' D = some (.lst (nv ps)) ∧ ps.length = i ∧ ∀ x ∈ ps, x < 2 ^ ts.length) (fun D hD => ⟨(Ext.new hD).stp, R5.new hD, [], upd_same, rfl, fun x hx => by cases hx⟩) (fun D i H' hD hi h => ?_) (fun D H' hD h => ?_)
  · obtain ⟨sD, RD, ps, hps, lps, bps⟩ := h
    have nD : D ≠ r := R5.ne hD
    walk_at "go"
    refine ⟨r, 2 ^ ts.length, n + 1000 + i, rfl, rfl, RD, by omega, pos, big, fun d H6 hd s6 R6 => ?_⟩
    refine ⟨_, s6 _ _ hps nD, by rw [nv_len]; omega, (sD.trans s6).mut hD, R6.mut nD, ps ++ [d], ?_, by rw [List.length_append, lps]; rfl, fun y hy => ?_⟩
    · rw [upd_same, nv_append]
      rfl
    · rcases List.mem_append.mp hy with h | h
      · exact bps y h
      · rw [List.mem_singleton.mp h]
        exact hd
  obtain ⟨sD, RD, ps, hps, lps, bps⟩ := h
  have nD : D ≠ r := R5.ne hD
  walk_at "go"
  refine ⟨p5, D, _, _, rfl, rfl, sD _ _ o5 n5, hps, by rw [nv_len, lps, hs]; exact (by decide : 2 + 6 ≤ 16777216), fun p7 hp7 => ?_⟩
  have eq : [V.int 0, .int (((2 ^ ts.length : Nat) : Int) - 1)] ++ nv ps = nv (0 :: (2 ^ ts.length - 1) :: ps) := by
    rw [show (((2 ^ ts.length : Nat) : Int) - 1) = ((2 ^ ts.length - 1 : Nat) : Int) by omega]
    rfl
  rw [eq]
  have bq : ∀ z ∈ 0 :: (2 ^ ts.length - 1) :: ps, z < 2 ^ ts.length := fun z hz => by
    rcases List.mem_cons.mp hz with h | hz
    · omega
    · rcases List.mem_cons.mp hz with h | h
      · omega
      · exact bps z h
  generalize (0 :: (2 ^ ts.length - 1) :: ps) = qs at bq ⊢
  have S7 : Stp r H3 (upd H' p7 (.lst (nv qs))) := (E5.stp.trans sD).new hp7
  have R7 : Reel (upd H' p7 (.lst (nv qs))) r (n + 1006) := RD.new hp7
  have o7 : upd H' p7 (.lst (nv qs)) p7 = some (.lst (nv qs)) := upd_same
  revert S7 R7 o7
  generalize upd H' p7 (.lst (nv qs)) = H7
  intro S7 R7 o7
  obtain ⟨at7, h7⟩ := kl S7
  refine u_list (SqL.of o7) (fun i σ' H' => ∃ v : Option V, σ' = [some (.ref r), some (.ref l), some (.int (fl : Int)), some (.ref x), some (.int ((2 ^ ts.length : Nat) : Int)), v, none] ∧ Ext H7 H') ?_ ?_ ?_ ?_
  · exact ⟨none, rfl, Ext.refl _⟩
  · rintro i σ' H' _ ⟨v, rfl, e⟩
    exact SqL.of (e.keep o7)
  · rintro i v σ' H' hi ⟨u, rfl, e⟩
    obtain ⟨z, hz, rfl⟩ := nv_get hi
    have zl := bq z (List.mem_of_getElem? hz)
    have gs := log_small (ok.fl_small (go_lt ts fl z))
    walk_at "go"
    refine ⟨_, rfl, ⟨x, l2, ts, fl, rfl, at7.ext e⟩, ?_⟩
    walk_at "go"
    refine ⟨_, rfl, x, l2, ts, fl, z, rfl, rfl, at7.ext e, zl, fun Ha ea => ?_⟩
    walk_at "go"
    refine ⟨gs, ?_⟩
    walk_at "go"
    refine ⟨l, ts, fl, z, rfl, rfl, rfl, (e.trans ea).keep h7, ok, fun Hb eb => ?_⟩
    walk_at "go"
    refine ⟨gs, ?_⟩
    walk_at "go"
    refine iteNn rfl ?_
    walk_at "go"
    exact ⟨_, rfl, (e.trans ea).trans eb⟩
  · rintro σ' H' ⟨v, rfl, e⟩
    have at8 := at7.ext e
    have h8 := e.keep h7
    have S8 := (S3.trans S7).ext e
    have R8 := (R7.ext e).mono (m := n + 2000) (by omega)
    walk_at "go"
    refine g_lenK (SqL.of h8) ?_
    rw [nv_len]
    walk_at "go"
    by_cases h100 : ts.length = 100
    · refine iteD (vint_eq (by omega)) ?_
      exact q _ S8 R8
    refine iteDn (vint_ne (by omega)) ?_
    walk_at "go"
    refine g_lenK (SqL.of h8) ?_
    rw [nv_len]
    walk_at "go"
    intro p9 hp9
    walk_at "go"
    have n9 : l ≠ p9 := ne_of_none h8 hp9
    refine ⟨l, p9, _, _, rfl, rfl, by rw [upd_ne n9]; exact h8, upd_same, by rw [nv_len, hs]; show ts.length + 1 ≤ _; omega, fun p10 hp10 => ?_⟩
    walk_at "go"
    have S10 := (S8.new (o := .lst [.int (ts.length : Int)]) hp9).new (o := .lst (nv ts ++ [.int (ts.length : Int)])) hp10
    have R10 := (R8.new (o := .lst [.int (ts.length : Int)]) hp9).new (o := .lst (nv ts ++ [.int (ts.length : Int)])) hp10
    have at10 := (at8.new (o := .lst [.int (ts.length : Int)]) hp9).new (o := .lst (nv ts ++ [.int (ts.length : Int)])) hp10
    refine ⟨p10, ts ++ [ts.length], fl, rfl, rfl, by rw [upd_same, nv_append]; rfl, ok.snoc (by omega), ?_, fun y l' Hc ec _ _ aty => ?_⟩
    · rw [List.length_append]
      exact Nat.lt_of_lt_of_le hfl (Nat.pow_le_pow_right (by decide) (Nat.le_add_right _ _))
    refine ⟨x, l2, ts, fl, _, rfl, at10.ext ec, .turn aty, ?_⟩
    have ne : ¬ (ts = ts ++ [ts.length] ∧ fl = fl) := fun z => by
      have := congrArg List.length z.1
      rw [List.length_append] at this
      simp at this
    rw [decide_eq_false ne]
    walk_at "go"
    exact q _ (S10.ext ec) (R10.ext ec)

abbrev s_law : Stmt := top 23
abbrev N_law : List Str := ["script", "k", "reel", "turn", "told", "place"]
theorem sc_law : FnScope N_law ["script"] (defScope s_law) := ⟨rfl, rfl, rfl, by decide +kernel, rfl, by decide +kernel, by decide +kernel⟩
abbrev sp_law (K : PySem.W.Frag) : Sp := sp1 fun a H Q => ∃ (l : Addr) (ns : List Int), a = .ref l ∧ SqL K H l (ns.map V.int) ∧ ∀ H', Q (.bl true) H'
theorem ok_law {P : Program} {w : World} {K : PySem.W.Frag} {mg : Str → Option Value} {base : Heap} {f CT : Addr} {fd : FuncData} (F : Fun K "law" "law" s_law f fd) (T : Txt K mg CT) (c_law_wound : Cal P w K mg base "_law_wound" 1 (sp_law_wound K)) (c_law_small_right : Cal P w K mg base "_law_small_right" 9 (sp_law_small_right K)) (c_law_great_right : Cal P w K mg base "_law_great_right" 9 (sp_law_great_right K)) (tc : TurnT P w K mg base CT) : FnG P w K mg base CX0 10 f fd ["script"] (sp_law K) := by
  refine fn_G0 F sc_law sp1_len (fun cd A outer s H vs Q E gd hr h => ?_)
  obtain ⟨a, rfl, l, ns, rfl, hl, q⟩ := h
  refine ⟨_, (pss_cons (ps_for PassesOwn.never rfl (pi_range1 rfl T.n_range (pa_cons (pe_callB (call_max2 rfl) rfl T.n_max bt_max (pa_cons pe_int (pa_cons (pe_callB (call_min2 rfl) rfl T.n_min bt_min (pa_cons pe_int (pa_cons (pe_callB (call_lenK (K0 := K)) rfl T.n_len bt_len (pa_cons (pv 0) pa_nil)) pa_nil))) pa_nil))) pa_nil)) (pg_name (i := 1) sc_law.nd rfl (.inl rfl))
    (pss_cons (ps_set (i := 2) sc_law.nd rfl (.inl rfl) (pe_c c_law_wound gd hr (by decide) rfl (pa_cons (pv 0) (pa_cons (pv 1) pa_nil))))
    (pss_one (ps_for PassesOwn.never rfl (pi_range1 rfl T.n_range (pa_cons pe_int pa_nil)) (pg_name (i := 3) sc_law.nd rfl (.inl rfl))
    (pss_one (ps_if (PW.pt (pw_or (pt_not (pt_val (pe_c c_law_small_right gd hr (by decide) rfl (pa_cons (pv 2) pa_nil)))) (pw_or1 (pt_not (pt_val (pe_c c_law_great_right gd hr (by decide) rfl (pa_cons (pv 2) pa_nil))))))) (pss_one (ps_ret pe_bl)) pss_nil))))))
    (pss_cons (ps_setLc (i := 4) (own := [("place", 5)]) (g := gName 5) (tt := tYes) rfl sc_law.nd rfl rfl (sw_true rfl rfl rfl (by decide +kernel)) (pi_range1 rfl T.n_range (pa_cons pe_int pa_nil)) (blkOk_by (own := [("place", 5)]) (N := N_law) (sc := defScope s_law) (by decide +kernel)) (fun _ _ _ _ _ => (pg_name (i := 5) sc_law.nd rfl (.inl rfl))) (fun _ _ _ _ _ => pts_nil) (fun _ _ _ _ _ => (pe_Turn_goes_to tc hr (by decide) (pe_Turn tc hr (by decide) rfl (pa_cons (pe_lst (pa_cons pe_int (pa_cons pe_int (pa_cons pe_int pa_nil)))) (pa_cons pe_int pa_nil))) (pa_cons (pv 5) pa_nil))))
    (pss_one (ps_ret (pe_and (pe_cmpR (op_eqDK (K0 := K) hr) (pv 4) (pe_lst (pa_cons pe_int (pa_cons pe_int (pa_cons pe_int (pa_cons pe_int (pa_cons pe_int (pa_cons pe_int (pa_cons pe_int (pa_cons pe_int pa_nil))))))))) (nomark _)) (pe_one (pe_cmpR (op_eqDK (K0 := K) hr) (pe_lc (own := [("place", 5)]) (g := gName 5) (tt := tYes) rfl sc_law.nd (pi_range1 rfl T.n_range (pa_cons pe_int pa_nil)) (blkOk_by (own := [("place", 5)]) (N := N_law) (sc := defScope s_law) (by decide +kernel)) (fun _ _ _ _ _ => (pg_name (i := 5) sc_law.nd rfl (.inl rfl))) (fun _ _ _ _ _ => pts_nil) (fun _ _ _ _ _ => (pe_Turn_goes_to tc hr (by decide) (pe_Turn tc hr (by decide) rfl (pa_cons (pe_lst (pa_cons pe_int (pa_cons pe_int pa_nil))) (pa_cons pe_int pa_nil))) (pa_cons (pv 5) pa_nil)))) (pe_lst (pa_cons pe_int (pa_cons pe_int (pa_cons pe_int (pa_cons pe_int pa_nil))))) (nomark _)))))))), ?_⟩
  have e38 : ((2 : Nat) ^ 38) = 274877906944 := by decide
  have ok3 : Ts [1, 2, 0] := ⟨by decide, by decide, by decide, by decide⟩
  have ok2 : Ts [1, 0] := ⟨by decide, by decide, by decide, by decide⟩
  have g3 : (List.range 8).map (go [1, 2, 0] 0) = [0, 2, 4, 6, 1, 3, 5, 7] := by decide +kernel
  have g2 : (List.range 4).map (go [1, 0] 1) = [1, 3, 0, 2] := by decide +kernel
  walk_at "go"
  refine ⟨l, _, rfl, .inl hl, ?_⟩
  walk_at "go"
  obtain ⟨m, hm, em⟩ := few_ex (ns.map V.int).length 6 (by decide)
  rw [show ((6 : Nat) : Int) = 6 from rfl] at em
  rw [em]
  refine u_range (n := m) (by omega) (fun i σ' H' => ∃ (v1 v2 v3 : Option V), σ' = [some (.ref l), v1, v2, v3, none, none] ∧ Ext H H') ?_ ?_ ?_
  · exact ⟨none, none, none, rfl, Ext.refl _⟩
  · rintro i σ' H' hi ⟨v1, v2, v3, rfl, e⟩
    walk_at "go"
    refine ⟨l, ns, i, rfl, rfl, e.sqL hl, by omega, fun r H1 e1 hr0 R1 => ?_⟩
    walk_at "go"
    refine u_range (n := 4) (by omega) (fun j σ2 H2 => ∃ (v3 : Option V), σ2 = [some (.ref l), some (.int (i : Int)), some (.ref r), v3, none, none] ∧ Stp r H1 H2 ∧ Reel H2 r (j * 4000)) ?_ ?_ ?_
    · exact ⟨v3, rfl, Stp.refl _ _, R1⟩
    · rintro j σ2 H2 hj ⟨v3, rfl, s2, R2⟩
      walk_at "go"
      refine ⟨r, j * 4000, rfl, R2, by omega, fun H3 s3 R3 => ?_⟩
      walk_at "go"
      refine iteF ?_
      walk_at "go"
      refine ⟨r, j * 4000 + 2000, rfl, R3, by omega, fun H4 s4 R4 => ?_⟩
      walk_at "go"
      refine iteF ?_
      walk_at "go"
      exact ⟨_, rfl, (s2.trans s3).trans s4, R4.mono (by omega)⟩
    · rintro σ2 H2 ⟨v3, rfl, s2, R2⟩
      exact ⟨_, _, _, rfl, Stp.out (e.trans e1) s2 (e.free hr0)⟩
  · rintro σ' H' ⟨v1, v2, v3, rfl, e⟩
    walk_at "go"
    refine u_lcr (n := 8) (by decide) (fun D i H2 => Ext H' H2 ∧ H2 D = some (.lst (nv ((List.range i).map (go [1, 2, 0] 0))))) (fun D hD => ⟨Ext.new hD, upd_same⟩) (fun D i H2 hD hi h => ?_) (fun D H2 hD h => ?_)
    · walk_at "go"
      refine g_goes ?_
      walk_at "go"
      intro p hp
      walk_at "go"
      refine ⟨p, [1, 2, 0], 0, rfl, rfl, upd_same, ok3, by decide, fun x l2 H3 e3 _ _ at3 => ?_⟩
      refine ⟨⟨x, l2, _, _, rfl, at3⟩, ?_⟩
      walk_at "go"
      refine ⟨_, rfl, x, l2, _, _, i, rfl, rfl, at3, hi, fun H4 e4 => ?_⟩
      exact grown h.1 (((Ext.new hp).trans e3).trans e4) hD h.2 (by omega)
    obtain ⟨e2, h2⟩ := h
    walk_at "go"
    intro p hp
    rw [g3] at h2
    refine ⟨_, _, dp_nv (by rw [upd_ne (ne_of_none h2 hp)]; exact h2), dp_nv (l := [0, 2, 4, 6, 1, 3, 5, 7]) upd_same, nd_shaped _, nd_shaped _, ?_⟩
    rw [nd_eq, decide_eq_true rfl]
    walk_at "go"
    refine iteT ?_
    walk_at "go"
    refine u_lcr (n := 4) (by decide) (fun D2 i H3 => Ext (upd H2 p (.lst [.int 0, .int 2, .int 4, .int 6, .int 1, .int 3, .int 5, .int 7])) H3 ∧ H3 D2 = some (.lst (nv ((List.range i).map (go [1, 0] 1))))) (fun D hD => ⟨Ext.new hD, upd_same⟩) (fun D2 i H3 hD2 hi h => ?_) (fun D2 H3 hD2 h => ?_)
    · walk_at "go"
      refine g_goes ?_
      walk_at "go"
      intro p2 hp2
      walk_at "go"
      refine ⟨p2, [1, 0], 1, rfl, rfl, upd_same, ok2, by decide, fun x l2 H4 e4 _ _ at4 => ?_⟩
      refine ⟨⟨x, l2, _, _, rfl, at4⟩, ?_⟩
      walk_at "go"
      refine ⟨_, rfl, x, l2, _, _, i, rfl, rfl, at4, hi, fun H5 e5 => ?_⟩
      exact grown h.1 (((Ext.new hp2).trans e4).trans e5) hD2 h.2 (by omega)
    obtain ⟨e3, h3⟩ := h
    walk_at "go"
    intro p3 hp3
    rw [g2] at h3
    refine ⟨_, _, dp_nv (by rw [upd_ne (ne_of_none h3 hp3)]; exact h3), dp_nv (l := [1, 3, 0, 2]) upd_same, nd_shaped _, nd_shaped _, ?_⟩
    rw [nd_eq, decide_eq_true rfl]
    exact q _

theorem sub7 {K : PySem.W.Frag} {C : Addr} (h1 : PySem.W.subIn K (.type "NoneType") (.ref C) = some false) (h2 : PySem.W.subIn K (.type "int") (.ref C) = some false) (h3 : PySem.W.subIn K (.type "bool") (.ref C) = some false) (h4 : PySem.W.subIn K (.type "str") (.ref C) = some false)
    (h5 : PySem.W.subIn K (.type "list") (.ref C) = some false) (h6 : PySem.W.subIn K (.type "tuple") (.ref C) = some false) (h7 : PySem.W.subIn K (.type "dict") (.ref C) = some false) : ∀ T ∈ ["NoneType", "int", "bool", "str", "list", "tuple", "dict"], PySem.W.subIn K (.type T) (.ref C) = some false := by
  intro T hT
  rcases List.mem_cons.mp hT with rfl | hT
  · exact h1
  rcases List.mem_cons.mp hT with rfl | hT
  · exact h2
  rcases List.mem_cons.mp hT with rfl | hT
  · exact h3
  rcases List.mem_cons.mp hT with rfl | hT
  · exact h4
  rcases List.mem_cons.mp hT with rfl | hT
  · exact h5
  rcases List.mem_cons.mp hT with rfl | hT
  · exact h6
  rcases List.mem_cons.mp hT with rfl | hT
  · exact h7
  cases hT
theorem all_mk {l : PySem.W.OpenLaw} {w : World} {K : PySem.W.Frag} {h : Heap} {mg : Str → Option Value} {fa : Addr} (X : K.In h) (G : h.Ns mainGlobals mg) (hfa : mg "law" = some (.ref fa))
    {CT : Addr}
    {f_is_integer : Addr} {od_is_integer an_is_integer : Option Addr} {sl_is_integer : Array (Option Value)} {oc_is_integer kV_is_integer dc_is_integer pm_is_integer cd_is_integer ct_is_integer : Value}
    {f_is_between : Addr} {od_is_between an_is_between : Option Addr} {sl_is_between : Array (Option Value)} {oc_is_between kV_is_between dc_is_between pm_is_between cd_is_between ct_is_between : Value}
    {f_check_place : Addr} {od_check_place an_check_place : Option Addr} {sl_check_place : Array (Option Value)} {oc_check_place kV_check_place dc_check_place pm_check_place cd_check_place ct_check_place : Value}
    {f_Turn_init : Addr} {od_Turn_init an_Turn_init : Option Addr} {sl_Turn_init : Array (Option Value)} {oc_Turn_init kV_Turn_init dc_Turn_init pm_Turn_init cd_Turn_init ct_Turn_init : Value}
    {f_Turn_bits : Addr} {od_Turn_bits an_Turn_bits : Option Addr} {sl_Turn_bits : Array (Option Value)} {oc_Turn_bits kV_Turn_bits dc_Turn_bits pm_Turn_bits cd_Turn_bits ct_Turn_bits : Value}
    {p_Turn_bits : Addr} {rest_Turn_bits : List Value}
    {f_Turn_targets : Addr} {od_Turn_targets an_Turn_targets : Option Addr} {sl_Turn_targets : Array (Option Value)} {oc_Turn_targets kV_Turn_targets dc_Turn_targets pm_Turn_targets cd_Turn_targets ct_Turn_targets : Value}
    {p_Turn_targets : Addr} {rest_Turn_targets : List Value}
    {f_Turn_flips : Addr} {od_Turn_flips an_Turn_flips : Option Addr} {sl_Turn_flips : Array (Option Value)} {oc_Turn_flips kV_Turn_flips dc_Turn_flips pm_Turn_flips cd_Turn_flips ct_Turn_flips : Value}
    {p_Turn_flips : Addr} {rest_Turn_flips : List Value}
    {f_Turn_goes_to : Addr} {od_Turn_goes_to an_Turn_goes_to : Option Addr} {sl_Turn_goes_to : Array (Option Value)} {oc_Turn_goes_to kV_Turn_goes_to dc_Turn_goes_to pm_Turn_goes_to cd_Turn_goes_to ct_Turn_goes_to : Value}
    {f_Turn_eq : Addr} {od_Turn_eq an_Turn_eq : Option Addr} {sl_Turn_eq : Array (Option Value)} {oc_Turn_eq kV_Turn_eq dc_Turn_eq pm_Turn_eq cd_Turn_eq ct_Turn_eq : Value}
    {f_check_targets : Addr} {od_check_targets an_check_targets : Option Addr} {sl_check_targets : Array (Option Value)} {oc_check_targets kV_check_targets dc_check_targets pm_check_targets cd_check_targets ct_check_targets : Value}
    {f_law_wound : Addr} {od_law_wound an_law_wound : Option Addr} {sl_law_wound : Array (Option Value)} {oc_law_wound kV_law_wound dc_law_wound pm_law_wound cd_law_wound ct_law_wound : Value}
    {f_law_spin : Addr} {od_law_spin an_law_spin : Option Addr} {sl_law_spin : Array (Option Value)} {oc_law_spin kV_law_spin dc_law_spin pm_law_spin cd_law_spin ct_law_spin : Value}
    {f_law_drawn_targets : Addr} {od_law_drawn_targets an_law_drawn_targets : Option Addr} {sl_law_drawn_targets : Array (Option Value)} {oc_law_drawn_targets kV_law_drawn_targets dc_law_drawn_targets pm_law_drawn_targets cd_law_drawn_targets ct_law_drawn_targets : Value}
    {f_law_drawn_flips : Addr} {od_law_drawn_flips an_law_drawn_flips : Option Addr} {sl_law_drawn_flips : Array (Option Value)} {oc_law_drawn_flips kV_law_drawn_flips dc_law_drawn_flips pm_law_drawn_flips cd_law_drawn_flips ct_law_drawn_flips : Value}
    {f_law_goes : Addr} {od_law_goes an_law_goes : Option Addr} {sl_law_goes : Array (Option Value)} {oc_law_goes kV_law_goes dc_law_goes pm_law_goes cd_law_goes ct_law_goes : Value}
    {f_law_great : Addr} {od_law_great an_law_great : Option Addr} {sl_law_great : Array (Option Value)} {oc_law_great kV_law_great dc_law_great pm_law_great cd_law_great ct_law_great : Value}
    {f_law_kept : Addr} {od_law_kept an_law_kept : Option Addr} {sl_law_kept : Array (Option Value)} {oc_law_kept kV_law_kept dc_law_kept pm_law_kept cd_law_kept ct_law_kept : Value}
    {f_law_small_right : Addr} {od_law_small_right an_law_small_right : Option Addr} {sl_law_small_right : Array (Option Value)} {oc_law_small_right kV_law_small_right dc_law_small_right pm_law_small_right cd_law_small_right ct_law_small_right : Value}
    {f_law_great_right : Addr} {od_law_great_right an_law_great_right : Option Addr} {sl_law_great_right : Array (Option Value)} {oc_law_great_right kV_law_great_right dc_law_great_right pm_law_great_right cd_law_great_right ct_law_great_right : Value}
    {f_law : Addr} {od_law an_law : Option Addr} {sl_law : Array (Option Value)} {oc_law kV_law dc_law pm_law cd_law ct_law : Value}
    {t_MOST_BITS : Tok}
    (aCT : PySem.W.nsIn K mainGlobals "Turn" = some (some (.ref CT)))
    (cpg : PySem.W.plainGet K CT Str.empty = true)
    (chd : PySem.W.hasDictIn K CT = true)
    (cpo : PySem.W.plainOver K CT = true)
    (csa : PySem.W.findIn K (.ref CT) "__setattr__" = some (some (.builtin "object.__setattr__")))
    (cnT : PySem.W.findIn K (.ref CT) "_targets" = some none)
    (cnF : PySem.W.findIn K (.ref CT) "_flips" = some none)
    (cca : PySem.W.findIn K (.ref CT) "__class__" = some (some (.builtin "object.__class__")))
    (ccn : PySem.W.specialIn K (.builtin "object.__class__") "__get__" = some (some (.builtin "getset_descriptor.__get__")))
    (cct : PySem.W.takesIn K (.builtin "object.__class__") = some true)
    (ccm : PySem.W.mroIn K CT (.type "object") = some true)
    (ckc : PySem.W.keepIn K (.ref CT) = true)
    (cis : PySem.W.isClsIn K CT = true)
    (cty : PySem.W.typeIn K (.ref CT) = some (.type "type"))
    (cmk : PySem.W.makesIn K CT = true)
    (csNoneType : PySem.W.subIn K (.type "NoneType") (.ref CT) = some false)
    (csint : PySem.W.subIn K (.type "int") (.ref CT) = some false)
    (csbool : PySem.W.subIn K (.type "bool") (.ref CT) = some false)
    (csstr : PySem.W.subIn K (.type "str") (.ref CT) = some false)
    (cslist : PySem.W.subIn K (.type "list") (.ref CT) = some false)
    (cstuple : PySem.W.subIn K (.type "tuple") (.ref CT) = some false)
    (csdict : PySem.W.subIn K (.type "dict") (.ref CT) = some false)
    (a_is_integer : PySem.W.nsIn K mainGlobals "is_integer" = some (some (.ref f_is_integer)))
    (l_is_integer : K.lookup f_is_integer = some ⟨oc_is_integer, od_is_integer, .func (PySem.W.fnOf "is_integer" "is_integer" (defArgs s_is_integer) (defBody s_is_integer) (defScope s_is_integer) .none kV_is_integer dc_is_integer pm_is_integer an_is_integer cd_is_integer ct_is_integer), sl_is_integer⟩)
    (c_is_integer : PySem.W.codeIn K cd_is_integer "is_integer" = true)
    (k_is_integer : PySem.W.keepIn K (.ref f_is_integer) = true)
    (a_is_between : PySem.W.nsIn K mainGlobals "is_between" = some (some (.ref f_is_between)))
    (l_is_between : K.lookup f_is_between = some ⟨oc_is_between, od_is_between, .func (PySem.W.fnOf "is_between" "is_between" (defArgs s_is_between) (defBody s_is_between) (defScope s_is_between) .none kV_is_between dc_is_between pm_is_between an_is_between cd_is_between ct_is_between), sl_is_between⟩)
    (c_is_between : PySem.W.codeIn K cd_is_between "is_between" = true)
    (k_is_between : PySem.W.keepIn K (.ref f_is_between) = true)
    (a_check_place : PySem.W.nsIn K mainGlobals "check_place" = some (some (.ref f_check_place)))
    (l_check_place : K.lookup f_check_place = some ⟨oc_check_place, od_check_place, .func (PySem.W.fnOf "check_place" "check_place" (defArgs s_check_place) (defBody s_check_place) (defScope s_check_place) .none kV_check_place dc_check_place pm_check_place an_check_place cd_check_place ct_check_place), sl_check_place⟩)
    (c_check_place : PySem.W.codeIn K cd_check_place "check_place" = true)
    (k_check_place : PySem.W.keepIn K (.ref f_check_place) = true)
    (a_Turn_init : PySem.W.findIn K (.ref CT) "__init__" = some (some (.ref f_Turn_init)))
    (i_Turn_init : PySem.W.isFn K (.ref f_Turn_init) = true)
    (l_Turn_init : K.lookup f_Turn_init = some ⟨oc_Turn_init, od_Turn_init, .func (PySem.W.fnOf "__init__" "Turn.__init__" (defArgs s_Turn_init) (defBody s_Turn_init) (defScope s_Turn_init) .none kV_Turn_init dc_Turn_init pm_Turn_init an_Turn_init cd_Turn_init ct_Turn_init), sl_Turn_init⟩)
    (c_Turn_init : PySem.W.codeIn K cd_Turn_init "Turn.__init__" = true)
    (k_Turn_init : PySem.W.keepIn K (.ref f_Turn_init) = true)
    (a_Turn_bits : PySem.W.findIn K (.ref CT) "bits" = some (some (.ref p_Turn_bits)))
    (g_Turn_bits : PySem.W.specialIn K (.ref p_Turn_bits) "__get__" = some (some (.builtin "property.__get__")))
    (t_Turn_bits : PySem.W.takesIn K (.ref p_Turn_bits) = some true)
    (r_Turn_bits : PySem.W.recIn K p_Turn_bits "property" = some (.ref f_Turn_bits :: rest_Turn_bits))
    (l_Turn_bits : K.lookup f_Turn_bits = some ⟨oc_Turn_bits, od_Turn_bits, .func (PySem.W.fnOf "bits" "Turn.bits" (defArgs s_Turn_bits) (defBody s_Turn_bits) (defScope s_Turn_bits) .none kV_Turn_bits dc_Turn_bits pm_Turn_bits an_Turn_bits cd_Turn_bits ct_Turn_bits), sl_Turn_bits⟩)
    (c_Turn_bits : PySem.W.codeIn K cd_Turn_bits "Turn.bits" = true)
    (k_Turn_bits : PySem.W.keepIn K (.ref f_Turn_bits) = true)
    (a_Turn_targets : PySem.W.findIn K (.ref CT) "targets" = some (some (.ref p_Turn_targets)))
    (g_Turn_targets : PySem.W.specialIn K (.ref p_Turn_targets) "__get__" = some (some (.builtin "property.__get__")))
    (t_Turn_targets : PySem.W.takesIn K (.ref p_Turn_targets) = some true)
    (r_Turn_targets : PySem.W.recIn K p_Turn_targets "property" = some (.ref f_Turn_targets :: rest_Turn_targets))
    (l_Turn_targets : K.lookup f_Turn_targets = some ⟨oc_Turn_targets, od_Turn_targets, .func (PySem.W.fnOf "targets" "Turn.targets" (defArgs s_Turn_targets) (defBody s_Turn_targets) (defScope s_Turn_targets) .none kV_Turn_targets dc_Turn_targets pm_Turn_targets an_Turn_targets cd_Turn_targets ct_Turn_targets), sl_Turn_targets⟩)
    (c_Turn_targets : PySem.W.codeIn K cd_Turn_targets "Turn.targets" = true)
    (k_Turn_targets : PySem.W.keepIn K (.ref f_Turn_targets) = true)
    (a_Turn_flips : PySem.W.findIn K (.ref CT) "flips" = some (some (.ref p_Turn_flips)))
    (g_Turn_flips : PySem.W.specialIn K (.ref p_Turn_flips) "__get__" = some (some (.builtin "property.__get__")))
    (t_Turn_flips : PySem.W.takesIn K (.ref p_Turn_flips) = some true)
    (r_Turn_flips : PySem.W.recIn K p_Turn_flips "property" = some (.ref f_Turn_flips :: rest_Turn_flips))
    (l_Turn_flips : K.lookup f_Turn_flips = some ⟨oc_Turn_flips, od_Turn_flips, .func (PySem.W.fnOf "flips" "Turn.flips" (defArgs s_Turn_flips) (defBody s_Turn_flips) (defScope s_Turn_flips) .none kV_Turn_flips dc_Turn_flips pm_Turn_flips an_Turn_flips cd_Turn_flips ct_Turn_flips), sl_Turn_flips⟩)
    (c_Turn_flips : PySem.W.codeIn K cd_Turn_flips "Turn.flips" = true)
    (k_Turn_flips : PySem.W.keepIn K (.ref f_Turn_flips) = true)
    (a_Turn_goes_to : PySem.W.findIn K (.ref CT) "goes_to" = some (some (.ref f_Turn_goes_to)))
    (i_Turn_goes_to : PySem.W.isFn K (.ref f_Turn_goes_to) = true)
    (l_Turn_goes_to : K.lookup f_Turn_goes_to = some ⟨oc_Turn_goes_to, od_Turn_goes_to, .func (PySem.W.fnOf "goes_to" "Turn.goes_to" (defArgs s_Turn_goes_to) (defBody s_Turn_goes_to) (defScope s_Turn_goes_to) .none kV_Turn_goes_to dc_Turn_goes_to pm_Turn_goes_to an_Turn_goes_to cd_Turn_goes_to ct_Turn_goes_to), sl_Turn_goes_to⟩)
    (c_Turn_goes_to : PySem.W.codeIn K cd_Turn_goes_to "Turn.goes_to" = true)
    (k_Turn_goes_to : PySem.W.keepIn K (.ref f_Turn_goes_to) = true)
    (a_Turn_eq : PySem.W.findIn K (.ref CT) "__eq__" = some (some (.ref f_Turn_eq)))
    (i_Turn_eq : PySem.W.isFn K (.ref f_Turn_eq) = true)
    (l_Turn_eq : K.lookup f_Turn_eq = some ⟨oc_Turn_eq, od_Turn_eq, .func (PySem.W.fnOf "__eq__" "Turn.__eq__" (defArgs s_Turn_eq) (defBody s_Turn_eq) (defScope s_Turn_eq) .none kV_Turn_eq dc_Turn_eq pm_Turn_eq an_Turn_eq cd_Turn_eq ct_Turn_eq), sl_Turn_eq⟩)
    (c_Turn_eq : PySem.W.codeIn K cd_Turn_eq "Turn.__eq__" = true)
    (k_Turn_eq : PySem.W.keepIn K (.ref f_Turn_eq) = true)
    (a_check_targets : PySem.W.nsIn K mainGlobals "check_targets" = some (some (.ref f_check_targets)))
    (l_check_targets : K.lookup f_check_targets = some ⟨oc_check_targets, od_check_targets, .func (PySem.W.fnOf "check_targets" "check_targets" (defArgs s_check_targets) (defBody s_check_targets) (defScope s_check_targets) .none kV_check_targets dc_check_targets pm_check_targets an_check_targets cd_check_targets ct_check_targets), sl_check_targets⟩)
    (c_check_targets : PySem.W.codeIn K cd_check_targets "check_targets" = true)
    (k_check_targets : PySem.W.keepIn K (.ref f_check_targets) = true)
    (a_law_wound : PySem.W.nsIn K mainGlobals "_law_wound" = some (some (.ref f_law_wound)))
    (l_law_wound : K.lookup f_law_wound = some ⟨oc_law_wound, od_law_wound, .func (PySem.W.fnOf "_law_wound" "_law_wound" (defArgs s_law_wound) (defBody s_law_wound) (defScope s_law_wound) .none kV_law_wound dc_law_wound pm_law_wound an_law_wound cd_law_wound ct_law_wound), sl_law_wound⟩)
    (c_law_wound : PySem.W.codeIn K cd_law_wound "_law_wound" = true)
    (k_law_wound : PySem.W.keepIn K (.ref f_law_wound) = true)
    (a_law_spin : PySem.W.nsIn K mainGlobals "_law_spin" = some (some (.ref f_law_spin)))
    (l_law_spin : K.lookup f_law_spin = some ⟨oc_law_spin, od_law_spin, .func (PySem.W.fnOf "_law_spin" "_law_spin" (defArgs s_law_spin) (defBody s_law_spin) (defScope s_law_spin) .none kV_law_spin dc_law_spin pm_law_spin an_law_spin cd_law_spin ct_law_spin), sl_law_spin⟩)
    (c_law_spin : PySem.W.codeIn K cd_law_spin "_law_spin" = true)
    (k_law_spin : PySem.W.keepIn K (.ref f_law_spin) = true)
    (a_law_drawn_targets : PySem.W.nsIn K mainGlobals "_law_drawn_targets" = some (some (.ref f_law_drawn_targets)))
    (l_law_drawn_targets : K.lookup f_law_drawn_targets = some ⟨oc_law_drawn_targets, od_law_drawn_targets, .func (PySem.W.fnOf "_law_drawn_targets" "_law_drawn_targets" (defArgs s_law_drawn_targets) (defBody s_law_drawn_targets) (defScope s_law_drawn_targets) .none kV_law_drawn_targets dc_law_drawn_targets pm_law_drawn_targets an_law_drawn_targets cd_law_drawn_targets ct_law_drawn_targets), sl_law_drawn_targets⟩)
    (c_law_drawn_targets : PySem.W.codeIn K cd_law_drawn_targets "_law_drawn_targets" = true)
    (k_law_drawn_targets : PySem.W.keepIn K (.ref f_law_drawn_targets) = true)
    (a_law_drawn_flips : PySem.W.nsIn K mainGlobals "_law_drawn_flips" = some (some (.ref f_law_drawn_flips)))
    (l_law_drawn_flips : K.lookup f_law_drawn_flips = some ⟨oc_law_drawn_flips, od_law_drawn_flips, .func (PySem.W.fnOf "_law_drawn_flips" "_law_drawn_flips" (defArgs s_law_drawn_flips) (defBody s_law_drawn_flips) (defScope s_law_drawn_flips) .none kV_law_drawn_flips dc_law_drawn_flips pm_law_drawn_flips an_law_drawn_flips cd_law_drawn_flips ct_law_drawn_flips), sl_law_drawn_flips⟩)
    (c_law_drawn_flips : PySem.W.codeIn K cd_law_drawn_flips "_law_drawn_flips" = true)
    (k_law_drawn_flips : PySem.W.keepIn K (.ref f_law_drawn_flips) = true)
    (a_law_goes : PySem.W.nsIn K mainGlobals "_law_goes" = some (some (.ref f_law_goes)))
    (l_law_goes : K.lookup f_law_goes = some ⟨oc_law_goes, od_law_goes, .func (PySem.W.fnOf "_law_goes" "_law_goes" (defArgs s_law_goes) (defBody s_law_goes) (defScope s_law_goes) .none kV_law_goes dc_law_goes pm_law_goes an_law_goes cd_law_goes ct_law_goes), sl_law_goes⟩)
    (c_law_goes : PySem.W.codeIn K cd_law_goes "_law_goes" = true)
    (k_law_goes : PySem.W.keepIn K (.ref f_law_goes) = true)
    (a_law_great : PySem.W.nsIn K mainGlobals "_law_great" = some (some (.ref f_law_great)))
    (l_law_great : K.lookup f_law_great = some ⟨oc_law_great, od_law_great, .func (PySem.W.fnOf "_law_great" "_law_great" (defArgs s_law_great) (defBody s_law_great) (defScope s_law_great) .none kV_law_great dc_law_great pm_law_great an_law_great cd_law_great ct_law_great), sl_law_great⟩)
    (c_law_great : PySem.W.codeIn K cd_law_great "_law_great" = true)
    (k_law_great : PySem.W.keepIn K (.ref f_law_great) = true)
    (a_law_kept : PySem.W.nsIn K mainGlobals "_law_kept" = some (some (.ref f_law_kept)))
    (l_law_kept : K.lookup f_law_kept = some ⟨oc_law_kept, od_law_kept, .func (PySem.W.fnOf "_law_kept" "_law_kept" (defArgs s_law_kept) (defBody s_law_kept) (defScope s_law_kept) .none kV_law_kept dc_law_kept pm_law_kept an_law_kept cd_law_kept ct_law_kept), sl_law_kept⟩)
    (c_law_kept : PySem.W.codeIn K cd_law_kept "_law_kept" = true)
    (k_law_kept : PySem.W.keepIn K (.ref f_law_kept) = true)
    (a_law_small_right : PySem.W.nsIn K mainGlobals "_law_small_right" = some (some (.ref f_law_small_right)))
    (l_law_small_right : K.lookup f_law_small_right = some ⟨oc_law_small_right, od_law_small_right, .func (PySem.W.fnOf "_law_small_right" "_law_small_right" (defArgs s_law_small_right) (defBody s_law_small_right) (defScope s_law_small_right) .none kV_law_small_right dc_law_small_right pm_law_small_right an_law_small_right cd_law_small_right ct_law_small_right), sl_law_small_right⟩)
    (c_law_small_right : PySem.W.codeIn K cd_law_small_right "_law_small_right" = true)
    (k_law_small_right : PySem.W.keepIn K (.ref f_law_small_right) = true)
    (a_law_great_right : PySem.W.nsIn K mainGlobals "_law_great_right" = some (some (.ref f_law_great_right)))
    (l_law_great_right : K.lookup f_law_great_right = some ⟨oc_law_great_right, od_law_great_right, .func (PySem.W.fnOf "_law_great_right" "_law_great_right" (defArgs s_law_great_right) (defBody s_law_great_right) (defScope s_law_great_right) .none kV_law_great_right dc_law_great_right pm_law_great_right an_law_great_right cd_law_great_right ct_law_great_right), sl_law_great_right⟩)
    (c_law_great_right : PySem.W.codeIn K cd_law_great_right "_law_great_right" = true)
    (k_law_great_right : PySem.W.keepIn K (.ref f_law_great_right) = true)
    (a_law : PySem.W.nsIn K mainGlobals "law" = some (some (.ref f_law)))
    (l_law : K.lookup f_law = some ⟨oc_law, od_law, .func (PySem.W.fnOf "law" "law" (defArgs s_law) (defBody s_law) (defScope s_law) .none kV_law dc_law pm_law an_law cd_law ct_law), sl_law⟩)
    (c_law : PySem.W.codeIn K cd_law "law" = true)
    (k_law : PySem.W.keepIn K (.ref f_law) = true)
    (z_bool : PySem.W.nsIn K mainGlobals "bool" = some none)
    (z_enumerate : PySem.W.nsIn K mainGlobals "enumerate" = some none)
    (z_int : PySem.W.nsIn K mainGlobals "int" = some none)
    (z_isinstance : PySem.W.nsIn K mainGlobals "isinstance" = some none)
    (z_len : PySem.W.nsIn K mainGlobals "len" = some none)
    (z_list : PySem.W.nsIn K mainGlobals "list" = some none)
    (z_max : PySem.W.nsIn K mainGlobals "max" = some none)
    (z_min : PySem.W.nsIn K mainGlobals "min" = some none)
    (z_range : PySem.W.nsIn K mainGlobals "range" = some none)
    (z_repr : PySem.W.nsIn K mainGlobals "repr" = some none)
    (z_sorted : PySem.W.nsIn K mainGlobals "sorted" = some none)
    (y_MOST_BITS : PySem.W.nsIn K mainGlobals "MOST_BITS" = some (some (.int 100 t_MOST_BITS))) :
    ∃ fd : FuncData, (∀ (s : Shared) (v : Value), BindsTo s fd ⟨[v], []⟩ [("script", v)]) ∧ ∀ base : Heap, K.In base → base.Ns mainGlobals mg → FnG l.prog w K mg base CX0 10 fa fd ["script"] (sp_law K) := by
  have e := hfa.symm.trans (PySem.W.mg_of X G a_law)
  cases e
  have T : Txt K mg CT := { n_bool := PySem.W.mg_none_of X G z_bool, n_enumerate := PySem.W.mg_none_of X G z_enumerate, n_int := PySem.W.mg_none_of X G z_int, n_isinstance := PySem.W.mg_none_of X G z_isinstance, n_len := PySem.W.mg_none_of X G z_len, n_list := PySem.W.mg_none_of X G z_list, n_max := PySem.W.mg_none_of X G z_max, n_min := PySem.W.mg_none_of X G z_min, n_range := PySem.W.mg_none_of X G z_range, n_repr := PySem.W.mg_none_of X G z_repr, n_sorted := PySem.W.mg_none_of X G z_sorted, m_MOST_BITS := ⟨_, PySem.W.mg_of X G y_MOST_BITS, ⟨_, rfl⟩⟩, m_Turn := PySem.W.mg_of X G aCT }
  have ct : TurnText K mg CT := { cl := ⟨cpg, chd, cpo, csa⟩, nT := cnT, nF := cnF, ca := cca, cn := ccn, ct := cct, cm := ccm, kc := ckc, mT := PySem.W.mg_of X G aCT, isC := cis, tyC := cty, sub := sub7 csNoneType csint csbool csstr cslist cstuple csdict }
  have F_is_integer := fun_mk (st := s_is_integer) l_is_integer c_is_integer k_is_integer
  have b_is_integer := F_is_integer.binds (ps := ["value"]) fun _ _ _ _ _ _ us hl => match us, hl with | [_], _ => rfl
  have F_is_between := fun_mk (st := s_is_between) l_is_between c_is_between k_is_between
  have b_is_between := F_is_between.binds (ps := ["value", "least", "greatest"]) fun _ _ _ _ _ _ us hl => match us, hl with | [_, _, _], _ => rfl
  have F_check_place := fun_mk (st := s_check_place) l_check_place c_check_place k_check_place
  have b_check_place := F_check_place.binds (ps := ["place", "bits"]) fun _ _ _ _ _ _ us hl => match us, hl with | [_, _], _ => rfl
  have F_Turn_init := fun_mk (st := s_Turn_init) l_Turn_init c_Turn_init k_Turn_init
  have b_Turn_init := F_Turn_init.binds (ps := ["self", "targets", "flips"]) fun _ _ _ _ _ _ us hl => match us, hl with | [_, _, _], _ => rfl
  have F_Turn_bits := fun_mk (st := s_Turn_bits) l_Turn_bits c_Turn_bits k_Turn_bits
  have b_Turn_bits := F_Turn_bits.binds (ps := ["self"]) fun _ _ _ _ _ _ us hl => match us, hl with | [_], _ => rfl
  have F_Turn_targets := fun_mk (st := s_Turn_targets) l_Turn_targets c_Turn_targets k_Turn_targets
  have b_Turn_targets := F_Turn_targets.binds (ps := ["self"]) fun _ _ _ _ _ _ us hl => match us, hl with | [_], _ => rfl
  have F_Turn_flips := fun_mk (st := s_Turn_flips) l_Turn_flips c_Turn_flips k_Turn_flips
  have b_Turn_flips := F_Turn_flips.binds (ps := ["self"]) fun _ _ _ _ _ _ us hl => match us, hl with | [_], _ => rfl
  have F_Turn_goes_to := fun_mk (st := s_Turn_goes_to) l_Turn_goes_to c_Turn_goes_to k_Turn_goes_to
  have b_Turn_goes_to := F_Turn_goes_to.binds (ps := ["self", "place"]) fun _ _ _ _ _ _ us hl => match us, hl with | [_, _], _ => rfl
  have F_Turn_eq := fun_mk (st := s_Turn_eq) l_Turn_eq c_Turn_eq k_Turn_eq
  have b_Turn_eq := F_Turn_eq.binds (ps := ["self", "other"]) fun _ _ _ _ _ _ us hl => match us, hl with | [_, _], _ => rfl
  have F_check_targets := fun_mk (st := s_check_targets) l_check_targets c_check_targets k_check_targets
  have b_check_targets := F_check_targets.binds (ps := ["targets"]) fun _ _ _ _ _ _ us hl => match us, hl with | [_], _ => rfl
  have F_law_wound := fun_mk (st := s_law_wound) l_law_wound c_law_wound k_law_wound
  have b_law_wound := F_law_wound.binds (ps := ["script", "k"]) fun _ _ _ _ _ _ us hl => match us, hl with | [_, _], _ => rfl
  have F_law_spin := fun_mk (st := s_law_spin) l_law_spin c_law_spin k_law_spin
  have b_law_spin := F_law_spin.binds (ps := ["reel", "many"]) fun _ _ _ _ _ _ us hl => match us, hl with | [_, _], _ => rfl
  have F_law_drawn_targets := fun_mk (st := s_law_drawn_targets) l_law_drawn_targets c_law_drawn_targets k_law_drawn_targets
  have b_law_drawn_targets := F_law_drawn_targets.binds (ps := ["reel", "bits"]) fun _ _ _ _ _ _ us hl => match us, hl with | [_, _], _ => rfl
  have F_law_drawn_flips := fun_mk (st := s_law_drawn_flips) l_law_drawn_flips c_law_drawn_flips k_law_drawn_flips
  have b_law_drawn_flips := F_law_drawn_flips.binds (ps := ["reel", "bits"]) fun _ _ _ _ _ _ us hl => match us, hl with | [_, _], _ => rfl
  have F_law_goes := fun_mk (st := s_law_goes) l_law_goes c_law_goes k_law_goes
  have b_law_goes := F_law_goes.binds (ps := ["targets", "flips", "place"]) fun _ _ _ _ _ _ us hl => match us, hl with | [_, _, _], _ => rfl
  have F_law_great := fun_mk (st := s_law_great) l_law_great c_law_great k_law_great
  have b_law_great := F_law_great.binds (ps := ["reel"]) fun _ _ _ _ _ _ us hl => match us, hl with | [_], _ => rfl
  have F_law_kept := fun_mk (st := s_law_kept) l_law_kept c_law_kept k_law_kept
  have b_law_kept := F_law_kept.binds (ps := ["targets", "flips"]) fun _ _ _ _ _ _ us hl => match us, hl with | [_, _], _ => rfl
  have F_law_small_right := fun_mk (st := s_law_small_right) l_law_small_right c_law_small_right k_law_small_right
  have b_law_small_right := F_law_small_right.binds (ps := ["reel"]) fun _ _ _ _ _ _ us hl => match us, hl with | [_], _ => rfl
  have F_law_great_right := fun_mk (st := s_law_great_right) l_law_great_right c_law_great_right k_law_great_right
  have b_law_great_right := F_law_great_right.binds (ps := ["reel"]) fun _ _ _ _ _ _ us hl => match us, hl with | [_], _ => rfl
  have F_law := fun_mk (st := s_law) l_law c_law k_law
  have b_law := F_law.binds (ps := ["script"]) fun _ _ _ _ _ _ us hl => match us, hl with | [_], _ => rfl
  refine ⟨PySem.W.fnOf "law" "law" (defArgs s_law) (defBody s_law) (defScope s_law) .none kV_law dc_law pm_law an_law cd_law ct_law, fun s v => .of_eq rfl, fun base _ _ => ?_⟩
  have o_law_wound : Cal l.prog w K mg base "_law_wound" 1 (sp_law_wound K) := ⟨⟨f_law_wound, _, _, ok_law_wound (P := l.prog) (w := w) (base := base) F_law_wound T, PySem.W.mg_of X G a_law_wound, k_law_wound, b_law_wound⟩⟩
  have o_law_spin : Cal l.prog w K mg base "_law_spin" 1 (sp_law_spin K) := ⟨⟨f_law_spin, _, _, ok_law_spin (P := l.prog) (w := w) (base := base) F_law_spin T, PySem.W.mg_of X G a_law_spin, k_law_spin, b_law_spin⟩⟩
  have o_law_drawn_targets : Cal l.prog w K mg base "_law_drawn_targets" 2 (sp_law_drawn_targets K) := ⟨⟨f_law_drawn_targets, _, _, ok_law_drawn_targets (P := l.prog) (w := w) (base := base) F_law_drawn_targets T o_law_spin, PySem.W.mg_of X G a_law_drawn_targets, k_law_drawn_targets, b_law_drawn_targets⟩⟩
  have o_law_drawn_flips : Cal l.prog w K mg base "_law_drawn_flips" 2 (sp_law_drawn_flips K) := ⟨⟨f_law_drawn_flips, _, _, ok_law_drawn_flips (P := l.prog) (w := w) (base := base) F_law_drawn_flips T o_law_spin, PySem.W.mg_of X G a_law_drawn_flips, k_law_drawn_flips, b_law_drawn_flips⟩⟩
  have o_law_goes : Cal l.prog w K mg base "_law_goes" 1 (sp_law_goes K) := ⟨⟨f_law_goes, _, _, ok_law_goes (P := l.prog) (w := w) (base := base) F_law_goes T, PySem.W.mg_of X G a_law_goes, k_law_goes, b_law_goes⟩⟩
  have o_is_integer : CalO l.prog w K mg base "is_integer" 1 (sp_is_integer K) := ⟨⟨f_is_integer, _, _, ok_is_integer (P := l.prog) (w := w) (base := base) F_is_integer T, PySem.W.mg_of X G a_is_integer, k_is_integer, b_is_integer⟩⟩
  have o_is_between : CalO l.prog w K mg base "is_between" 2 (sp_is_between K) := ⟨⟨f_is_between, _, _, ok_is_between (P := l.prog) (w := w) (base := base) F_is_between T o_is_integer, PySem.W.mg_of X G a_is_between, k_is_between, b_is_between⟩⟩
  have o_check_targets : CalO l.prog w K mg base "check_targets" 3 (sp_check_targets K) := ⟨⟨f_check_targets, _, _, ok_check_targets (P := l.prog) (w := w) (base := base) F_check_targets T o_is_between, PySem.W.mg_of X G a_check_targets, k_check_targets, b_check_targets⟩⟩
  have o_check_place : CalO l.prog w K mg base "check_place" 3 (sp_check_place K) := ⟨⟨f_check_place, _, _, ok_check_place (P := l.prog) (w := w) (base := base) F_check_place T o_is_between, PySem.W.mg_of X G a_check_place, k_check_place, b_check_place⟩⟩
  have tc : TurnT l.prog w K mg base CT := { tx := ct, init := ⟨f_Turn_init, _, _, ⟨cmk, a_Turn_init, i_Turn_init, ckc⟩, (ok_Turn_init (P := l.prog) (w := w) (base := base) F_Turn_init T ct o_is_between o_check_targets).mono (by decide), b_Turn_init⟩, bits := ⟨p_Turn_bits, f_Turn_bits, _, _, ⟨a_Turn_bits, g_Turn_bits, t_Turn_bits, rest_Turn_bits, r_Turn_bits⟩, (ok_Turn_bits (P := l.prog) (w := w) (base := base) F_Turn_bits T ct).mono (by decide), b_Turn_bits⟩, targets := ⟨p_Turn_targets, f_Turn_targets, _, _, ⟨a_Turn_targets, g_Turn_targets, t_Turn_targets, rest_Turn_targets, r_Turn_targets⟩, (ok_Turn_targets (P := l.prog) (w := w) (base := base) F_Turn_targets T ct).mono (by decide), b_Turn_targets⟩, flips := ⟨p_Turn_flips, f_Turn_flips, _, _, ⟨a_Turn_flips, g_Turn_flips, t_Turn_flips, rest_Turn_flips, r_Turn_flips⟩, (ok_Turn_flips (P := l.prog) (w := w) (base := base) F_Turn_flips T ct).mono (by decide), b_Turn_flips⟩, goes := ⟨f_Turn_goes_to, _, _, ⟨a_Turn_goes_to, i_Turn_goes_to, k_Turn_goes_to⟩, (ok_Turn_goes_to (P := l.prog) (w := w) (base := base) F_Turn_goes_to T ct o_check_place).mono (by decide), b_Turn_goes_to⟩, eq := ⟨f_Turn_eq, _, _, a_Turn_eq, i_Turn_eq, (ok_Turn_eq (P := l.prog) (w := w) (base := base) F_Turn_eq T ct).mono (by decide), b_Turn_eq⟩ }
  have o_law_kept : Cal l.prog w K mg base "_law_kept" 8 (sp_law_kept K CT) := ⟨⟨f_law_kept, _, _, ok_law_kept (P := l.prog) (w := w) (base := base) F_law_kept T tc, PySem.W.mg_of X G a_law_kept, k_law_kept, b_law_kept⟩⟩
  have o_law_small_right : Cal l.prog w K mg base "_law_small_right" 9 (sp_law_small_right K) := ⟨⟨f_law_small_right, _, _, ok_law_small_right (P := l.prog) (w := w) (base := base) F_law_small_right T o_law_spin o_law_drawn_targets o_law_drawn_flips o_law_goes o_law_kept tc, PySem.W.mg_of X G a_law_small_right, k_law_small_right, b_law_small_right⟩⟩
  have o_law_great : Cal l.prog w K mg base "_law_great" 3 (sp_law_great K) := ⟨⟨f_law_great, _, _, ok_law_great (P := l.prog) (w := w) (base := base) F_law_great T o_law_spin o_law_drawn_targets o_law_drawn_flips, PySem.W.mg_of X G a_law_great, k_law_great, b_law_great⟩⟩
  have o_law_great_right : Cal l.prog w K mg base "_law_great_right" 9 (sp_law_great_right K) := ⟨⟨f_law_great_right, _, _, ok_law_great_right (P := l.prog) (w := w) (base := base) F_law_great_right T o_law_spin o_law_goes o_law_great o_law_kept tc, PySem.W.mg_of X G a_law_great_right, k_law_great_right, b_law_great_right⟩⟩
  exact ok_law (P := l.prog) (w := w) (base := base) F_law T o_law_wound o_law_small_right o_law_great_right tc
theorem walk {l : PySem.W.OpenLaw} {q : Program} {loose : List Str} {XP : (Str → Option Value) → Heap → Prop} {YP : World → Heap → Prop} {d : DefRec} {K : Params → PySem.W.Frag} (hn : l.most = some 63) (hdf : d.params.defaults = [])
    (hY : ∀ (w : World) (h : Heap), YP w h → (K w.params).In h)
    (F : ∀ (w : World) (mg : Str → Option Value) (fa : Addr) (h : Heap), (K w.params).In h → h.Ns mainGlobals mg → mg d.name = some (.ref fa) →
      ∃ fd : FuncData, (∀ (s : Shared) (u : Value), BindsTo s fd ⟨[u], []⟩ [("script", u)]) ∧ ∀ base : Heap, (K w.params).In base → base.Ns mainGlobals mg → FnG l.prog w (K w.params) mg base CX0 10 fa fd ["script"] (sp_law (K w.params))) :
    PySem.W.WalkO q loose XP YP l.row.toRowW d [] (fun f vs => PySem.call f vs) :=
  walk_G (n := 63) (k := 10) (x := "script") (CX := fun _ => CX0) (sp := fun w => sp_law (K w.params)) hn (by decide) hdf ⟨rfl, by decide, by decide⟩ hY F (fun _ _ a ns _ _ _ hS => ⟨_, rfl, a, ns, rfl, hS, fun _ => rfl⟩) fun _ _ _ _ _ z => z

end L
open PySem PySem.W PyProof.Rows in
set_option maxRecDepth 100000 in
set_option maxHeartbeats 0 in
theorem PySem.Challenge.cw_indexturns_k01_places_by_bits_holds : PySem.Challenge.rw_indexturns_k01_places_by_bits.Holds := by
  w_on; o_law; k_head; (case hw => w_witness2)
  k_fill
  refine L.walk (l := PySem.Challenge.rw_indexturns_k01_places_by_bits) rfl rfl (fun w h Y => PySem.W.kIn_of Y) ?F
  case F =>
    intro w mg fa h KX G hmg
    refine' L.all_mk KX G hmg ?aCT ?cpg ?chd ?cpo ?csa ?cnT ?cnF ?cca ?ccn ?cct ?ccm ?ckc ?cis ?cty ?cmk ?csNoneType ?csint ?csbool ?csstr ?cslist ?cstuple ?csdict ?a_is_integer ?l_is_integer ?c_is_integer ?k_is_integer ?a_is_between ?l_is_between ?c_is_between ?k_is_between ?a_check_place ?l_check_place ?c_check_place ?k_check_place ?a_Turn_init ?i_Turn_init ?l_Turn_init ?c_Turn_init ?k_Turn_init ?a_Turn_bits ?g_Turn_bits ?t_Turn_bits ?r_Turn_bits ?l_Turn_bits ?c_Turn_bits ?k_Turn_bits ?a_Turn_targets ?g_Turn_targets ?t_Turn_targets ?r_Turn_targets ?l_Turn_targets ?c_Turn_targets ?k_Turn_targets ?a_Turn_flips ?g_Turn_flips ?t_Turn_flips ?r_Turn_flips ?l_Turn_flips ?c_Turn_flips ?k_Turn_flips ?a_Turn_goes_to ?i_Turn_goes_to ?l_Turn_goes_to ?c_Turn_goes_to ?k_Turn_goes_to ?a_Turn_eq ?i_Turn_eq ?l_Turn_eq ?c_Turn_eq ?k_Turn_eq ?a_check_targets ?l_check_targets ?c_check_targets ?k_check_targets ?a_law_wound ?l_law_wound ?c_law_wound ?k_law_wound ?a_law_spin ?l_law_spin ?c_law_spin ?k_law_spin ?a_law_drawn_targets ?l_law_drawn_targets ?c_law_drawn_targets ?k_law_drawn_targets ?a_law_drawn_flips ?l_law_drawn_flips ?c_law_drawn_flips ?k_law_drawn_flips ?a_law_goes ?l_law_goes ?c_law_goes ?k_law_goes ?a_law_great ?l_law_great ?c_law_great ?k_law_great ?a_law_kept ?l_law_kept ?c_law_kept ?k_law_kept ?a_law_small_right ?l_law_small_right ?c_law_small_right ?k_law_small_right ?a_law_great_right ?l_law_great_right ?c_law_great_right ?k_law_great_right ?a_law ?l_law ?c_law ?k_law ?z_bool ?z_enumerate ?z_int ?z_isinstance ?z_len ?z_list ?z_max ?z_min ?z_range ?z_repr ?z_sorted ?y_MOST_BITS
    (case aCT => k_is)
    (case cpg => k_is)
    (case chd => k_is)
    (case cpo => k_is)
    (case csa => k_is)
    (case cnT => k_is)
    (case cnF => k_is)
    (case cca => k_is)
    (case ccn => k_is)
    (case cct => k_is)
    (case ccm => k_is)
    (case ckc => k_is)
    (case cis => k_is)
    (case cty => k_is)
    (case cmk => k_is)
    (case csNoneType => k_is)
    (case csint => k_is)
    (case csbool => k_is)
    (case csstr => k_is)
    (case cslist => k_is)
    (case cstuple => k_is)
    (case csdict => k_is)
    (case a_is_integer => k_is)
    (case l_is_integer => k_is)
    (case c_is_integer => k_is)
    (case k_is_integer => k_is)
    (case a_is_between => k_is)
    (case l_is_between => k_is)
    (case c_is_between => k_is)
    (case k_is_between => k_is)
    (case a_check_place => k_is)
    (case l_check_place => k_is)
    (case c_check_place => k_is)
    (case k_check_place => k_is)
    (case a_Turn_init => k_is)
    (case i_Turn_init => k_is)
    (case l_Turn_init => k_is)
    (case c_Turn_init => k_is)
    (case k_Turn_init => k_is)
    (case a_Turn_bits => k_is)
    (case g_Turn_bits => k_is)
    (case t_Turn_bits => k_is)
    (case r_Turn_bits => k_is)
    (case l_Turn_bits => k_is)
    (case c_Turn_bits => k_is)
    (case k_Turn_bits => k_is)
    (case a_Turn_targets => k_is)
    (case g_Turn_targets => k_is)
    (case t_Turn_targets => k_is)
    (case r_Turn_targets => k_is)
    (case l_Turn_targets => k_is)
    (case c_Turn_targets => k_is)
    (case k_Turn_targets => k_is)
    (case a_Turn_flips => k_is)
    (case g_Turn_flips => k_is)
    (case t_Turn_flips => k_is)
    (case r_Turn_flips => k_is)
    (case l_Turn_flips => k_is)
    (case c_Turn_flips => k_is)
    (case k_Turn_flips => k_is)
    (case a_Turn_goes_to => k_is)
    (case i_Turn_goes_to => k_is)
    (case l_Turn_goes_to => k_is)
    (case c_Turn_goes_to => k_is)
    (case k_Turn_goes_to => k_is)
    (case a_Turn_eq => k_is)
    (case i_Turn_eq => k_is)
    (case l_Turn_eq => k_is)
    (case c_Turn_eq => k_is)
    (case k_Turn_eq => k_is)
    (case a_check_targets => k_is)
    (case l_check_targets => k_is)
    (case c_check_targets => k_is)
    (case k_check_targets => k_is)
    (case a_law_wound => k_is)
    (case l_law_wound => k_is)
    (case c_law_wound => k_is)
    (case k_law_wound => k_is)
    (case a_law_spin => k_is)
    (case l_law_spin => k_is)
    (case c_law_spin => k_is)
    (case k_law_spin => k_is)
    (case a_law_drawn_targets => k_is)
    (case l_law_drawn_targets => k_is)
    (case c_law_drawn_targets => k_is)
    (case k_law_drawn_targets => k_is)
    (case a_law_drawn_flips => k_is)
    (case l_law_drawn_flips => k_is)
    (case c_law_drawn_flips => k_is)
    (case k_law_drawn_flips => k_is)
    (case a_law_goes => k_is)
    (case l_law_goes => k_is)
    (case c_law_goes => k_is)
    (case k_law_goes => k_is)
    (case a_law_great => k_is)
    (case l_law_great => k_is)
    (case c_law_great => k_is)
    (case k_law_great => k_is)
    (case a_law_kept => k_is)
    (case l_law_kept => k_is)
    (case c_law_kept => k_is)
    (case k_law_kept => k_is)
    (case a_law_small_right => k_is)
    (case l_law_small_right => k_is)
    (case c_law_small_right => k_is)
    (case k_law_small_right => k_is)
    (case a_law_great_right => k_is)
    (case l_law_great_right => k_is)
    (case c_law_great_right => k_is)
    (case k_law_great_right => k_is)
    (case a_law => k_is)
    (case l_law => k_is)
    (case c_law => k_is)
    (case k_law => k_is)
    (case z_bool => k_is)
    (case z_enumerate => k_is)
    (case z_int => k_is)
    (case z_isinstance => k_is)
    (case z_len => k_is)
    (case z_list => k_is)
    (case z_max => k_is)
    (case z_min => k_is)
    (case z_range => k_is)
    (case z_repr => k_is)
    (case z_sorted => k_is)
    (case y_MOST_BITS => k_is)
