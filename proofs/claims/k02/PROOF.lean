import PyProof.Rows.All
import Wide.All
import OpenK.AllK
import Wide.FinOn
import HandS.ForMost
import HandS.Style
import HandS.IsInst
import HandS.EndBits
import HandS.MakeKwOnly
import KE.IntBitsLaws
import HandS.ExcInit
import HandS.ExcField
import HandS.ExcIs
import HandS.ExcValue
import KE.KExcIs
import KE.KExcInit
import HandS.Codes
import HandS.NoneIn
import HandS.Walk
import KE.KExcLine
import PySem.Challenge.RW_wiretongue_k02_refusals_and_options
set_option Elab.async false
set_option linter.all false
set_option maxRecDepth 100000
set_option maxHeartbeats 4000000
/-! promises of defs that may show things: what runs around holds nothing that is being shown -/
namespace Kit
open PySem PySem.Spec PyProof.Rows L2

/-- nothing is being shown -/
abbrev Qt (A : Around) : Prop := A.guards = some []
theorem Qt.deeper {A : Around} (h : Qt A) (env : Env) : Qt (A.deeper env) := h

structure FnG (P : Program) (w : World) (K : PySem.W.Frag) (mg : Str → Option Value)
    (base : Heap) (CX : CXT) (k : Nat) (f : Addr) (fd : FuncData) (ps : List Str) (sp : Sp) : Prop where
  len : ∀ vs H Q E, sp vs H Q E → vs.length = ps.length
  run : ∀ (A : Around) (outer : List Env) (s : Shared) (H : Hp) (args : Args) (us : List Value)
    (vs : List V) (Q : VK) (E : XK), Qt A → Room k A → Env0 P w K mg base A outer s H →
    BindsTo s fd args (ps.zip us) → Vals vs us → sp vs H Q E →
    codeAny (model P w) A (.call (.ref f) args) (CR CX outer P w H s Q E) s

section
variable {P : Program} {w : World} {K : PySem.W.Frag} {mg : Str → Option Value} {base : Heap} {CX : CXT}

theorem FnG.of {k : Nat} {f : Addr} {fd : FuncData} {ps : List Str} {sp : Sp}
    (F : FnOk P w K mg base CX k f fd ps sp) : FnG P w K mg base CX k f fd ps sp :=
  ⟨F.len, fun A outer s H args us vs Q E _ => F.run A outer s H args us vs Q E⟩

/-- by its body -/
theorem fn_ofG {k : Nat} {f : Addr} {name qual : Str} {params : Arguments} {body : List Stmt} {scope : Scope}
    {dV kV doc pm cdv ct oc : Value} {an od : Option Addr} {osl : Array (Option Value)} {N ps : List Str} {sp : Sp}
    (lk : K.lookup f = some ⟨oc, od, .func (PySem.W.fnOf name qual params body scope dV kV doc pm an cdv ct), osl⟩)
    (hcd : PySem.W.codeIn K cdv qual = true) (S : FnScope N ps scope)
    (len : ∀ vs H Q E, sp vs H Q E → vs.length = ps.length)
    (hbody : ∀ (A : Around) (outer : List Env) (s : Shared) (H : Hp) (vs : List V) (Q : VK) (E : XK),
      Qt (A.deeper (envOfC qual scope s.heap.objs.size f cdv)) →
      Room k (A.deeper (envOfC qual scope s.heap.objs.size f cdv)) → sp vs H Q E →
      ∃ t, PSs (cxOf CX P w K mg base N qual scope f cdv A outer s H E) body t ∧
        t { nx := fun _ H' => Q .non H', rt := Q } (start N vs) H) :
    FnG P w K mg base CX (k + 1) f (PySem.W.fnOf name qual params body scope dV kV doc pm an cdv ct) ps sp := by
  refine ⟨len, ?_⟩
  intro A outer s H args us vs Q E hq hr e0 hb r hsp
  have hl := len _ _ _ _ hsp
  have kept : ∀ b o, base.get? b = some o → s.heap.get? b = some o := fun b o e => (e0.bs b o e).1
  have KX : K.In s.heap := e0.mod.kin.keeps kept
  have lim : s.heap.NoLimit := e0.mod.nolimit.keeps kept
  have hkind : ∀ y ∈ ps.zip us, scope.names.lookup y.1 = some .local ∨
      (scope.names.lookup y.1 = some .cell ∧
        ((cellsFrom (s.heap.objs.size + 1) scope.names []).lookup y.1).isSome = true) := by
    intro y hy
    rcases S.par y.1 (List.of_mem_zip (a := y.1) (b := y.2) hy).1 with q | q
    · exact .inl q
    · exact .inr ⟨q, PySem.W.cellsFrom_some _ _ _ (.inl q)⟩
  refine codeAny_call_function hr.depth (KX _ _ lk) rfl S.co S.gen rfl
    (PySem.W.codeRec_of KX hcd) (hb _ _ _ _ ?_)
  refine wpAny_newFunctionEnv_cells S.kind hkind fun env he s1 x => ?_
  subst he
  refine ⟨lim.keeps x.toInCall.keep, codeAny_func ?_⟩
  obtain ⟨t, ht, go⟩ := hbody A outer s H vs Q E (hq.deeper _) (hr.deeper _) hsp
  have I : Inv (cxOf CX P w K mg base N qual scope f cdv A outer s H E) [] (start N vs) H s1 :=
    inv_start S hr.hd e0 hl r x
  refine wpAny_mono (ht.run [] s1 (start N vs) H _ I go) (fun fl s' hs => ?_) fun e s' hs => hs
  cases fl with
  | ret u =>
    obtain ⟨v, σ', H', J, rv, q⟩ := hs
    exact ⟨v, H', J.os, J.bare, J.base, J.hok, rv, q⟩
  | next =>
    obtain ⟨σ', H', J, q⟩ := hs
    exact ⟨V.non, H', J.os, J.bare, J.base, J.hok, rfl, q⟩
  | brk => obtain ⟨_, _, _, q⟩ := hs; exact False.elim q
  | cont => obtain ⟨_, _, _, q⟩ := hs; exact False.elim q
end

section
variable {X : Cx} {CX : CXT} {k : Nat} {f : Addr} {fd : FuncData} {ps : List Str} {sp : Sp} {ds : List Value} {dvs : List V} {E : XK}

theorem run_fnG {pins : List (Addr × Obj)} {σ : L2.St} {H : Hp} {s : Shared} {Q : VK} {us ws : List Value} {vs zs : List V} {ks : List Str}
    {g : List Value → List Value → List Value} {gV : List V → List V → List V}
    (F : FnG X.prog X.w X.K X.mg X.base CX k f fd ps sp) (hq : Qt X.A) (hr : Room k X.A)
    (hb : KBinds X.K fd ps ks g gV) (hx : Passes CX X E) (I : Inv X pins σ H s) (r : Vals vs us) (rz : Vals zs ws)
    (h : sp (gV vs zs) H Q E) :
    wpAny (model X.prog X.w) X.A (call (.ref f) us (ks.zip ws)) (EP X pins σ Q) X.xe s := by
  have r2 := hb.rel r rz
  have hl : (g us ws).length = ps.length := by
    rw [← r2.length]
    exact F.len _ _ _ _ h
  have z := F.run X.A X.stack s H ⟨us, ks.zip ws⟩ (g us ws) (gV vs zs) Q E hq hr I.env0 (hb.to s us ws I.kIn hl) r2 h
  refine wpAny_call (codeAny_mono z ?_)
  intro o s' ho
  match o, ho with
  | .error e, ho => exact hx pins σ H s e s' I ho
  | .ok (.ret u), ho => exact I.after ho
  | .ok .next, ho => exact False.elim ho
  | .ok .brk, ho => exact False.elim ho
  | .ok .cont, ho => exact False.elim ho

/-- all by their names, or nothing -/
def gK {α : Type} : List α → List α → List α
  | [], ws => ws
  | _ :: _, _ => []

/-- a def of the module that may be called by its name, all parameters given -/
structure Cal (P : Program) (w : World) (K : PySem.W.Frag) (mg : Str → Option Value)
    (base : Heap) (CX : CXT) (k : Nat) (x : Str) (ps : List Str) (sp : Sp) : Prop where
  ex : ∃ (f : Addr) (fd : FuncData), FnG P w K mg base CX k f fd ps sp ∧ mg x = some (.ref f) ∧
    PySem.W.keepIn K (.ref f) = true ∧ Binds K fd ps [] ∧
    (ps ≠ [] → KBinds K fd ps ps gK gK)

variable {x : Str} {p pos : Pos} {e : Expr} {es : List Expr} {kws : List Keyword} {t tk : TA} {j : Nat}

theorem kb_of {fd : FuncData} (hb : Binds X.K fd ps []) : KBinds X.K fd ps [] (fun us _ => us) (fun vs _ => vs) :=
  ⟨fun s us ws hK hl => by
    have z := hb s us hK (by rw [List.append_nil]; exact hl)
    rw [List.append_nil] at z
    exact z, fun r _ => r⟩

theorem pe_c (c : Cal X.prog X.w X.K X.mg X.base CX k x ps sp) (hx : Passes CX X E) (hq : Qt X.A) (hr : Room j X.A) (hk : k ≤ j)
    (hg : Gl X x) (ha : PA X (e :: es) t) (hdb : (x == ("__debug__" : Str)) = false := by decide)
    (he : starEach (e :: es) X.env = (false, eval e X.env) :: starEach es X.env := by rfl)
    (hpl : (backTo pos (starEach es X.env)).any (·.1) = false := by rfl) :
    PE X (.Call (.Name x p) (e :: es) [] pos) (tCall sp [] E t) := by
  obtain ⟨f, fd, F, hm, hkp, hb, _⟩ := c.ex
  constructor
  intro pins s σ H Q I h
  refine wpAny_Call_Name_kw (ld_glob I hg hm ?_ hdb)
  refine PySem.W.callWith_K (h₀ := X.base) I.ok.mod.kin hkp ?_ he hpl
  refine thn (ha.run pos pins s σ H _ I h) ?_
  rintro us s1 ⟨vs, H1, I1, r, q⟩
  rw [List.append_nil] at q
  exact ⟨I1.kIn, run_fnG (ks := []) (ws := []) F hq (hr.mono hk) (kb_of hb) hx I1 r .nil q⟩

theorem pe_c0 (c : Cal X.prog X.w X.K X.mg X.base CX k x ps sp) (hx : Passes CX X E) (hq : Qt X.A) (hr : Room j X.A) (hk : k ≤ j)
    (hg : Gl X x) (hdb : (x == ("__debug__" : Str)) = false := by decide) :
    PE X (.Call (.Name x p) [] [] pos) (tCall sp [] E tNil) := by
  obtain ⟨f, fd, F, hm, hkp, hb, _⟩ := c.ex
  constructor
  intro pins s σ H Q I h
  refine wpAny_Call_Name_kw (ld_glob I hg hm ?_ hdb)
  exact PySem.W.callWith_K0 I.kIn hkp (run_fnG (ks := []) (us := []) (ws := []) F hq (hr.mono hk) (kb_of hb) hx I .nil .nil h)

/-- all by their names, in the parameters' order -/
theorem pe_cK (c : Cal X.prog X.w X.K X.mg X.base CX k x ps sp) (hx : Passes CX X E) (hq : Qt X.A) (hr : Room j X.A) (hk : k ≤ j)
    (hg : Gl X x) (h0 : ps ≠ []) (hkw : PK X kws tk)
    (hall : (backToKw pos (keywordEach kws X.env)).all (·.1.isSome) = true := by rfl)
    (hks : (backToKw pos (keywordEach kws X.env)).filterMap (·.1) = ps := by rfl)
    (hdb : (x == ("__debug__" : Str)) = false := by decide)
    (hpl : ((backTo pos (starEach [] X.env)).any (·.1) || (backToKw pos (keywordEach kws X.env)).any (·.1.isNone)) = false := by rfl) :
    PE X (.Call (.Name x p) [] kws pos) (tCall sp [] E tk) := by
  obtain ⟨f, fd, F, hm, hkp, _, hb⟩ := c.ex
  constructor
  intro pins s σ H Q I h
  refine wpAny_Call_Name_kw (ld_glob I hg hm ?_ hdb)
  refine PySem.W.callWith_KW0 (h₀ := X.base) I.ok.mod.kin hkp hall ?_ hpl
  refine thn (hkw.run pos pins s σ H _ I h) ?_
  rintro ws s1 ⟨zs, H1, I1, r, q⟩
  rw [List.append_nil] at q
  refine ⟨I1.kIn, ?_⟩
  rw [hks]
  exact run_fnG (us := []) (vs := []) F hq (hr.mono hk) (hb h0) hx I1 .nil r q
end

section
variable {P : Program} {w : World} {K : PySem.W.Frag} {mg : Str → Option Value} {base : Heap}
theorem kb_all {fd : FuncData} {ps : List Str} (h0 : ps ≠ [])
    (h : ∀ ws : List Value, ws.length = ps.length → bindArgs fd ⟨[], ps.zip ws⟩ = pure (ps.zip ws)) : KBinds K fd ps ps gK gK where
  to := fun s us ws _ hl => by
    cases us with
    | nil => exact .of_eq (h ws hl)
    | cons u us =>
      exfalso
      cases ps with
      | nil => exact h0 rfl
      | cons y ps => cases hl
  rel := fun {vs us zs ws} r rz => by
    cases r with
    | nil => exact rz
    | cons _ _ => exact .nil
/-- a def by its body; nothing leaves it by a raise -/
theorem fng_of {x0 x : Str} {st : Stmt} {f : Addr} {fd : FuncData} {N ps : List Str} {k : Nat} {sp : Sp}
    (F : L2.Fun K x0 x st f fd)
    (S : FnScope N ps (defScope st)) (len : ∀ vs H Q E, sp vs H Q E → vs.length = ps.length)
    (hbody : ∀ (cdv : Value) (A : Around) (outer : List Env) (s : Shared) (H : Hp) (vs : List V) (Q : VK) (E : XK),
      Qt (A.deeper (envOfC x (defScope st) s.heap.objs.size f cdv)) →
      Room k (A.deeper (envOfC x (defScope st) s.heap.objs.size f cdv)) → sp vs H Q E →
      ∃ t, PSs (cxOf L2.CX0 P w K mg base N x (defScope st) f cdv A outer s H E).nox (defBody st) t ∧
        t { nx := fun _ H' => Q .non H', rt := Q } (start N vs) H) :
    FnG P w K mg base L2.CX0 (k + 1) f fd ps sp := by
  obtain ⟨oc, od, kV, doc, pm, an, cdv, ct, osl, rfl, lk, hcd⟩ := F.ex
  refine fn_ofG lk hcd S len ?_
  intro A outer s H vs Q E hq hr hsp
  obtain ⟨t, h, q⟩ := hbody cdv A outer s H vs Q E hq hr hsp
  exact ⟨t, h.nox, q⟩
theorem cal_of {x : Str} {st : Stmt} {f : Addr} {fd : FuncData} {N ps : List Str} {k : Nat} {sp : Sp}
    (F : L2.Fun K x x st f fd) (hm : mg x = some (.ref f)) (hb : Binds K fd ps []) (hkb : ps ≠ [] → KBinds K fd ps ps gK gK)
    (S : FnScope N ps (defScope st)) (len : ∀ vs H Q E, sp vs H Q E → vs.length = ps.length)
    (hbody : ∀ (cdv : Value) (A : Around) (outer : List Env) (s : Shared) (H : Hp) (vs : List V) (Q : VK) (E : XK),
      Qt (A.deeper (envOfC x (defScope st) s.heap.objs.size f cdv)) →
      Room k (A.deeper (envOfC x (defScope st) s.heap.objs.size f cdv)) → sp vs H Q E →
      ∃ t, PSs (cxOf L2.CX0 P w K mg base N x (defScope st) f cdv A outer s H E).nox (defBody st) t ∧
        t { nx := fun _ H' => Q .non H', rt := Q } (start N vs) H) :
    Cal P w K mg base L2.CX0 (k + 1) x ps sp :=
  ⟨f, fd, fng_of F S len hbody, hm, F.kp, hb, hkb⟩

/-- the law's call, from the world outside -/
theorem law_callG {mb : Str → Option Value} {CX : CXT} {k : Nat} {fa a : Addr} {fd : FuncData} {x : Str} {sp : Sp}
    {s₁ : Shared} {vs : List Value} {ns : List Int}
    (KX : K.In s₁.heap) (hns : s₁.heap.Ns mainGlobals mg) (hb : s₁.heap.Ns builtinsNs mb)
    (hbb : ∀ x : Str, x ≠ "__name__" → mb x = bootBuiltins x) (hlim : s₁.heap.NoLimit) (hg : s₁.gens = #[])
    (ha : s₁.heap.get? a = some { cls := .type "list", data := .seq vs.toArray }) (hi : IntsAre vs ns)
    (hl : ns.length ≤ sizeLine) (hr : Room k callerA)
    (F : ∀ base : Heap, K.In base → base.Ns mainGlobals mg → FnG P w K mg base CX k fa fd [x] sp)
    (hbind : ∀ (s : Shared) (u : Value), BindsTo s fd ⟨[u], []⟩ [(x, u)])
    (hsp : ∀ H : Hp, Only H → SqL K H a (ns.map V.int) → sp [.ref a] H (fun v _ => v = .bl true) fun _ _ _ => False)
    (hCX : ∀ H e s', CX [] H s₁ (fun _ _ _ => False) e s' → False) :
    codeAny (model P w) callerA (.call (.ref fa) ⟨[.ref a], []⟩)
      (fun r s' => r = .ok (.ret (.bool true)) ∧ OldK s₁.heap s'.heap ∧ s'.os = s₁.os ∧ AllBare s'.gens) s₁ := by
  have rv := vals_ints hi
  have lenV := hi.length
  -- over any abstract heap that tracks the script at most
  have inner : ∀ H : Hp, Only H → SqL K H a (ns.map V.int) → HOk P w H s₁.heap → (∀ b, H b ≠ none → b = a) →
      (H a ≠ none → K.lookup a = none) →
      codeAny (model P w) callerA (.call (.ref fa) ⟨[.ref a], []⟩)
        (fun r s' => r = .ok (.ret (.bool true)) ∧ OldK s₁.heap s'.heap ∧ s'.os = s₁.os ∧ AllBare s'.gens) s₁ := by
    intro H hO hS hok hA hK
    have one : ∀ {b : Addr} {u : HO}, H b = some u → b = a := fun {b u} z => hA b (by rw [z]; simp)
    have noD : ∀ {b : Addr} {o : Obj} {es : Array DictEntry} {ep : Nat},
        s₁.heap.get? b = some o → o.data = .dict es ep → H b = none := by
      intro b o es ep e d
      cases q : H b with
      | none => rfl
      | some u =>
        obtain rfl := one q
        rw [ha] at e
        cases e
        have d' : Data.seq vs.toArray _ = Data.dict es ep := d
        cases d'
    have nsK : ∀ {b : Addr} {m : Str → Option Value}, s₁.heap.Ns b m → (hidT s₁.heap H).Ns b m := by
      rintro b m ⟨o, es, ep, e, d, r⟩
      exact ⟨o, es, ep, hidT_get e (noD e d), d, r⟩
    have hKb : K.In (hidT s₁.heap H) := by
      intro b o e
      refine hidT_get (KX b o e) ?_
      cases q : H b with
      | none => rfl
      | some u =>
        obtain rfl := one q
        rw [hK (by rw [q]; simp)] at e
        cases e
    obtain ⟨mc, l1, l2⟩ := hlim
    have hM : Mod K mg (hidT s₁.heap H) := ⟨hKb, nsK hns, ⟨mb, nsK hb, hbb⟩, mc, nsK l1, l2⟩
    have no0 : ∀ b : Addr, b ∈ ([] : List Addr) → False := fun b z => by simp at z
    have e0 : Env0 P w K mg (hidT s₁.heap H) callerA [] s₁ H :=
      ⟨rfl, hM, fun b o e => of_hidT e, Nat.le_of_eq (hidT_size _ _), trivial, fun b z => (no0 b z).elim, hok, .of_eq hg⟩
    have go := (F _ hKb (nsK hns)).run callerA [] s₁ H ⟨[.ref a], []⟩ [.ref a] [.ref a] _ _ rfl hr e0
      (hbind s₁ (.ref a)) (.cons rfl .nil) (hsp H hO hS)
    refine codeAny_mono go ?_
    intro r s' h
    match r, h with
    | .error e, h => exact (hCX H e s' h).elim
    | .ok .next, h => exact False.elim h
    | .ok .brk, h => exact False.elim h
    | .ok .cont, h => exact False.elim h
    | .ok (.ret u), h =>
      obtain ⟨v, H', os, bare, un, hok', r', q⟩ := h
      have q' : v = .bl true := q
      subst q'
      obtain rfl : u = Value.bool true := r'
      refine ⟨rfl, OldK.of_keep ?_, os, bare⟩
      intro b o e
      cases q : H b with
      | none => exact un.keep b o e q (no0 b) (by simp)
      | some u =>
        rcases hO b with z | ⟨ob, xs, z⟩
        · rw [q] at z
          cases z
        · obtain ⟨e1, _⟩ := hok b _ z
          obtain ⟨e2, _⟩ := hok' b _ (un.frzs b ob _ z)
          rw [e] at e1
          cases e1
          exact e2
  cases hk : K.lookup a with
  | some o =>
    have e := KX a o hk
    rw [ha] at e
    cases e
    have sz : vs.toArray.size ≤ sizeLine := by
      rw [List.size_toArray, lenV]
      exact hl
    refine inner (fun _ => none) (fun _ => .inl rfl) (.inr ⟨_, vs.toArray, _, hk, rfl, rfl, rfl, sz, by simpa using rv⟩) ?_ ?_ ?_
    · intro b u z
      have z' : (none : Option HO) = some u := z
      cases z'
    · exact fun b z => absurd rfl z
    · exact fun z => absurd rfl z
  | none =>
    let u : HO := .frz { cls := .type "list", data := .seq vs.toArray } (.lst (ns.map V.int))
    have yes : ∀ {b : Addr}, b = a → (if b = a then some u else none) = some u := fun h => if_pos h
    have no : ∀ {b : Addr}, ¬ b = a → (if b = a then some u else none) = none := fun h => if_neg h
    refine inner (fun b => if b = a then some u else none) ?_ (.inl (.inr ⟨_, yes rfl⟩)) ?_ ?_ fun _ => hk
    · intro b
      by_cases hb : b = a
      · exact .inr ⟨_, _, yes hb⟩
      · exact .inl (no hb)
    · intro b v z
      by_cases hb : b = a
      · have z' := (yes hb).symm.trans z
        cases z'
        subst hb
        refine ⟨ha, ?_, vs, _, rv, ha⟩
        rw [List.length_map]
        exact hl
      · have z' := (no hb).symm.trans z
        cases z'
    · intro b z
      by_cases hb : b = a
      · exact hb
      · exact absurd (no hb) z
end

/-- the goal of the head, from the law's promise -/
theorem walk_ofG {l : PySem.W.OpenLaw} {n k : Nat} {q : Program} {loose : List Str} {XP : (Str → Option Value) → Heap → Prop}
    {YP : World → Heap → Prop} {d : DefRec} {K : Params → PySem.W.Frag} {CX : World → CXT} {sp : World → Sp} {x : Str}
    (hn : l.most = some n) (hn2 : n ≤ sizeLine) (hdf : d.params.defaults = []) (hr : Room k callerA)
    (hY : ∀ (w : World) (h : Heap), YP w h → (K w.params).In h)
    (F : ∀ (w : World) (mg : Str → Option Value) (fa : Addr) (h : Heap), (K w.params).In h → h.Ns mainGlobals mg →
      mg d.name = some (.ref fa) →
      ∃ fd : FuncData, (∀ (s : Shared) (u : Value), BindsTo s fd ⟨[u], []⟩ [(x, u)]) ∧
        ∀ base : Heap, (K w.params).In base → base.Ns mainGlobals mg → FnG l.prog w (K w.params) mg base (CX w) k fa fd [x] (sp w))
    (hsp : ∀ (w : World) (H : Hp) (a : Addr) (ns : List Int), ns.length ≤ n →
      (∀ z ∈ ns, Builtin.Int.intBits z ≤ 1048576) → Only H → SqL (K w.params) H a (ns.map V.int) →
      sp w [.ref a] H (fun v _ => v = .bl true) fun _ _ _ => False)
    (hCX : ∀ (w : World) (H : Hp) (s : Shared) (e : Value) (s' : Shared), CX w [] H s (fun _ _ _ => False) e s' → False) :
    PySem.W.WalkO q loose XP YP l.row.toRowW d [] (fun f vs => PySem.call f vs) := by
  refine Att.attach_callB hn hdf ?_
  intro w s₀ s₁ mg mb fa o pm cd doc a vs ns G Y ho hd hcd hmg hobj hints hlen hbits hg
  have KX := hY w _ Y
  obtain ⟨fd, hb, hF⟩ := F w mg fa _ KX G.T.g hmg
  exact law_callG KX G.T.g G.T.b G.T.builtins G.T.nolimit hg hobj hints (Nat.le_trans hlen hn2) hr hF hb
    (fun H hO hS => hsp w H a ns hlen hbits hO hS) fun H e s' => hCX w H s₁ e s'
end Kit

namespace Kit
open PySem PySem.Spec PyProof.Rows L2
section
variable {X : Cx}
/-- * of whole numbers, as great as the machine lets -/
theorem op_mulB : OpR X (binaryOp .Mult) (rI IntMulOk fun i j => .int (i * j)) :=
  opI fun i j t u s Q E hc q => mul_int q hc

/-- a text times a number -/
def rRepS : R2 := fun x y H Q => ∃ (z : Str) (k : Int), x = .str z ∧ y = .int k ∧ z.length ≤ 1000 ∧ 0 ≤ k ∧ k ≤ 1000 ∧ Q (.str (Txt.mul z k)) H
theorem op_repS : OpR X (binaryOp .Mult) rRepS := by
  intro pins s σ H x y v u Q I rx ry h
  obtain ⟨z, k, rfl, rfl, hz, h0, hk, q⟩ := h
  obtain ⟨t, rfl⟩ := rx
  obtain ⟨t', rfl⟩ := ry
  exact SB.mul (mulOk_of 1000 1000 hz hk (by omega) (by decide) (by decide)) fun t' k => ⟨.str _, H, I.tok _, ⟨_, rfl⟩, q⟩

/-- repr of lists and tuples of data -/
def rReprD (K : PySem.W.Frag) : List V → Hp → VK → Prop := fun xs H Q => ∃ (a : Addr) (d : PyData), xs = [.ref a] ∧ Dp K H (.ref a) d ∧
  d.showable = true ∧ d.hasDict = false ∧ d.depth ≤ 150 ∧ d.shown.length ≤ sizeLine ∧ Q (.str d.shown) H
theorem call_reprD (hq : Qt X.A) (hu : X.A.units + 200 < cLine) : CallR X (.builtin "repr") (rReprD X.K) := by
  intro pins s σ H xs us Q I r h
  obtain ⟨a, d, rfl, hd, hs, hn, hp, hz, q⟩ := h
  obtain ⟨u, rfl, ru⟩ := vals1 r
  obtain ⟨as, rd⟩ := Dp.reads I d _ _ hd ru
  obtain rfl : u = Value.ref a := ru
  refine repr_of_reads' rd hs (PyData.noDict_hsm hn) hq (by omega) (fun _ _ e => e) (fun h' u tk hk => ?_) hz
  exact ⟨.str _, H, I.kept hk, ⟨_, rfl⟩, q⟩

/-- a list of anything beside one without items -/
def rEqNil (K : PySem.W.Frag) : R2 := fun x y H Q => ∃ (a b : Addr) (xs : List V), x = .ref a ∧ y = .ref b ∧ SqL K H a xs ∧ SqL K H b [] ∧ Q (.bl xs.isEmpty) H
def rNeNil (K : PySem.W.Frag) : R2 := fun x y H Q => ∃ (a b : Addr) (xs : List V), x = .ref a ∧ y = .ref b ∧ SqL K H a xs ∧ SqL K H b [] ∧ Q (.bl (!xs.isEmpty)) H
theorem op_eqNil (hu : X.A.units + 200 < cLine) : OpR X (compareOp .Eq) (rEqNil X.K) := by
  intro pins s σ H x y v u Q I rx ry h
  obtain ⟨a, b, xs, rfl, rfl, ha, hb, q⟩ := h
  cases rx
  cases ry
  obtain ⟨its, r1, p1, _⟩ := I.list ha
  obtain ⟨its2, r2, p2, _⟩ := I.list hb
  cases r2
  cases xs with
  | nil =>
    cases r1
    exact SeqAt.eq_listAt (e := fun _ => true) p1.isList p2.isList rfl (by omega) (fun j h1 _ => absurd h1 (Nat.not_lt_zero j)) ⟨.bl true, H, I, rfl, q⟩
  | cons z zs =>
    cases r1
    exact SeqAt.eq_list_lengthsAt p1.isList p2.isList (by simp) (by omega) ⟨.bl false, H, I, rfl, q⟩
theorem op_neNil (hu : X.A.units + 200 < cLine) : OpR X (compareOp .NotEq) (rNeNil X.K) := by
  intro pins s σ H x y v u Q I rx ry h
  obtain ⟨a, b, xs, rfl, rfl, ha, hb, q⟩ := h
  cases rx
  cases ry
  obtain ⟨its, r1, p1, _⟩ := I.list ha
  obtain ⟨its2, r2, p2, _⟩ := I.list hb
  cases r2
  cases xs with
  | nil =>
    cases r1
    exact SeqAt.RcNeAt.lists (e := fun _ => true) p1.isList p2.isList rfl (by omega) (fun j h1 _ => absurd h1 (Nat.not_lt_zero j)) _ _ _ _ ⟨.bl false, H, I, rfl, q⟩
  | cons z zs =>
    cases r1
    exact SeqAt.RcNeAt.lists_lengths p1.isList p2.isList (by simp) (by omega) _ _ _ _ ⟨.bl true, H, I, rfl, q⟩

/-- a text from behind: what of it is told is its length -/
def tRevS (te : TE) : TE := fun σ H Q => te σ H fun x H1 => ∃ z : Str, x = .str z ∧ z.length ≤ sizeLine ∧ ∀ y : Str, y.length ≤ z.length → Q (.str y) H1
theorem pe_revS {e : Expr} {te : TE} {k : Nat} {p1 p2 p3 pos : Pos} (he : PE X e te)
    (hlt : ∀ (z : Str) (t : Tok) r, letTemporaryGo e (.str z t) r = pure () := by intro _ _ _; with_unfolding_all rfl) :
    PE X (.Subscript e (.Slice none none (some (.UnaryOp .USub (.Constant (.int 1) k p1) p2)) p3) pos) (tRevS te) := by
  constructor
  intro pins s σ H Q I h
  refine Subscript_ (thn (he.run pins s σ H _ I h) ?_)
  rintro v s1 ⟨x, H1, I1, r1, z, rfl, hz, q⟩
  obtain ⟨t, rfl⟩ := r1
  have hst : PO X (some (.UnaryOp .USub (.Constant (.int 1) k p1) p2)) (tPart (tUn (rU fun i => .int (-i)) (tC (.int 1)))) :=
    po_some (pe_un un_neg pe_int)
  refine wpAny_Slice (thn (po_none.run pins s1 σ H1 (fun o H2 => o = none ∧ H2 = H1) I1 ⟨rfl, rfl⟩) ?_)
  rintro vl s2 ⟨l, H2, I2, pl, rfl, rfl⟩
  refine thn (po_none.run pins s2 σ H2 (fun o H3 => o = none ∧ H3 = H2) I2 ⟨rfl, rfl⟩) ?_
  rintro vu s3 ⟨u, H3, I3, pu, rfl, rfl⟩
  refine thn (hst.run pins s3 σ H3 (fun o H4 => o = some (-1) ∧ H4 = H3) I3 ⟨1, rfl, -1, rfl, rfl, rfl⟩) ?_
  rintro vs s4 ⟨o, H4, I4, ps, rfl, rfl⟩
  cases pl
  cases pu
  cases ps with
  | int _ uk =>
    refine tail_of_ItemOn (ops := [.ref s4.heap.objs.size, .str z t]) ⟨"str", _, F.slot_str_getitem.lookup, typeIs_str _ _ _,
      wpAny_getItem_str_slice (l := none) (u := none) (st := some (-1, uk)) ⟨_, Heap.get?_push_size _ rfl, rfl, rfl⟩ rfl
        (post_val_or_str ⟨?_, ?_⟩)⟩ (by with_unfolding_all rfl) (hlt z t)
    · exact Nat.le_trans (Txt.sliceBy_le z none none (-1, uk) (by show (-1 : Int) ≠ 0; decide)) hz
    · intro t' c
      exact ⟨.str _, H4, I4.kept (fun b u e => Heap.get?_push_of_some _ e), ⟨_, rfl⟩, q _ (Txt.sliceBy_le z none none (-1, uk) (by show (-1 : Int) ≠ 0; decide))⟩

/-- the signs of a text, a text each -/
def sgV (z : Str) : List V := z.cps.toList.map fun c => .str ⟨#[c]⟩
theorem sgV_len (z : Str) : (sgV z).length = z.length := by
  unfold sgV
  rw [List.length_map, Array.length_toList]
  rfl
theorem vals_signs : ∀ (cs : List Nat) (us : List Value), us.length = cs.length → (∀ (j : Nat) (v : Value), us[j]? = some v → ∃ c t, cs[j]? = some c ∧ v = Value.str ⟨#[c]⟩ t) →
    Vals (cs.map fun c => V.str ⟨#[c]⟩) us
  | [], [], _, _ => .nil
  | [], _ :: _, h, _ => by cases h
  | _ :: _, [], h, _ => by cases h
  | c :: cs, u :: us, hl, h => by
    obtain ⟨c', t, e1, e2⟩ := h 0 u rfl
    have e1' : c = c' := Option.some.inj e1
    subst e1'
    exact .cons ⟨t, e2⟩ (vals_signs cs us (by simpa using hl) fun j v e => h (j + 1) v (by simpa using e))
/-- list(a text) -/
theorem call_listS (hc : X.calm = true) : CallR X (.type "list") (fun xs H Q => ∃ z : Str, xs = [.str z] ∧ z.length ≤ sizeLine ∧ ∀ l, H l = none → Q (.ref l) (upd H l (.lst (sgV z)))) := by
  intro pins s σ H xs us Q I r h
  obtain ⟨z, rfl, hz, q⟩ := h
  obtain ⟨u, rfl, t, rfl⟩ := vals1 r
  refine PySem.call_list_str (I.ok.hd hc) z t (fun h' tk acc c' kp e ia => ?_) hz
  have hv : Vals (sgV z) acc.toList := vals_signs _ _ (by rw [Array.length_toList, Array.length_toList]; exact ia.1) fun j v e => by
    obtain ⟨c, u, h1, h2⟩ := ia.2 j v (by rw [← Array.getElem?_toList]; exact e)
    exact ⟨c, u, by rw [Array.getElem?_toList]; exact h1, h2⟩
  exact ⟨.ref s.heap.objs.size, _, I.laid (t' := tk) kp (Nat.le_refl _)
    (show ObjOk X.prog X.w _ h' _ (.lst (sgV z)) from ⟨by rw [sgV_len]; exact hz, acc.toList, c', hv, by rw [Array.toArray_toList]; exact e⟩), rfl, q _ (I.hok.fresh (Nat.le_refl _))⟩
end

/-! ### a comprehension over the signs of a text -/
theorem lc_str {x : Str} {g : TG} {tt : TT} {te : TE} {vs : List Nat} {σ : L2.St} {H1 : Hp} {D : Addr} {Qd : Hp → Prop} (Pv : Nat → Hp → Prop)
    (h0 : Pv 0 (upd H1 D (.lst [])))
    (hs : ∀ i c H, x.cps.toList[i]? = some c → Pv i H → g (.str ⟨#[c]⟩) (wipe σ vs) H fun σ2 H2 => wipe σ2 vs = wipe σ vs ∧ tt σ2 H2 fun b H3 =>
      if b = true then te σ2 H3 fun y H4 => ∃ acc, H4 D = some (.lst acc) ∧ acc.length < sizeLine ∧ Pv (i + 1) (upd H4 D (.lst (acc ++ [y])))
      else Pv (i + 1) H3)
    (hd : ∀ H, Pv x.cps.size H → Qd H) :
    ∃ W : Nat → Nat → Hp → Prop, (∃ m, W 0 m (upd H1 D (.lst []))) ∧ ∀ i m H, W i m H →
      ((Its x).stop i H ∧ Qd H) ∨ ((Its x).go i H ∧ ∃ Nx : Hp → Prop, (∀ H', Nx H' → ∃ m', m' < m ∧ W (i + 1) m' H') ∧
        ∀ v H', (Its x).yld i H v H' → g v (wipe σ vs) H' fun σ2 H2 => wipe σ2 vs = wipe σ vs ∧ tt σ2 H2 fun b H3 =>
          if b = true then te σ2 H3 fun y H4 => ∃ acc, H4 D = some (.lst acc) ∧ acc.length < sizeLine ∧ Nx (upd H4 D (.lst (acc ++ [y]))) else Nx H3) := by
  refine ⟨fun i m H => m = x.cps.size - i ∧ i ≤ x.cps.size ∧ Pv i H, ⟨x.cps.size, rfl, Nat.zero_le _, h0⟩, ?_⟩
  rintro i m H ⟨rfl, hi, p⟩
  by_cases hlt : i < x.cps.size
  · refine .inr ⟨hlt, Pv (i + 1), fun H' q => ⟨x.cps.size - (i + 1), by omega, rfl, by omega, q⟩, ?_⟩
    rintro v H' ⟨rfl, c, e, rfl⟩
    exact hs i c H' (by rw [Array.getElem?_toList]; exact e) p
  · have e : i = x.cps.size := by omega
    subst e
    exact .inl ⟨Nat.le_refl _, hd H p⟩

theorem sgV_get {z : Str} {j : Nat} {x : V} (h : (sgV z)[j]? = some x) : ∃ k, x = .str ⟨#[k]⟩ ∧ z.cps.toList[j]? = some k := by
  unfold sgV at h
  rw [List.getElem?_map] at h
  cases q : z.cps.toList[j]? with
  | none =>
    rw [q] at h
    cases h
  | some k =>
    rw [q] at h
    exact ⟨k, (Option.some.inj h).symm, rfl⟩
/-! ### what may be drawn from: a list, a tuple, a text -/
inductive Sq (K : PySem.W.Frag) (H : Hp) : V → List V → Prop
  | lst {a : Addr} {xs : List V} (h : SqL K H a xs) : Sq K H (.ref a) xs
  | tup {a : Addr} {xs : List V} (h : SqT K H a xs) : Sq K H (.ref a) xs
  | str {z : Str} (h : z.length ≤ sizeLine) : Sq K H (.str z) (sgV z)
theorem atI_lt {α : Type} {xs : List α} {i : Int} {n : Nat} (h0 : 0 ≤ i) (h1 : i < (n : Int)) (hn : n = xs.length) : ∃ v, atI xs i = some v ∧ xs[i.toNat]? = some v := by
  subst hn
  obtain ⟨k, rfl⟩ := Int.eq_ofNat_of_zero_le h0
  have h2 : k < xs.length := by omega
  exact ⟨xs[k], atI_nat (List.getElem?_eq_getElem h2), List.getElem?_eq_getElem h2⟩

/-- a def of the module, as it stands behind the top -/
structure DefAt (K : PySem.W.Frag) (mg : Str → Option Value) (x : Str) (ps : List Str) (st : Stmt) (f : Addr) (fd : FuncData) : Prop where
  fn : L2.Fun K x x st f fd
  mgf : mg x = some (.ref f)
  bs : L2.Binds K fd ps []
  kbs : ps ≠ [] → KBinds K fd ps ps gK gK


theorem def_mk {K : PySem.W.Frag} {mg : Str → Option Value} {h : Heap} {x : Str} {ps : List Str} {st : Stmt} {f : Addr} {oc : Value} {od an : Option Addr} {osl : Array (Option Value)}
    {kV doc pm cdv ct : Value} (X : K.In h) (G : h.Ns mainGlobals mg) (a : PySem.W.nsIn K mainGlobals x = some (some (.ref f)))
    (l : K.lookup f = some ⟨oc, od, .func (PySem.W.fnOf x x (defArgs st) (defBody st) (defScope st) .none kV doc pm an cdv ct), osl⟩)
    (c : PySem.W.codeIn K cdv x = true) (k : PySem.W.keepIn K (.ref f) = true)
    (hb : ∀ (kV doc pm : Value) (an : Option Addr) (cdv ct : Value) (us : List Value), us.length = ps.length →
      bindArgs (PySem.W.fnOf x x (defArgs st) (defBody st) (defScope st) .none kV doc pm an cdv ct) ⟨us, []⟩ = pure (ps.zip us))
    (hk : ps ≠ [] → ∀ (kV doc pm : Value) (an : Option Addr) (cdv ct : Value) (ws : List Value), ws.length = ps.length →
      bindArgs (PySem.W.fnOf x x (defArgs st) (defBody st) (defScope st) .none kV doc pm an cdv ct) ⟨[], ps.zip ws⟩ = pure (ps.zip ws)) :
    DefAt K mg x ps st f (PySem.W.fnOf x x (defArgs st) (defBody st) (defScope st) .none kV doc pm an cdv ct) := by
  have F := fun_mk (st := st) l c k
  exact ⟨F, PySem.W.mg_of X G a, F.binds hb, fun h0 => kb_all h0 fun ws hl => hk h0 kV doc pm an cdv ct ws hl⟩

theorem room200 {A : Around} {k : Nat} (hr : Room k A) : A.units + 200 < cLine := by
  have h := hr.un
  omega

/-! ### heaps -/
theorem same_new {H : Hp} {p : Addr} {o : HO} (h : H p = none) : Same H (upd H p o) := fun b x e => by
  rw [upd_ne (ne_of_none e h)]
  exact e
theorem same_mut {H H' : Hp} {p : Addr} {o : HO} (s : Same H H') (h : H p = none) : Same H (upd H' p o) := fun b x e => by
  rw [upd_ne (ne_of_none e h)]
  exact s b x e
/-- all but two is as it was -/
def But (d c : Addr) (H H' : Hp) : Prop := ∀ b o, b ≠ d → b ≠ c → H b = some o → H' b = some o
theorem But.refl (d c : Addr) (H : Hp) : But d c H H := fun _ _ _ _ e => e
theorem But.trans {d c : Addr} {H H1 H2 : Hp} (a : But d c H H1) (b : But d c H1 H2) : But d c H H2 := fun x o h1 h2 e => b x o h1 h2 (a x o h1 h2 e)
theorem But.same {d c : Addr} {H H1 H2 : Hp} (a : But d c H H1) (b : Same H1 H2) : But d c H H2 := fun x o h1 h2 e => b x o (a x o h1 h2 e)
theorem But.of {d c : Addr} {H H1 : Hp} (b : Same H H1) : But d c H H1 := fun x o _ _ e => b x o e
theorem But.mut {d c p : Addr} {o : HO} {H H1 : Hp} (a : But d c H H1) (h : H p = none) : But d c H (upd H1 p o) := fun x u h1 h2 e => by
  rw [upd_ne (ne_of_none e h)]
  exact a x u h1 h2 e
theorem But.sql {K : PySem.W.Frag} {d c a : Addr} {H H1 : Hp} {xs : List V} (h : But d c H H1) (h1 : a ≠ d) (h2 : a ≠ c) (e : SqL K H a xs) : SqL K H1 a xs := by
  rcases e with (e | ⟨o, e⟩) | e
  · exact .inl (.inl (h _ _ h1 h2 e))
  · exact .inl (.inr ⟨o, h _ _ h1 h2 e⟩)
  · exact .inr e
theorem But.sqt {K : PySem.W.Frag} {d c a : Addr} {H H1 : Hp} {xs : List V} (h : But d c H H1) (h1 : a ≠ d) (h2 : a ≠ c) (e : SqT K H a xs) : SqT K H1 a xs := by
  rcases e with (e | ⟨o, e⟩) | e
  · exact .inl (.inl (h _ _ h1 h2 e))
  · exact .inl (.inr ⟨o, h _ _ h1 h2 e⟩)
  · exact .inr e
theorem But.sq {K : PySem.W.Frag} {d c : Addr} {H H1 : Hp} {v : V} {xs : List V} (h : But d c H H1) (h1 : v ≠ .ref d) (h2 : v ≠ .ref c) (e : Sq K H v xs) : Sq K H1 v xs := by
  cases e with
  | lst e => exact .lst (h.sql (fun z => h1 (by rw [z])) (fun z => h2 (by rw [z])) e)
  | tup e => exact .tup (h.sqt (fun z => h1 (by rw [z])) (fun z => h2 (by rw [z])) e)
  | str e => exact .str e
theorem Sq.lenV {K : PySem.W.Frag} {H : Hp} {v : V} {xs : List V} (h : Sq K H v xs) : LenV K v H xs.length := by
  cases h with
  | lst e => exact .inl ⟨_, e, rfl⟩
  | tup e => exact .inr ⟨_, e, rfl⟩
  | str e => exact ⟨e, sgV_len _⟩
/-- an item of it -/
theorem Sq.item {K : PySem.W.Frag} {H : Hp} {v y : V} {xs : List V} {i : Int} {Q : VK} (h : Sq K H v xs) (e : atI xs i = some y) (q : Q y H) : rIx K v (.int i) H Q := by
  cases h with
  | lst h => exact .inl ⟨_, _, _, _, rfl, rfl, h, e, q⟩
  | tup h => exact .inr (.inl ⟨_, _, _, _, rfl, rfl, h, e, q⟩)
  | @str z hz =>
    have e2 : (ixN (sgV z).length i).bind (fun j => (sgV z)[j]?) = some y := e
    have e3 : ∃ c, atI z.cps.toList i = some c ∧ y = .str ⟨#[c]⟩ := by
      unfold sgV at e2
      rw [List.length_map] at e2
      show ∃ c, (ixN z.cps.toList.length i).bind (fun j => z.cps.toList[j]?) = some c ∧ _
      cases q : ixN z.cps.toList.length i with
      | none =>
        rw [q] at e2
        cases e2
      | some j =>
        rw [q] at e2
        have e4 : (z.cps.toList.map fun c => V.str ⟨#[c]⟩)[j]? = some y := e2
        rw [List.getElem?_map] at e4
        show ∃ c, z.cps.toList[j]? = some c ∧ _
        cases q2 : z.cps.toList[j]? with
        | none =>
          rw [q2] at e4
          cases e4
        | some c =>
          rw [q2] at e4
          exact ⟨c, rfl, (Option.some.inj e4).symm⟩
    obtain ⟨c, h1, rfl⟩ := e3
    exact .inr (.inr ⟨z, i, c, rfl, rfl, hz, h1, q⟩)
end Kit

/-! methods over promises of the quiet kind; data made of tuples -/
namespace Kit
open PySem PySem.Spec PyProof.Rows L2
section
variable {X : Cx} {CX : CXT} {k j : Nat} {C : Addr} {m : Str} {ps : List Str} {sp : Sp} {E : XK} {o e : Expr} {es : List Expr} {ta : TE} {t : TA} {pos apos : Pos}
/-- a method of the class at C -/
structure Met (P : Program) (w : World) (K : PySem.W.Frag) (mg : Str → Option Value) (base : Heap) (CX : CXT) (k : Nat) (C : Addr) (m : Str) (ps : List Str) (sp : Sp) : Prop where
  cl : Cls K C
  ex : ∃ (f : Addr) (fd : FuncData), Meth K C m f ∧ FnG P w K mg base CX k f fd ps sp ∧ Binds K fd ps []
theorem pe_m {pl : Sem Bool} (c : Met X.prog X.w X.K X.mg X.base CX k C m ps sp) (hx : Passes CX X E) (hq : Qt X.A) (hr : Room j X.A) (hk : k ≤ j)
    (he : PE X o ta) (ha : PA X (e :: es) t)
    (hst : starEach (e :: es) X.env = (false, eval e X.env) :: starEach es X.env := by rfl)
    (hpl : (backTo pos (starEach es X.env)).any (·.1) = false := by rfl)
    (ht : eval (.Call (.Attribute o m apos) (e :: es) [] pos) X.env = (eval o X.env >>= fun ov => standAt apos.atName >>= fun _ =>
      holding [ov] (getMethod ov m pl) >>= fun q =>
        callWith pos q.1 q.2 (backTo pos (starEach (e :: es) X.env)) (backToKw pos (keywordEach [] X.env))) := by rfl) :
    PE X (.Call (.Attribute o m apos) (e :: es) [] pos) (tMeth C m sp [] E ta t) := by
  obtain ⟨f, fd, hm, F, hb⟩ := c.ex
  constructor
  intro pins s σ H Q I h
  refine PySem.W.methodCall_KW (pl := pl) (thn (he.run pins s σ H _ I h) ?_) ht
  rintro u s1 ⟨x, H1, I1, rx, a, dx, fs, rfl, ea, l, q⟩
  obtain rfl : u = Value.ref a := rx
  refine getmeth_ok I1 ea c.cl hm l ?_
  refine PySem.W.callWith_K (first := [.ref a]) (h₀ := X.base) I.ok.mod.kin hm.kp (thn (ha.run pos pins s1 σ H1 _ I1 q) ?_) hst hpl
  rintro us s2 ⟨vs, H2, I2, r, q2⟩
  rw [List.append_nil] at q2
  exact ⟨I2.kIn, run_fnG (ks := []) (ws := []) (us := .ref a :: us) (vs := .ref a :: vs) F hq (hr.mono hk) (kb_of hb) hx I2 (.cons rfl r) .nil q2⟩
theorem pe_m0 {pl : Sem Bool} (c : Met X.prog X.w X.K X.mg X.base CX k C m ps sp) (hx : Passes CX X E) (hq : Qt X.A) (hr : Room j X.A) (hk : k ≤ j)
    (he : PE X o ta)
    (ht : eval (.Call (.Attribute o m apos) [] [] pos) X.env = (eval o X.env >>= fun ov => standAt apos.atName >>= fun _ =>
      holding [ov] (getMethod ov m pl) >>= fun q =>
        callWith pos q.1 q.2 (backTo pos (starEach [] X.env)) (backToKw pos (keywordEach [] X.env))) := by rfl) :
    PE X (.Call (.Attribute o m apos) [] [] pos) (tMeth C m sp [] E ta tNil) := by
  obtain ⟨f, fd, hm, F, hb⟩ := c.ex
  constructor
  intro pins s σ H Q I h
  refine PySem.W.methodCall_KW (pl := pl) (thn (he.run pins s σ H _ I h) ?_) ht
  rintro u s1 ⟨x, H1, I1, rx, a, dx, fs, rfl, ea, l, q⟩
  obtain rfl : u = Value.ref a := rx
  refine getmeth_ok I1 ea c.cl hm l ?_
  exact PySem.W.callWith_K0 (first := [.ref a]) I1.kIn hm.kp (run_fnG (ks := []) (ws := []) (us := [.ref a]) (vs := [.ref a]) F hq (hr.mono hk) (kb_of hb) hx I1 (.cons rfl .nil) .nil q)
end
end Kit

/-! exceptions of own classes as plain values: made by places or names, their fields, what they are -/
namespace PySem
namespace Ex4
open PySem.W PySem.Calls PyProof.Rows PySem.HandSPX
open Builtin Builtin.ObjectAttr

section
variable {M : Model} {prog : Program} {w : World} {A : Around} {E : Value → Shared → Prop} {R : Result → Shared → Prop} {h : Heap} {g : Array GenState} {d : Drawn} {t : Nat} {os : OsState}
variable {nm q : Str} {C N : Addr} {bs bm bmB : List Value} {hdct : Bool} {sn : List Str} {sub : List Value} {ab : Bool} {col : Option Bool} {dd : Option Addr} {k0 k1 k2 k3 k5 : Option Value} {B newId initId : String}

theorem chk_new (F : ExcBaseFacts B newId initId bmB) (hT : bm.contains (.type B) = true ∧ bm.contains (.type "AttributeError") = false ∧ bm.contains (.type "NameError") = false) {rest : List Value} {kws : List (Str × Value)} {Q : Unit → Shared → Prop}
    (hC : h.get? C = some (excClassObj nm q C N bs bm hdct sn sub ab col dd k0 k1 k2 k3 k5 newId)) (hq : Q () ⟨h, g, d, t, os⟩) :
    wpAny M A (checkBuiltinCall newId ⟨.ref C :: rest, kws⟩) Q E ⟨h, g, d, t, os⟩ := by
  have c1 : (Value.ref C :: bm).contains (.type B) = true := by rw [List.contains_cons, hT.1, Bool.or_true]
  have c2 := F.noStar
  simp only [checkBuiltinCall, F.newKind, F.newSplit, F.newRow]
  repeat (first
    | refine wpAny_loadPart_at hC ?_
    | (refine wpAny_isSubtype_exc hC ?_
       rw [c1])
    | refine wpAny_staticBase_exc hC ?_
    | refine wpAny_madeBy_exc hC ?_
    | simp only [bne_self_eq_false, Bool.false_eq_true, if_false]
    | wp_step)
  exact hq

theorem chk_call {rest : List Value} {kws : List (Str × Value)} {Q : Unit → Shared → Prop}
    (hC : h.get? C = some (excClassObj nm q C N bs bm hdct sn sub ab col dd k0 k1 k2 k3 k5 newId)) (hq : Q () ⟨h, g, d, t, os⟩) :
    wpAny M A (checkBuiltinCall "type.__call__" ⟨.ref C :: rest, kws⟩) Q E ⟨h, g, d, t, os⟩ := by
  have c1 := tc_sub
  have c2 : (⟨h, g, d, t, os⟩ : Shared).TypeIs (.ref C) "type" := ⟨_, hC, rfl⟩
  simp only [checkBuiltinCall, tc_kind, tc_split]
  repeat (any_goals (first
    | assumption
    | with_reducible refine wpAny_loadPart_at hC ?_
    | with_reducible refine wpAny_onRaise ?_
    | with_reducible refine wpAny_map ?_
    | wp_step))

theorem new_kw (F : ExcBaseFacts B newId initId bmB) (hT : bm.contains (.type B) = true ∧ bm.contains (.type "AttributeError") = false ∧ bm.contains (.type "NameError") = false) {rest : List Value} {kws : List (Str × Value)}
    (hC : h.get? C = some (excClassObj nm q C N bs bm hdct sn sub ab col dd k0 k1 k2 k3 k5 newId)) (hz : rest.length ≤ sizeLine)
    (hq : R (.ok (.ret (.ref (h.objs.size + 1)))) ⟨(h.push (W.kdv_tup rest)).push (excO C h.objs.size), g, d, t, os⟩) :
    codeAny (model prog w) A (.builtin newId ⟨.ref C :: rest, kws⟩) R ⟨h, g, d, t, os⟩ := by
  have c0 := F.ends
  have c1 : (Value.ref C :: bm).contains (.type B) = true := by rw [List.contains_cons, hT.1, Bool.or_true]
  have c2 : (Value.ref C :: bm).contains (.type "AttributeError") = false := by rw [List.contains_cons, hT.2.1] <;> rfl
  have c3 : (Value.ref C :: bm).contains (.type "NameError") = false := by rw [List.contains_cons, hT.2.2] <;> rfl
  apply codeAny_builtinAt F.entry
  unfold Builtin.«BaseException.__new__»
  apply wpAt_bind
  change wpAt _ _ _ (stack >>= _) _ _ _
  refine wpAt_bind (wpAt_stack fun _ _ => wpAt_of_wpAny ?_)
  wp_walk
  apply wpAt_of_wpAny
  rw [F.owner]
  repeat (first
    | with_reducible refine wpAny_madeHere_exc F.canon hC ?_
    | with_reducible refine wpAny_loadPart_at hC ?_
    | (with_reducible refine wpAny_isSubtype_exc hC ?_
       first | rw [c1] | rw [c2] | rw [c3])
    | wp_step)
  change R _ _
  rw [Heap.size_push]
  exact hq

theorem type_kw (F : ExcBaseFacts B newId initId bmB) (hT : bm.contains (.type B) = true ∧ bm.contains (.type "AttributeError") = false ∧ bm.contains (.type "NameError") = false) {rest : List Value} {kws : List (Str × Value)} {fI : Addr} {Q : Fin → Shared → Prop}
    (hC : h.get? C = some (excClassObj nm q C N bs bm hdct sn sub ab col dd k0 k1 k2 k3 k5 newId)) (hz : rest.length ≤ sizeLine)
    (hi : W.Looks (model prog w) h (typeLookup (.ref C) "__init__") (some (.ref fI))) (hb : ∀ self, W.Looks (model prog w) h (bindSpecial (.ref fI) self) (.ref fI, [self]))
    (hq : codeAny (model prog w) A (.call (.ref fI) ⟨.ref (h.objs.size + 1) :: rest, kws⟩)
      (fun r s' => match r with | .ok (.ret v) => v = .none ∧ Q (.done (.ret (.ref (h.objs.size + 1)))) s' | .ok _ => False | .error e => E e s')
      ⟨(h.push (W.kdv_tup rest)).push (excO C h.objs.size), g, d, t, os⟩) :
    wpAny (model prog w) A (Builtin.«type.__call__» ⟨.ref C :: rest, kws⟩) Q E ⟨h, g, d, t, os⟩ := by
  repeat (first
    | with_reducible refine wpAny_loadPart_at hC ?_
    | with_reducible refine wpAny_madeBy_exc hC ?_
    | wp_step)
  refine codeAny_call_builtin_code (Code.quiet_builtin _ F.quiet) (chk_new F hT hC (new_kw F hT hC hz ?_))
  change wpAny _ _ _ _ _ _
  have kp : ∀ b o, h.get? b = some o → ((h.push (W.kdv_tup rest)).push (excO C h.objs.size)).get? b = some o :=
    fun b o e => Heap.get?_push_of_some _ (Heap.get?_push_of_some _ e)
  have C2 := kp _ _ hC
  have e2 : ((h.push (W.kdv_tup rest)).push (excO C h.objs.size)).get? (h.objs.size + 1) = some (excO C h.objs.size) := by heap_get
  have m2 : (Value.ref C :: bm).contains (.ref C) = true := by simp
  have i2 := hi.keeps kp
  have b2 := (hb (.ref (h.objs.size + 1))).keeps kp
  unfold isInstance
  repeat (first
    | with_reducible refine wpAny_loadPart_at e2 ?_
    | (with_reducible refine wpAny_isSubtype_exc C2 ?_
       rw [m2])
    | wp_step)
  change wpAny _ _ (typeLookup (.ref C) _) _ _ _
  refine i2.at (wpAny_holding (wpAny_bind (b2.at (wpAny_bind (wpAny_call (codeAny_mono hq ?_))))))
  intro r s' z
  match r, z with
  | .error e, z => exact z
  | .ok .next, z => exact False.elim z
  | .ok .brk, z => exact False.elim z
  | .ok .cont, z => exact False.elim z
  | .ok (.ret v), z =>
    obtain ⟨rfl, z⟩ := z
    first
      | exact wpAny_pure (wpAny_pure z)
      | (wp_walk
         exact z)

theorem call_kw (F : ExcBaseFacts B newId initId bmB) (hT : bm.contains (.type B) = true ∧ bm.contains (.type "AttributeError") = false ∧ bm.contains (.type "NameError") = false) {rest : List Value} {kws : List (Str × Value)} {fI : Addr}
    (hC : h.get? C = some (excClassObj nm q C N bs bm hdct sn sub ab col dd k0 k1 k2 k3 k5 newId)) (hz : rest.length ≤ sizeLine)
    (hi : W.Looks (model prog w) h (typeLookup (.ref C) "__init__") (some (.ref fI))) (hb : ∀ self, W.Looks (model prog w) h (bindSpecial (.ref fI) self) (.ref fI, [self]))
    (hq : codeAny (model prog w) (A.under (.builtin "type.__call__" ⟨.ref C :: rest, kws⟩)) (.call (.ref fI) ⟨.ref (h.objs.size + 1) :: rest, kws⟩) (W.InitBack (h.objs.size + 1) R)
      ⟨(h.push (W.kdv_tup rest)).push (excO C h.objs.size), g, d, t, os⟩) :
    codeAny (model prog w) A (.call (.ref C) ⟨rest, kws⟩) R ⟨h, g, d, t, os⟩ := by
  have c1 := tc_lookup
  have c2 := tc_bind (.ref C)
  have c3 : (⟨h, g, d, t, os⟩ : Shared).TypeIs (.ref C) "type" := ⟨_, hC, rfl⟩
  apply codeAny_of_tree
  change wpAny _ _ (callAny (.ref C) _) _ _ _
  repeat (any_goals (first
    | assumption
    | with_reducible refine wpAny_loadPart_at hC ?_
    | wp_step))
  refine ⟨rfl, codeAny_call_builtin_at (Code.quiet_builtin _ (by decide +kernel)) entry_typeCall (chk_call hC (type_kw F hT hC hz hi hb (codeAny_mono hq ?_)))⟩
  intro r s' z
  rcases r with e | (v | _ | _ | _) <;> exact z
end
end Ex4
end PySem

namespace PySem.F
theorem store_KeyError : StoreFacts "KeyError" [.type "KeyError", .type "LookupError", .type "Exception", .type "BaseException", .type "object"] "object.__setattr__" "object" where
  mro := by kernel_rfl
  slot := Slot.of (owner := "object") (n := "__setattr__")
    (by rw [typeLookup_type, builtinLookup_eq_fast]
        kernel_rfl)
    (by decide +kernel) (by decide +kernel) (by decide +kernel)
    (by first
          | exact .inl (by decide +kernel)
          | exact .inr (by decide +kernel))
    (by rw [isSubtype_type]
        kernel_rfl)
  entry := entry_object_sa
  kind := by decide +kernel
  split := by decide +kernel
  hasOwner := by decide +kernel
  args := store_ValueError.args
  passes := fun self => by kernel_rfl
end PySem.F
namespace L2
open PySem PySem.Spec PyProof.Rows
/-- what the written part says of an own class of exceptions that takes fields -/
structure ExK (K : PySem.W.Frag) (C : Addr) : Prop where
  base : ∃ (B S newId initId : String) (bF bmB : List Value), ExcBaseFacts B newId initId bF ∧ StoreFacts S bmB "object.__setattr__" "object" ∧
    (bmB.contains (.type B) = true ∧ bmB.contains (.type "AttributeError") = false ∧ bmB.contains (.type "NameError") = false) ∧
    PySem.W.excInitIn K C bmB newId = true ∧ PySem.W.excOver K C bmB = true
  sa : PySem.W.findIn K (.ref C) "__setattr__" = some (some (.builtin "object.__setattr__"))
  kC : PySem.W.keepIn K (.ref C) = true
  xf : XfC K C
/-- of such classes and those without fields: what isinstance asks -/
structure ExI (K : PySem.W.Frag) (C : Addr) : Prop where
  xf : XfC K C
  ca : PySem.W.findIn K (.ref C) "__class__" = some (some (.builtin "object.__class__"))
  cn : PySem.W.specialIn K (.builtin "object.__class__") "__get__" = some (some (.builtin "getset_descriptor.__get__"))
  ct : PySem.W.takesIn K (.builtin "object.__class__") = some true
  cm : PySem.W.mroIn K C (.type "object") = some true
section
variable {X : Cx} {pins : List (Addr × Obj)} {σ : L2.St} {H : Hp} {s : Shared} {a C dx : Addr} {f : Str} {y : V} {u : Value} {fs : List (Str × V)} {Q : Unit → Shared → Prop} {E : Value → Shared → Prop} {A : Around}
/-- the first field -/
theorem ex_new (T : ExK X.K C) (I : Inv X pins σ H s) (e : H a = some (exo a C none)) (hno : PySem.W.takerIn X.K C f = some none) (ry : RelV y u)
    (h : ∀ dx s', H dx = none → dx ≠ a → Inv X pins σ (upd (upd H dx (exd dx [(f, y)])) a (exo a C (some dx))) s' → Q () s') : wpAny (model X.prog X.w) A (setAttr (.ref a) f u) Q E s := by
  obtain ⟨B, S, newId, initId, bF, bmB, _, SF, _, _, hov⟩ := T.base
  obtain ⟨cd, hcl, hdd⟩ := PySem.W.any_some T.xf.hdC
  obtain ⟨t1, ho⟩ := exo_at I.hok e
  obtain ⟨hp, g, d, t, os⟩ := s
  have lt := Heap.lt_size ho
  refine PySem.W.set_plain I.kIn (od := none) ⟨ho, rfl, rfl, trivial⟩ T.sa (PySem.W.osa_openX (od := none) SF I.kIn ⟨ho, rfl, rfl, trivial⟩ hov hno fun b => ?_)
  have Lc : PySem.W.Looks (model X.prog X.w) hp (classData C) cd := PySem.W.looks_clsIn I.kIn hcl
  refine wpAny_bind (wpAny_pure (wpAny_bind (PySem.W.instanceDict_exc (s := ⟨hp, g, d, t + 1, os⟩) (c2 := .none) ho Lc hdd ?_)))
  have D0 : ((hp.push (PySem.W.dictOf [] 0)).update a fun o => { o with dict := some hp.objs.size }).Ns hp.objs.size (fun _ => none) :=
    ⟨_, #[], _, (Heap.get?_update_ne _ _ _ _ (Nat.ne_of_gt lt)).trans (Heap.get?_push_at rfl rfl), rfl, fun z hz => absurd hz (by simp), fun _ => rfl⟩
  refine PySem.HandSPX.store_in_new D0 fun h' tk' hn' hs => ?_
  have ne : hp.objs.size ≠ a := Nat.ne_of_gt lt
  have n0 : H hp.objs.size = none := I.hok.fresh (Nat.le_refl _)
  have ga : h'.get? a = some { cls := .ref C, dict := some hp.objs.size, data := .fields #[.ref t1, .none, .none, .none, .bool false, .none] } :=
    (hs.2 a (Ne.symm ne)).trans (Heap.get?_update_self _ (Heap.get?_push_of_some _ ho) rfl)
  have gb : ∀ b o, b ≠ a → hp.get? b = some o → h'.get? b = some o := fun b o hb hg =>
    (hs.2 b (Nat.ne_of_lt (Heap.lt_size hg))).trans ((Heap.get?_update_ne _ _ _ _ hb).trans (Heap.get?_push_of_some _ hg))
  have na : ∀ {b : Addr}, H b = none → b ≠ a := fun {b} n z => by
    rw [z, e] at n
    cases n
  have nd : ∀ {b : Addr} {o : Obj}, hp.get? b = some o → b ≠ hp.objs.size := fun {b o} z => Nat.ne_of_lt (Heap.lt_size z)
  refine h hp.objs.size _ n0 ne (I.un (t' := tk') (h' := h') ⟨?_, ?_, ?_, ?_, ?_, ?_, ?_⟩ fun b o q => ?_)
  · exact fun b o z n _ _ => gb b o (na n) z
  · exact fun b o z n _ _ => ⟨o.slots, gb b o (na n) z⟩
  · intro b o z n _
    rw [upd_ne (na n), upd_ne (nd z)]
    exact n
  · intro b o z _
    by_cases hb : b = a
    · subst hb
      exact ⟨_, ga⟩
    · exact ⟨o, gb b o hb z⟩
  · intro b xs z
    rw [upd_ne (at_ne e z exo_tup), upd_ne (ne_of_none z n0)]
    exact z
  · intro b o v z
    rw [upd_ne (at_ne e z exo_frz), upd_ne (ne_of_none z n0)]
    exact z
  · intro b ps z
    refine ⟨#[], ?_⟩
    rw [upd_ne (at_ne e z exo_tbl), upd_ne (ne_of_none z n0), z]
    simp
  · by_cases hb : b = a
    · subst hb
      rw [upd_same] at q
      cases q
      exact exo_ok ga
    · by_cases hd : b = hp.objs.size
      · subst hd
        rw [upd_ne hb, upd_same] at q
        cases q
        exact exd_ok hn' (relO_put (fs := []) ry fun _ => True.intro)
      · rw [upd_ne hb, upd_ne hd] at q
        refine (I.hok b o q).stay (fun c v hc z => gb c v ?_ z) (fun c hc => ?_) (fun c xs hc => ?_)
        · rcases hc with rfl | hc
          · exact hb
          · exact at_ne e hc exo_own
        · rw [upd_ne (at_ne e hc exo_own), upd_ne (ne_of_none hc n0)]
          exact hc
        · rw [upd_ne (at_ne e hc exo_tup), upd_ne (ne_of_none hc n0)]
          exact hc
/-- a further field -/
theorem ex_old (T : ExK X.K C) (I : Inv X pins σ H s) (e : H a = some (exo a C (some dx))) (ed : H dx = some (exd dx fs)) (hl : fs.length ≤ 900) (hno : PySem.W.takerIn X.K C f = some none) (ry : RelV y u)
    (h : ∀ s', Inv X pins σ (upd H dx (exd dx ((f, y) :: fs))) s' → Q () s') : wpAny (model X.prog X.w) A (setAttr (.ref a) f u) Q E s := by
  obtain ⟨B, S, newId, initId, bF, bmB, _, SF, _, _, hov⟩ := T.base
  obtain ⟨cd, hcl, hdd⟩ := PySem.W.any_some T.xf.hdC
  obtain ⟨t1, ho⟩ := exo_at I.hok e
  obtain ⟨mA, hns, rel⟩ := exd_at I.hok ed
  have hw := within_of rel
  obtain ⟨hp, g, d, t, os⟩ := s
  obtain ⟨oD, _, _, hoD, _, _⟩ := hns.count hw
  refine PySem.W.set_plain I.kIn (od := some oD) ⟨ho, rfl, rfl, hoD⟩ T.sa (PySem.W.osa_openX (od := some oD) SF I.kIn ⟨ho, rfl, rfl, hoD⟩ hov hno fun b => ?_)
  have Lc : PySem.W.Looks (model X.prog X.w) hp (classData C) cd := PySem.W.looks_clsIn I.kIn hcl
  refine wpAny_bind (wpAny_pure (wpAny_bind (wpAny_bind (wpAny_loadPart ho (wpAny_bind (Lc.here ?_))))))
  rw [hdd]
  refine wpAny_pure (a := some dx) (PySem.OEX.store_in_old hns hw (by rw [List.length_map]; omega) fun h' tk' hn hs => ?_)
  have there : ∃ o, h'.get? dx = some o := by
    obtain ⟨o, _, _, q, _⟩ := hn
    exact ⟨o, q⟩
  exact h _ (I.write (t' := tk') (h' := h') (x := dx) (e := dx) (o := exd dx ((f, y) :: fs)) (by rw [ed]; exact True.intro) (.inl rfl) (fun b o hb z => (hs.2 b hb).trans z) there (exd_ok hn (relO_put ry rel)))
end
/-- self.f = e in an own __init__ -/
def tExs (K : PySem.W.Frag) (f : Str) (to te : TE) : TS := fun D σ H => te σ H fun y H1 => to σ H1 fun x H2 => ∃ a C : Addr, x = .ref a ∧ ExK K C ∧ PySem.W.takerIn K C f = some none ∧
  ((H2 a = some (exo a C none) ∧ ∀ dx, H2 dx = none → dx ≠ a → D.nx σ (upd (upd H2 dx (exd dx [(f, y)])) a (exo a C (some dx)))) ∨
    ∃ (dx : Addr) (fs : List (Str × V)), H2 a = some (exo a C (some dx)) ∧ H2 dx = some (exd dx fs) ∧ fs.length ≤ 900 ∧ D.nx σ (upd H2 dx (exd dx ((f, y) :: fs))))
section
variable {X : Cx} {o e : Expr} {es : List Expr} {to te : TE} {ta : TA} {f : Str} {p p' p1 p2 pos : Pos}
theorem ps_exs (ho : PE X o to) (he : PE X e te) (hs : swapsWith e (some (.Attribute o f p')) pos.line X.env = pure false := by rfl) : PS X (.Assign [.Attribute o f p'] e pos) (tExs X.K f to te) := by
  constructor
  intro pins s σ H D I h
  refine plainObj_wpAny_Assign_Attribute (thn (he.run pins s σ H _ I h) ?_) hs
  rintro v s1 ⟨y, H1, I1, r1, q1⟩
  refine thn (ho.run pins s1 σ H1 _ I1 q1) ?_
  rintro u s2 ⟨x, H2, I2, r2, a, C, rfl, T, hno, q⟩
  obtain rfl : u = Value.ref a := r2
  rcases q with ⟨ea, q⟩ | ⟨dx, fs, ea, ed, hl, q⟩
  · exact ex_new T I2 ea hno r1 fun dx s' n ne J => ⟨σ, _, J, q dx n ne⟩
  · exact ex_old T I2 ea ed hl hno r1 fun s' J => ⟨σ, _, J, q⟩
end
end L2

namespace L2
open PySem PySem.Spec PyProof.Rows
section
variable {X : Cx} {CX : CXT} {k n : Nat} {fI C : Addr} {fd : FuncData} {ps ks : List Str} {sp : Sp} {E : XK} {x : Str} {p pos : Pos} {e : Expr} {es : List Expr} {kws : List Keyword} {t tk : TA}
  {g : List Value → List Value → List Value} {gV : List V → List V → List V}
/-- C(e, .., k = v, ..): an exception is laid, its own __init__ is called -/
theorem run_ex {pins : List (Addr × Obj)} {σ : L2.St} {H : Hp} {s : Shared} {Q : VK} {us ws : List Value} {vs zs : List V}
    (T : ExK X.K C) (iC : PySem.W.findIn X.K (.ref C) "__init__" = some (some (.ref fI))) (tI : PySem.W.typeIn X.K (.ref fI) = some (.type "function"))
    (F : FnOk X.prog X.w X.K X.mg X.base CX k fI fd ps sp) (hr : Room (k + 1) X.A) (hb : KBn X.K fd ps (n + 1) ks g gV) (hx : Passes CX X E)
    (I : Inv X pins σ H s) (r : Vals vs us) (rz : Vals zs ws) (l1 : vs.length = n) (l2 : zs.length = ks.length) (hn : n ≤ 1000)
    (h : ∀ a, H a = none → sp (gV (.ref a :: vs) zs) (upd H a (exo a C none)) (fun v H2 => v = .non ∧ Q (.ref a) H2) E) :
    wpAny (model X.prog X.w) X.A (call (.ref C) us (ks.zip ws)) (EP X pins σ Q) X.xe s := by
  obtain ⟨B, S, newId, initId, bF, bmB, FB, _, hT, hin, _⟩ := T.base
  obtain ⟨nm, N', qn, bs, bm, hdct, sn, sub, ab, col, dd, k0, k1, k2, k3, k5, hC, hbm⟩ := PySem.W.excInit_of I.kIn hin
  have hT2 : bm.contains (.type B) = true ∧ bm.contains (.type "AttributeError") = false ∧ bm.contains (.type "NameError") = false :=
    ⟨(hbm _).trans hT.1, (hbm _).trans hT.2.1, (hbm _).trans hT.2.2⟩
  obtain ⟨hp, gs, dr, tk', os⟩ := s
  have big : hp.objs.size ≤ hp.objs.size + 1 := Nat.le_succ _
  have hq := h (hp.objs.size + 1) (I.hok.fresh big)
  have kp : ∀ b o, hp.get? b = some o → ((hp.push (PySem.W.kdv_tup us)).push (PySem.HandSPX.excO C hp.objs.size)).get? b = some o :=
    fun b o z => Heap.get?_push_of_some _ (Heap.get?_push_of_some _ z)
  have ge : ((hp.push (PySem.W.kdv_tup us)).push (PySem.HandSPX.excO C hp.objs.size)).get? (hp.objs.size + 1) = some (PySem.HandSPX.excO C hp.objs.size) := by heap_get
  have J := I.laid (t' := tk') (a := hp.objs.size + 1) (o := exo (hp.objs.size + 1) C none) kp big (exo_ok ge)
  have rr : Vals (V.ref (hp.objs.size + 1) :: vs) (Value.ref (hp.objs.size + 1) :: us) := .cons rfl r
  have e1 : (Value.ref (hp.objs.size + 1) :: us).length = n + 1 := rr.length.symm.trans (congrArg Nat.succ l1)
  have e2 : ws.length = ks.length := rz.length.symm.trans l2
  have hz : us.length ≤ sizeLine := by
    have := r.length
    rw [sizeLine_eq]
    omega
  refine wpAny_call (PySem.Ex4.call_kw FB hT2 hC hz (PySem.W.looks_findIn I.kIn iC) (fun self => PySem.W.bind_fn I.kIn self tI) (codeAny_mono (F.run _ X.stack _ _ ⟨Value.ref (hp.objs.size + 1) :: us, ks.zip ws⟩
    (g (Value.ref (hp.objs.size + 1) :: us) ws) _ _ E (hr.make C us (ks.zip ws)) (J.env0.make C us (ks.zip ws)) (hb.to _ _ ws J.kIn e1 e2) (hb.rel rr rz) hq) ?_))
  intro r s' hq'
  match r, hq' with
  | .error er, hq' => exact hx pins σ _ _ er s' J hq'
  | .ok .next, hq' => exact False.elim hq'
  | .ok .brk, hq' => exact False.elim hq'
  | .ok .cont, hq' => exact False.elim hq'
  | .ok (.ret u), hq' =>
    obtain ⟨v, H', J3, rv, rfl, q3⟩ := J.after hq'
    exact ⟨rv, ⟨V.ref (hp.objs.size + 1), H', J3, rfl, q3⟩⟩

/-- the promise of such an __init__: each name gets its value -/
def spEx (C : Addr) (ns : List Str) : Sp := fun vs H Q _ => ∃ (a : Addr) (ys : List V), vs = .ref a :: ys ∧ ys.length = ns.length ∧ H a = some (exo a C none) ∧
  ∀ (d : Addr) (H' : Hp), H d = none → d ≠ a → H' a = some (exo a C (some d)) → H' d = some (exd d (ns.zip ys).reverse) → (∀ b, b ≠ a → b ≠ d → H' b = H b) → Q .non H'
/-- a new exception with its fields -/
def NewEx (C : Addr) (ns : List Str) (vs : List V) (H : Hp) (Q : VK) : Prop := vs.length = ns.length ∧ ∀ (a d : Addr) (H' : Hp), H a = none → H d = none → d ≠ a → H' a = some (exo a C (some d)) → H' d = some (exd d (ns.zip vs).reverse) →
  (∀ b, b ≠ a → b ≠ d → H' b = H b) → Q (.ref a) H'
/-- what is told of a class that makes exceptions with fields; ks: the names as some call gives them, pm: their order as the parameters have it -/
structure ExMk (P : Program) (w : World) (K : PySem.W.Frag) (mg : Str → Option Value) (base : Heap) (k : Nat) (x : Str) (C : Addr) (ns ks : List Str) (pm : {α : Type} → List α → List α) : Prop where
  ex : ExK K C
  mgx : mg x = some (.ref C)
  init : ∃ (fI : Addr) (fd : FuncData), PySem.W.findIn K (.ref C) "__init__" = some (some (.ref fI)) ∧ PySem.W.typeIn K (.ref fI) = some (.type "function") ∧
    FnOk P w K mg base L2.CX0 k fI fd (("self" : Str) :: ns) (spEx C ns) ∧
    KBn K fd (("self" : Str) :: ns) (ns.length + 1) [] (fun us _ => us) (fun vs _ => vs) ∧
    KBn K fd (("self" : Str) :: ns) 1 ks (fun us ws => us ++ pm ws) (fun vs zs => vs ++ pm zs)
  len : ∀ zs : List V, zs.length = ks.length → (pm zs).length = ns.length
  few : ns.length ≤ 1000
theorem newEx_of {H : Hp} {Q : VK} {ns : List Str} {ys : List V} {a : Addr} (ha : H a = none) (h : NewEx C ns ys H Q) :
    spEx C ns (.ref a :: ys) (upd H a (exo a C none)) (fun v H2 => v = .non ∧ Q (.ref a) H2) (fun _ _ _ => False) := by
  refine ⟨a, ys, rfl, h.1, upd_same, ?_⟩
  intro d H' hd hne h1 h2 h3
  rw [upd_ne hne] at hd
  refine ⟨rfl, h.2 a d H' ha hd hne h1 h2 fun b hb hb2 => ?_⟩
  rw [h3 b hb hb2, upd_ne hb]
def tEx (C : Addr) (ns : List Str) (t : TA) : TE := fun σ H Q => t σ H fun vs H1 => NewEx C ns vs H1 Q
def tExK (C : Addr) (ns ks : List Str) (pm : List V → List V) (t : TA) : TE := fun σ H Q => t σ H fun zs H1 => zs.length = ks.length ∧ NewEx C ns (pm zs) H1 Q
theorem pe_ex {ns : List Str} {pm : {α : Type} → List α → List α} {j : Nat} (M : ExMk X.prog X.w X.K X.mg X.base k x C ns ks pm) (hx : Passes L2.CX0 X (fun _ _ _ => False)) (hr : Room j X.A) (hk : k + 1 ≤ j) (hg : Gl X x) (ha : PA X (e :: es) t)
    (hdb : (x == ("__debug__" : Str)) = false := by decide) (he : starEach (e :: es) X.env = (false, eval e X.env) :: starEach es X.env := by rfl)
    (hpl : (backTo pos (starEach es X.env)).any (·.1) = false := by rfl) : PE X (.Call (.Name x p) (e :: es) [] pos) (tEx C ns t) := by
  obtain ⟨fI, fd, iC, tI, F, hb, _⟩ := M.init
  constructor
  intro pins s σ H Q I h
  refine wpAny_Call_Name_kw (ld_glob I hg M.mgx ?_ hdb)
  refine PySem.W.callWith_K (h₀ := X.base) I.ok.mod.kin M.ex.kC (thn (ha.run pos pins s σ H _ I h) ?_) he hpl
  rintro us s1 ⟨vs, H1, I1, r, q⟩
  exact ⟨I1.kIn, run_ex (ks := []) (ws := []) (zs := []) M.ex iC tI F (hr.mono hk) hb hx I1 r .nil q.1 rfl M.few fun a hn => newEx_of hn q⟩
theorem pe_exK {ns : List Str} {pm : {α : Type} → List α → List α} {j : Nat} (M : ExMk X.prog X.w X.K X.mg X.base k x C ns ks pm) (hx : Passes L2.CX0 X (fun _ _ _ => False)) (hr : Room j X.A) (hk : k + 1 ≤ j) (hg : Gl X x) (hkw : PK X kws tk)
    (hall : (backToKw pos (keywordEach kws X.env)).all (·.1.isSome) = true := by rfl)
    (hks : (backToKw pos (keywordEach kws X.env)).filterMap (·.1) = ks := by rfl)
    (hdb : (x == ("__debug__" : Str)) = false := by decide)
    (hpl : ((backTo pos (starEach [] X.env)).any (·.1) || (backToKw pos (keywordEach kws X.env)).any (·.1.isNone)) = false := by rfl) :
    PE X (.Call (.Name x p) [] kws pos) (tExK C ns ks pm tk) := by
  obtain ⟨fI, fd, iC, tI, F, _, hb⟩ := M.init
  constructor
  intro pins s σ H Q I h
  refine wpAny_Call_Name_kw (ld_glob I hg M.mgx ?_ hdb)
  refine PySem.W.callWith_KW0 (h₀ := X.base) I.ok.mod.kin M.ex.kC hall ?_ hpl
  refine thn (hkw.run pos pins s σ H _ I h) ?_
  rintro ws s1 ⟨zs, H1, I1, r, l, q⟩
  refine ⟨I1.kIn, ?_⟩
  rw [hks]
  exact run_ex (us := []) (vs := []) (n := 0) M.ex iC tI F (hr.mono hk) hb hx I1 .nil r rfl l (Nat.zero_le _) fun a hn => newEx_of hn q
/-- C() of a class without an own __init__ -/
theorem pe_ex0 {B newId initId : String} {bmB : List Value} (FB : ExcBaseFacts B newId initId bmB) (q0 : PySem.W.excIn X.K C bmB newId = true) (hm : X.mg x = some (.ref C)) (kC : PySem.W.keepIn X.K (.ref C) = true) (hg : Gl X x)
    (hdb : (x == ("__debug__" : Str)) = false := by decide) :
    PE X (.Call (.Name x p) [] [] pos) (fun _ H Q => ∀ a, H a = none → Q (.ref a) (upd H a (exo a C none))) := by
  constructor
  intro pins s σ H Q I h
  refine wpAny_Call_Name_kw (ld_glob I hg hm ?_ hdb)
  refine PySem.W.callWith_K0 I.kIn kC ?_
  change wpAny _ _ (call (.ref C) []) _ _ _
  obtain ⟨bm, N, nm, qn, bs, hdct, sn, sub, ab, col, dd, k0, k1, k2, k3, k5, mN, hC, hN, hni, T⟩ := exc_obj I.kIn q0
  refine wpAny_call_exc_subT FB T hC hN hni (fun h' a hm => ?_) (by show 0 ≤ sizeLine; exact Nat.zero_le _)
  have hn : H a = none := I.hok.gone hm.new
  obtain ⟨t, ht, _, _⟩ := hm.there
  exact ⟨.ref a, _, I.laidN hm.keeps hm.new hn (exo_ok ht), rfl, h a hn⟩
/-- e.f, a field of such an exception -/
def tExF (K : PySem.W.Frag) (f : Str) (te : TE) : TE := fun σ H Q => te σ H fun x H1 => ∃ (a C d : Addr) (fs : List (Str × V)) (v : V), x = .ref a ∧ H1 a = some (exo a C (some d)) ∧ H1 d = some (exd d fs) ∧
  XfC K C ∧ PySem.W.findIn K (.ref C) f = some none ∧ fs.lookup f = some v ∧ Q v H1
theorem inst_of {pins : List (Addr × Obj)} {σ : L2.St} {H : Hp} {s : Shared} {a d : Addr} {fs : List (Str × V)} (I : Inv X pins σ H s) (ea : H a = some (exo a C (some d))) (ed : H d = some (exd d fs)) :
    ∃ (ox od : Obj), PySem.W.InstAt s.heap a ox C (some od) ∧ ∀ f, ∃ o, PySem.W.lookIn f od = some o ∧ RelO (fs.lookup f) o := by
  obtain ⟨t1, ho⟩ := exo_at I.hok ea
  obtain ⟨mA, hns, rel⟩ := exd_at I.hok ed
  obtain ⟨od, hd, hl⟩ := lookIn_ns hns
  exact ⟨_, od, ⟨ho, rfl, rfl, hd⟩, fun f => ⟨mA f, hl f, rel f⟩⟩
theorem pe_exf {f : Str} {te : TE} (he : PE X e te) (hb : attributeBase e f X.env (eval e X.env) = eval e X.env := by rfl) : PE X (.Attribute e f pos) (tExF X.K f te) := by
  constructor
  intro pins s σ H Q I h
  refine attr_of hb (thn (he.run pins s σ H _ I h) ?_)
  rintro u s1 ⟨x, H1, I1, rx, a, C, d, fs, v, rfl, ea, ed, T, hno, l, q⟩
  obtain rfl : u = Value.ref a := rx
  obtain ⟨ox, od, J, hl⟩ := inst_of I1 ea ed
  obtain ⟨o, l1, l2⟩ := hl f
  obtain ⟨u, rfl, ru⟩ := RelO.some_of (v := v) (o := o) (by rw [← l]; exact l2)
  exact PySem.HandSPX.exc_get I1.kIn J T.ga T.gg T.exC (PySem.W.findObj_own T.hdC hno rfl (by rw [l1])) (handed_of ru) ⟨v, H1, I1.tok _, ru, q⟩
/-- at a: such an exception, with a dict or without one -/
def ExThere (H : Hp) (a C : Addr) : Prop := H a = some (exo a C none) ∨ ∃ d fs, H a = some (exo a C (some d)) ∧ H d = some (exd d fs)
theorem kit_ex {pins : List (Addr × Obj)} {σ : L2.St} {H : Hp} {s : Shared} {a : Addr} (I : Inv X pins σ H s) (T : ExI X.K C) (h : ExThere H a C) : ∃ Pr : Heap → Prop, PySem.W.KitX X.K (.ref a) (.ref C) Pr ∧ Pr s.heap := by
  have hcl : (PySem.W.clsIn X.K C).isSome = true := by
    obtain ⟨cd, hcl, _⟩ := PySem.W.any_some T.xf.hdC
    rw [hcl]
    rfl
  rcases h with ea | ⟨d, fs, ea, ed⟩
  · obtain ⟨t1, ho⟩ := exo_at I.hok ea
    exact ⟨_, PySem.W.kitx_exc (ox := _) (od := none) hcl T.xf.ga T.xf.gg T.xf.exC T.ca T.cn T.ct T.cm, ho, rfl, rfl, trivial⟩
  · obtain ⟨ox, od, J, _⟩ := inst_of I ea ed
    exact ⟨_, PySem.W.kitx_exc (ox := ox) (od := some od) hcl T.xf.ga T.xf.gg T.xf.exC T.ca T.cn T.ct T.cm, J⟩
/-- isinstance(e, c) -/
theorem call_isX : CallR X (.builtin "isinstance") (fun xs H Q => ∃ (a C : Addr) (c : V) (u : Value) (b : Bool), xs = [.ref a, c] ∧ ClsV c u ∧ ExThere H a C ∧ ExI X.K C ∧ PySem.W.kitOne X.K (.ref C) u = some b ∧ Q (.bl b) H) := by
  intro pins s σ H xs us Q I r h
  obtain ⟨a, C, c, u, b, rfl, k, hx, T, e, q⟩ := h
  obtain ⟨u1, u2, rfl, r1, r2⟩ := vals2 r
  obtain rfl := k.eq r2
  obtain rfl : u1 = Value.ref a := r1
  obtain ⟨Pr, Z, pr⟩ := kit_ex I T hx
  exact PySem.W.kia_one Z I.kIn pr e (fun z => nomatch z) fun tk => ⟨.bl b, H, I.tok tk, rfl, q⟩
theorem call_isXT : CallR X (.builtin "isinstance") (fun xs H Q => ∃ (a C tp : Addr) (cs : List V) (us : List Value) (b : Bool), xs = [.ref a, .ref tp] ∧ H tp = some (.tup cs) ∧ Paired ClsV cs us ∧ ExThere H a C ∧ ExI X.K C ∧ PySem.W.kitAny X.K (.ref C) us = some b ∧ Q (.bl b) H) := by
  intro pins s σ H xs us Q I r h
  obtain ⟨a, C, tp, cs, ws, b, rfl, hT, k, hx, T, e, q⟩ := h
  obtain ⟨u1, u2, rfl, r1, r2⟩ := vals2 r
  obtain rfl : u1 = Value.ref a := r1
  obtain rfl : u2 = Value.ref tp := r2
  obtain ⟨Pr, Z, pr⟩ := kit_ex I T hx
  have ot : ObjOk X.prog X.w H s.heap tp (.tup cs) := I.hok tp _ hT
  obtain ⟨_, its, rv, o, h1, h2, n, h3⟩ := ot
  obtain rfl := ClsV.all k rv
  cases o with
  | mk oc od dt sl =>
    simp only at h2 h3
    subst h2 h3
    exact PySem.W.kia_tup Z I.kIn pr h1 e (fun z => nomatch z) fun tk => ⟨.bl b, H, I.tok tk, rfl, q⟩
end
end L2

namespace K02
open PySem PySem.Spec PyProof.Rows L2 Kit
def topS (i : Nat) : Stmt := PySem.Challenge.pw_wiretongue_k02_refusals_and_options.main.body.getD i (.Pass ⟨0, 0, 0, 0⟩)
abbrev s_Fault_init : Stmt := inClass (topS 2) 0
abbrev N_Fault_init : List Str := ["self", "stage", "module", "place"]
theorem S_Fault_init : FnScope N_Fault_init ["self", "stage", "module", "place"] (defScope s_Fault_init) := ⟨rfl, rfl, rfl, by decide +kernel, rfl, by decide +kernel, by decide +kernel⟩
abbrev s_Nested_init : Stmt := inClass (topS 3) 0
abbrev N_Nested_init : List Str := ["self", "ring"]
theorem S_Nested_init : FnScope N_Nested_init ["self", "ring"] (defScope s_Nested_init) := ⟨rfl, rfl, rfl, by decide +kernel, rfl, by decide +kernel, by decide +kernel⟩
abbrev s_Ring_init : Stmt := inClass (topS 4) 0
abbrev N_Ring_init : List Str := ["self", "ring"]
theorem S_Ring_init : FnScope N_Ring_init ["self", "ring"] (defScope s_Ring_init) := ⟨rfl, rfl, rfl, by decide +kernel, rfl, by decide +kernel, by decide +kernel⟩
abbrev s_NoRoom_init : Stmt := inClass (topS 5) 0
abbrev N_NoRoom_init : List Str := ["self", "many"]
theorem S_NoRoom_init : FnScope N_NoRoom_init ["self", "many"] (defScope s_NoRoom_init) := ⟨rfl, rfl, rfl, by decide +kernel, rfl, by decide +kernel, by decide +kernel⟩
abbrev s_TooMany_init : Stmt := inClass (topS 8) 0
abbrev N_TooMany_init : List Str := ["self", "most"]
theorem S_TooMany_init : FnScope N_TooMany_init ["self", "most"] (defScope s_TooMany_init) := ⟨rfl, rfl, rfl, by decide +kernel, rfl, by decide +kernel, by decide +kernel⟩
abbrev s_NoText_init : Stmt := inClass (topS 9) 0
abbrev N_NoText_init : List Str := ["self", "place"]
theorem S_NoText_init : FnScope N_NoText_init ["self", "place"] (defScope s_NoText_init) := ⟨rfl, rfl, rfl, by decide +kernel, rfl, by decide +kernel, by decide +kernel⟩
abbrev s_NoName_init : Stmt := inClass (topS 10) 0
abbrev N_NoName_init : List Str := ["self", "name"]
theorem S_NoName_init : FnScope N_NoName_init ["self", "name"] (defScope s_NoName_init) := ⟨rfl, rfl, rfl, by decide +kernel, rfl, by decide +kernel, by decide +kernel⟩
abbrev s_NoPath_init : Stmt := inClass (topS 11) 0
abbrev N_NoPath_init : List Str := ["self", "path"]
theorem S_NoPath_init : FnScope N_NoPath_init ["self", "path"] (defScope s_NoPath_init) := ⟨rfl, rfl, rfl, by decide +kernel, rfl, by decide +kernel, by decide +kernel⟩
abbrev s_l_deck : Stmt := topS 18
abbrev N_l_deck : List Str := ["_law_script", "_law_cells", "_law_seed", "_law_cell"]
theorem S_l_deck : FnScope N_l_deck ["_law_script"] (defScope s_l_deck) := ⟨rfl, rfl, rfl, by decide +kernel, rfl, by decide +kernel, by decide +kernel⟩
abbrev s_l_draw : Stmt := topS 19
abbrev N_l_draw : List Str := ["_law_deck_here", "_law_sides", "_law_at", "_law_mixed", "_law_cell"]
theorem S_l_draw : FnScope N_l_draw ["_law_deck_here", "_law_sides"] (defScope s_l_draw) := ⟨rfl, rfl, rfl, by decide +kernel, rfl, by decide +kernel, by decide +kernel⟩
abbrev s_l_pick : Stmt := topS 20
abbrev N_l_pick : List Str := ["_law_deck_here", "_law_some"]
theorem S_l_pick : FnScope N_l_pick ["_law_deck_here", "_law_some"] (defScope s_l_pick) := ⟨rfl, rfl, rfl, by decide +kernel, rfl, by decide +kernel, by decide +kernel⟩
abbrev s_l_families : Stmt := topS 21
abbrev N_l_families : List Str := ["_law_e", "_law_found"]
theorem S_l_families : FnScope N_l_families ["_law_e"] (defScope s_l_families) := ⟨rfl, rfl, rfl, by decide +kernel, rfl, by decide +kernel, by decide +kernel⟩
abbrev s_l_all : Stmt := topS 22
abbrev N_l_all : List Str := ["_law_deck_here", "_law_some", "_law_a", "_law_b", "_law_c", "_law_k", "_law_made", "_law_heard_so", "_law_e", "_law_due"]
theorem S_l_all : FnScope N_l_all ["_law_deck_here"] (defScope s_l_all) := ⟨rfl, rfl, rfl, by decide +kernel, rfl, by decide +kernel, by decide +kernel⟩
abbrev s_law : Stmt := topS 23
abbrev N_law : List Str := ["_law_script", "_law_deck_here", "_law_turn", "_law_made", "_law_heard_so", "_law_due", "_law_k", "_law_pair", "_law_here", "_law_at", "_law_e"]
theorem S_law : FnScope N_law ["_law_script"] (defScope s_law) := ⟨rfl, rfl, rfl, by decide +kernel, rfl, by decide +kernel, by decide +kernel⟩
structure Bi (mg : Str → Option Value) : Prop where
  isinstance_ : mg "isinstance" = none
  len_ : mg "len" = none
  list_ : mg "list" = none
  range_ : mg "range" = none
  repr_ : mg "repr" = none
  enumerate_ : mg "enumerate" = none
  ValueError_ : mg "ValueError" = none
  KeyError_ : mg "KeyError" = none
  IndexError_ : mg "IndexError" = none
  TypeError_ : mg "TypeError" = none
/-! ### the deck -/
abbrev big : Int := 170141183460469231731687303715884105727
def deckKv (c : Addr) (sd : Int) (t : Nat) : List (L2.Key × V) := [(.inr "cells", .ref c), (.inr "seed", .int sd), (.inr "at", .int (t : Int))]
structure Deck (H : Hp) (d c : Addr) (t : Nat) : Prop where
  ex : ∃ (cs : List Int) (sd : Int), H d = some (.dK (deckKv c sd t)) ∧ H c = some (.lst (cs.map V.int)) ∧ 0 ≤ sd ∧ sd < big ∧ cs.length ≤ 63 ∧
    ∀ z ∈ cs, Builtin.Int.intBits z ≤ 1048576


theorem put_at (c : Addr) (sd : Int) (t : Nat) (v : V) : putK (deckKv c sd t) (Sum.inr "at") v = [(.inr "cells", .ref c), (.inr "seed", .int sd), (.inr "at", v)] := by
  rfl
theorem get_at (c : Addr) (sd : Int) (t : Nat) : valV (deckKv c sd t) (Sum.inr "at") = some (.int (t : Int)) := rfl
theorem get_seed (c : Addr) (sd : Int) (t : Nat) : valV (deckKv c sd t) (Sum.inr "seed") = some (.int sd) := rfl
theorem get_cells (c : Addr) (sd : Int) (t : Nat) : valV (deckKv c sd t) (Sum.inr "cells") = some (.ref c) := rfl
theorem sl3 (c : Addr) (sd : Int) (t : Nat) : (deckKv c sd t).length < sizeLine := by
  show 3 < sizeLine
  decide

/-- what the draw makes of it is small again -/
theorem bits_lt {x : Int} {n : Nat} (h0 : 0 ≤ x) (h : x < 2 ^ n) : Builtin.Int.intBits x ≤ n := by
  refine PySem.intBits_le_iff.mpr ?_
  have e : ((2 ^ n : Nat) : Int) = (2 : Int) ^ n := by rw [Int.natCast_pow]; rfl
  have h2 : x < ((2 ^ n : Nat) : Int) := by rw [e]; exact h
  omega
theorem bits_add {x y : Int} {n : Nat} (hx : Builtin.Int.intBits x ≤ n) (hy : Builtin.Int.intBits y ≤ n) : Builtin.Int.intBits (x + y) ≤ n + 1 := by
  have h1 := PySem.intBits_le_iff.mp hx
  have h2 := PySem.intBits_le_iff.mp hy
  refine PySem.intBits_le_iff.mpr ?_
  have e : 2 ^ (n + 1) = 2 ^ n + 2 ^ n := by rw [Nat.pow_succ]; omega
  rw [e]
  omega

theorem snoc {α : Type} (cs : List α) : cs = [] ∨ ∃ l x, cs = l ++ [x] := by
  rcases List.eq_nil_or_concat cs with h | ⟨l, x, h⟩
  · exact .inl h
  · exact .inr ⟨l, x, by rw [h, List.concat_eq_append]⟩
theorem pos_big : (0 : Int) < 170141183460469231731687303715884105727 := by decide
theorem dp_ints {K : PySem.W.Frag} {H : Hp} : ∀ ns : List Int, DpAll K H (ns.map V.int) (ns.map PyData.int)
  | [] => .nil
  | n :: ns => .cons (.int n) (dp_ints ns)
def spDraw : Sp := fun vs H Q _ => ∃ (d c : Addr) (n : Int) (t : Nat), vs = [.ref d, .int n] ∧ 1 ≤ n ∧ n < 1000000000 ∧ Deck H d c t ∧ t < 1000000000000 ∧
  ∀ (r : Int) (H' : Hp), 0 ≤ r → r < n → But d c H H' → Deck H' d c (t + 1) → Q (.int r) H'

/-! ### heaps and the deck -/
theorem Deck.ne {H : Hp} {d c : Addr} {t : Nat} (h : Deck H d c t) : d ≠ c := by
  obtain ⟨cs, sd, h1, h2, _⟩ := h.ex
  exact ne_of h1 h2 (by intro z; cases z)
theorem Deck.keep {H H' : Hp} {d c : Addr} {t : Nat} (h : Deck H d c t) (hd : ∀ o, H d = some o → H' d = some o) (hc : ∀ o, H c = some o → H' c = some o) : Deck H' d c t := by
  obtain ⟨cs, sd, h1, h2, h3⟩ := h.ex
  exact ⟨cs, sd, hd _ h1, hc _ h2, h3⟩
theorem Deck.same {H H' : Hp} {d c : Addr} {t : Nat} (h : Deck H d c t) (s : Same H H') : Deck H' d c t := h.keep (fun o e => s _ o e) (fun o e => s _ o e)
theorem Deck.here {H : Hp} {d c : Addr} {t : Nat} (h : Deck H d c t) : H d ≠ none ∧ H c ≠ none := by
  obtain ⟨cs, sd, h1, h2, _⟩ := h.ex
  rw [h1, h2]
  exact ⟨fun z => (by cases z), fun z => (by cases z)⟩
theorem Deck.mut {H : Hp} {d c p : Addr} {o : HO} {t : Nat} (h : Deck H d c t) (n1 : d ≠ p) (n2 : c ≠ p) : Deck (upd H p o) d c t :=
  h.keep (fun o e => by rw [upd_ne n1]; exact e) (fun o e => by rw [upd_ne n2]; exact e)
theorem Deck.new {H : Hp} {d c p : Addr} {o : HO} {t : Nat} (h : Deck H d c t) (n : H p = none) : Deck (upd H p o) d c t := h.same (same_new n)
theorem Deck.free {H : Hp} {d c p : Addr} {t : Nat} (h : Deck H d c t) (n : H p = none) : p ≠ d ∧ p ≠ c :=
  ⟨fun z => h.here.1 (by rw [← z]; exact n), fun z => h.here.2 (by rw [← z]; exact n)⟩

/-! ### promises -/
def spDeck (K : PySem.W.Frag) : Sp := fun vs H Q _ => ∃ (a : Addr) (ns : List Int), vs = [.ref a] ∧ SqL K H a (ns.map V.int) ∧ ns.length ≤ 63 ∧
  (∀ z ∈ ns, Builtin.Int.intBits z ≤ 1048576) ∧ ∀ (d c : Addr) (H' : Hp), Same H H' → H d = none → H c = none → Deck H' d c 0 → Q (.ref d) H'
def spPick (K : PySem.W.Frag) : Sp := fun vs H Q _ => ∃ (d c : Addr) (t : Nat) (v : V) (xs : List V), vs = [.ref d, v] ∧ Sq K H v xs ∧ 1 ≤ xs.length ∧ xs.length < 1000000000 ∧
  v ≠ .ref d ∧ v ≠ .ref c ∧ Deck H d c t ∧ t < 1000000000000 ∧
  ∀ (i : Nat) (x : V) (H' : Hp), xs[i]? = some x → But d c H H' → Deck H' d c (t + 1) → Q x H'
section
variable {P : Program} {w : World} {K : PySem.W.Frag} {mg : Str → Option Value} {base : Heap}
theorem ok_draw {f : Addr} {fd : FuncData} (D : DefAt K mg "_law_draw" ["_law_deck_here", "_law_sides"] s_l_draw f fd) :
    Cal P w K mg base L2.CX0 1 "_law_draw" ["_law_deck_here", "_law_sides"] spDraw := by
  have S := S_l_draw
  refine cal_of D.fn D.mgf D.bs D.kbs S (fun vs H Q E h => ?_) (fun cdv A outer s H vs Q E hq hr h => ?_)
  · obtain ⟨d, c, n, t, rfl, _⟩ := h
    rfl
  · obtain ⟨d, c, n, t, rfl, hn1, hn2, ⟨cs, sd, hd, hc, hs0, hs1, hl, hz⟩, ht, q⟩ := h
    refine ⟨_, (pss_cons (ps_dput (hu_of hr) (pv 0) pe_str (pe_op op_add (pe_dget (hu_of hr) (pv 0) pe_str (fun _ _ => rfl)) pe_int) rfl)
 (pss_cons (ps_set (i := 2) S.nd rfl (.inl rfl) (pe_dget (hu_of hr) (pv 0) pe_str (fun _ _ => rfl)))
 (pss_cons (ps_set (i := 3) S.nd rfl (.inl rfl) (pe_op op_add (pe_dget (hu_of hr) (pv 0) pe_str (fun _ _ => rfl)) (pe_op op_mulB (pe_op op_mulB pe_int (pv 2)) (pv 2))))
 (C8.pss_cut (ps_if (pt_cmpR (op_neNil (room200 hr)) (pe_dget (hu_of hr) (pv 0) pe_str (fun _ _ => rfl)) (pe_lst pa_nil) (nomark _))
  (pss_cons (ps_set (i := 4) S.nd rfl (.inl rfl) (pe_bm0 PySem.F.plainAttrs_list PySem.F.slot_list_pop PySem.F.type_list_pop (mt_pop) (pe_dget (hu_of hr) (pv 0) pe_str (fun _ _ => rfl))))
 (pss_cons (ps_if (pt_cmpR op_ge (pv 4) (pe_op op_pow pe_int pe_int) (nomark _))
  (pss_cons (ps_expr (pe_bm PySem.F.plainAttrs_list PySem.F.slot_list_append PySem.F.type_list_append mt_append (pe_dget (hu_of hr) (pv 0) pe_str (fun _ _ => rfl)) (pa_cons (pe_op op_fdivN (pv 4) (pv 1)) pa_nil)))
 (pss_one (ps_ret (pe_op op_mod (pv 4) (pv 1)))))
  pss_nil)
 (pss_one (ps_set (i := 3) S.nd rfl (.inl rfl) (pe_op op_add (pv 3) (pe_op op_mulB pe_int (pv 4)))))))
  pss_nil)
 (pss_cons (ps_set (i := 3) S.nd rfl (.inl rfl) (pe_op op_mod (pe_op op_mulB (pv 3) (pe_op op_add (pv 3) (pe_op op_mulB pe_int (pv 2)))) pe_int))
 (pss_cons (ps_set (i := 3) S.nd rfl (.inl rfl) (pe_op op_mod (pe_op op_add (pe_op op_mulB (pv 3) (pv 3)) (pe_op op_mulB pe_int (pv 2))) pe_int))
 (pss_one (ps_ret (pe_op op_mod (pe_op op_fdivN (pv 3) pe_int) (pv 1)))))))))), ?_⟩
    have ndc : c ≠ d := ne_of hc hd (by intro z; cases z)
    have g1 : DGet H d (.str "at") (some (.int (t : Int))) := DGet.k (k := Sum.inr "at") hd
    refine ⟨.ref d, rfl, d, _, rfl, g1, t, 1, rfl, rfl, .ref d, rfl, d, _, rfl, DPut.k (k := Sum.inr "at") hd (sl3 c sd t), ?_⟩
    rw [put_at]
    have hd1 : (upd H d (.dK (deckKv c sd (t + 1)))) d = some (.dK (deckKv c sd (t + 1))) := upd_same
    have hc1 : (upd H d (.dK (deckKv c sd (t + 1)))) c = some (.lst (cs.map V.int)) := by
      rw [upd_ne ndc]
      exact hc
    have bt1 : But d c H (upd H d (.dK (deckKv c sd (t + 1)))) := fun b o h1 h2 e => by
      rw [upd_ne h1]
      exact e
    revert hd1 hc1 bt1
    show _ → _ → _ → tSeq _ _ _ _ (upd H d (.dK (deckKv c sd (t + 1))))
    generalize upd H d (.dK (deckKv c sd (t + 1))) = H1
    intro hd1 hc1 bt1
    have g2 : DGet H1 d (.str "at") (some (.int ((t + 1 : Nat) : Int))) := DGet.k (k := Sum.inr "at") hd1
    have g3 : DGet H1 d (.str "seed") (some (.int sd)) := DGet.k (k := Sum.inr "seed") hd1
    have g4 : DGet H1 d (.str "cells") (some (.ref c)) := DGet.k (k := Sum.inr "cells") hd1
    refine ⟨.ref d, rfl, d, _, rfl, g2, ?_⟩
    refine ⟨.ref d, rfl, d, _, rfl, g3, ?_⟩
    refine ⟨.int ((t + 1 : Nat) : Int), rfl, 7919, ((t + 1 : Nat) : Int), rfl, rfl, ?_, .int ((t + 1 : Nat) : Int), rfl, 7919 * ((t + 1 : Nat) : Int), ((t + 1 : Nat) : Int), rfl, rfl, ?_, sd, _, rfl, rfl, ?_⟩
    · exact IntMulOk.of_left (by decide)
    · exact IntMulOk.of_right (intBits_le_64 (by omega) (by omega))
    have T1 : (0 : Int) ≤ ((t + 1 : Nat) : Int) ∧ ((t + 1 : Nat) : Int) < 2 ^ 41 := by omega
    have T2 : (0 : Int) ≤ 7919 * ((t + 1 : Nat) : Int) * ((t + 1 : Nat) : Int) ∧ 7919 * ((t + 1 : Nat) : Int) * ((t + 1 : Nat) : Int) < 2 ^ 100 := by
      generalize ((t + 1 : Nat) : Int) = k at T1
      have h1 : (0 : Int) ≤ 7919 * k := by omega
      refine ⟨Int.mul_nonneg h1 T1.1, ?_⟩
      have h3 : 7919 * k * k ≤ 7919 * k * 2 ^ 41 := Int.mul_le_mul_of_nonneg_left (by omega) h1
      omega
    refine ⟨fun σ' H3 => ∃ (m : Int) (x4 : Option V), σ' = [some (.ref d), some (.int n), some (.int ((t + 1 : Nat) : Int)), some (.int m), x4] ∧ Builtin.Int.intBits m ≤ 1048700 ∧
      But d c H H3 ∧ Deck H3 d c (t + 1), ?_, ?_⟩
    · refine ⟨.ref d, rfl, d, _, rfl, g4, ?_⟩
      refine ⟨Nat.zero_le _, fun p np => ?_⟩
      have npc : c ≠ p := ne_of_none hc1 np
      have hcp : (upd H1 p (.lst [])) c = some (.lst (cs.map V.int)) := by
        rw [upd_ne npc]
        exact hc1
      have npd : d ≠ p := ne_of_none hd1 np
      have hdp : (upd H1 p (.lst [])) d = some (.dK (deckKv c sd (t + 1))) := by
        rw [upd_ne npd]
        exact hd1
      have btp : But d c H (upd H1 p (.lst [])) := fun b o h1 h2 e => by
        have e1 := bt1 b o h1 h2 e
        rw [upd_ne (ne_of_none e1 np)]
        exact e1
      refine ⟨c, p, _, rfl, rfl, .inl (.inl hcp), .inl (.inl upd_same), _, rfl, ?_⟩
      revert hcp hdp btp
      generalize upd H1 p (.lst []) = H2
      intro hc2 hd2 bt2
      have bm : Builtin.Int.intBits (sd + 7919 * ((t + 1 : Nat) : Int) * ((t + 1 : Nat) : Int)) ≤ 200 := by
        have hb : big < 2 ^ 127 := by decide
        exact bits_lt (by omega) (by omega)
      rcases snoc cs with rfl | ⟨l, x, rfl⟩
      · exact iteF ⟨_, _, rfl, Nat.le_trans bm (by decide), bt2, ⟨[], sd, hd2, hc2, hs0, hs1, hl, hz⟩⟩
      · have ne0 : ((l ++ [x]).map V.int).isEmpty = false := by
          cases l <;> rfl
        rw [ne0]
        refine iteT ?_
        have g5 : DGet H2 d (.str "cells") (some (.ref c)) := DGet.k (k := Sum.inr "cells") hd2
        have hx : Builtin.Int.intBits x ≤ 1048576 := hz x (List.mem_append_right _ (List.mem_singleton.mpr rfl))
        have hl' : l.length < 63 := by
          have e := hl
          rw [List.length_append, List.length_singleton] at e
          omega
        have hz' : ∀ z ∈ l, Builtin.Int.intBits z ≤ 1048576 := fun z hm => hz z (List.mem_append_left _ hm)
        have lst1 : ((l ++ [x]).map V.int)[((l ++ [x]).map V.int).length - 1]? = some (.int x) := by
          rw [List.map_append, List.length_append, List.length_map]
          show (l.map V.int ++ [V.int x])[l.length + 1 - 1]? = _
          rw [Nat.add_sub_cancel, List.getElem?_append_right (by rw [List.length_map]; exact Nat.le_refl _), List.length_map, Nat.sub_self]
          rfl
        have drop1 : ((l ++ [x]).map V.int).dropLast = l.map V.int := by
          rw [List.map_append]
          exact List.dropLast_concat
        -- the last cell is taken
        refine ⟨.ref d, rfl, d, _, rfl, g5, .inl ⟨rfl, _, .inl (.inl hc2)⟩, c, _, _, rfl, rfl, hc2, lst1, ?_⟩
        rw [drop1]
        have hd3 : (upd H2 c (.lst (l.map V.int))) d = some (.dK (deckKv c sd (t + 1))) := by
          rw [upd_ne ndc.symm]
          exact hd2
        have hc3 : (upd H2 c (.lst (l.map V.int))) c = some (.lst (l.map V.int)) := upd_same
        have bt3 : But d c H (upd H2 c (.lst (l.map V.int))) := fun b o h1 h2 e => by
          rw [upd_ne h2]
          exact bt2 b o h1 h2 e
        revert hd3 hc3 bt3
        show _ → _ → _ → tSeq _ _ _ _ (upd H2 c (.lst (l.map V.int)))
        generalize upd H2 c (.lst (l.map V.int)) = H3
        intro hd3 hc3 bt3
        refine ⟨.int x, rfl, 10, 18, rfl, rfl, ⟨by decide, by decide, by decide⟩, x, _, rfl, rfl, _, rfl, ite2 (fun _ => ?_) (fun _ => ?_)⟩
        · -- a digit of it
          have g6 : DGet H3 d (.str "cells") (some (.ref c)) := DGet.k (k := Sum.inr "cells") hd3
          refine ⟨.ref d, rfl, d, _, rfl, g6, .inl ⟨rfl, _, .inl (.inl hc3)⟩, .int x, rfl, .int n, rfl, x, n, rfl, rfl, ⟨by omega, by omega⟩, c, _, _, rfl, rfl, hc3, ?_, ?_⟩
          · rw [List.length_map]
            exact Nat.lt_of_lt_of_le hl' (by decide)
          refine ⟨.int x, rfl, .int n, rfl, x, n, rfl, rfl, by omega, ?_⟩
          refine q _ _ (Int.emod_nonneg _ (by omega)) (Int.emod_lt_of_pos _ (by omega)) (fun b o h1 h2 e => ?_) ⟨l ++ [x.fdiv n], sd, ?_, ?_, hs0, hs1, ?_, ?_⟩
          · rw [upd_ne h2]
            exact bt3 b o h1 h2 e
          · rw [upd_ne ndc.symm]
            exact hd3
          · rw [upd_same, List.map_append]
            rfl
          · rw [List.length_append]
            exact hl'
          · intro z hm
            rcases List.mem_append.mp hm with h1 | h1
            · exact hz' z h1
            · rw [List.mem_singleton.mp h1]
              exact PySem.intBits_fdiv_le hx
        · refine ⟨_, rfl, .int x, rfl, 69621, x, rfl, rfl, .of_left (by decide), _, _, rfl, rfl, ?_⟩
          refine ⟨_, _, rfl, ?_, bt3, ⟨l, sd, hd3, hc3, hs0, hs1, by omega, hz'⟩⟩
          have b1 : Builtin.Int.intBits (69621 * x) ≤ 1048650 := Nat.le_trans (PySem.intBits_mul_le (bits_lt (n := 20) (by decide) (by decide)) hx) (by decide)
          exact Nat.le_trans (bits_add (Nat.le_trans bm (by decide)) b1) (by decide)
    · rintro σ' H3 ⟨m, x4, rfl, hm, bt, dk⟩
      have T3 : Builtin.Int.intBits (48271 * ((t + 1 : Nat) : Int)) ≤ 100 := bits_lt (by omega) (by omega)
      have T4 : Builtin.Int.intBits (m + 48271 * ((t + 1 : Nat) : Int)) ≤ 1048701 := bits_add hm (Nat.le_trans T3 (by decide))
      refine ⟨.int m, rfl, .int m, rfl, .int ((t + 1 : Nat) : Int), rfl, 48271, ((t + 1 : Nat) : Int), rfl, rfl, .of_left (by decide), ?_⟩
      refine ⟨m, _, rfl, rfl, m, m + 48271 * ((t + 1 : Nat) : Int), rfl, rfl, .of_le hm T4 (by decide), _, _, rfl, rfl, pos_big, ?_⟩
      have b1 : (0 : Int) ≤ m * (m + 48271 * ((t + 1 : Nat) : Int)) % big := Int.emod_nonneg _ (by decide)
      have b2 : m * (m + 48271 * ((t + 1 : Nat) : Int)) % big < big := Int.emod_lt_of_pos _ (by decide)
      show tSeq _ _ _ [some (.ref d), some (.int n), some (.int ((t + 1 : Nat) : Int)), some (.int (m * (m + 48271 * ((t + 1 : Nat) : Int)) % big)), x4] _
      generalize m * (m + 48271 * ((t + 1 : Nat) : Int)) % big = r at b1 b2
      have b3 : Builtin.Int.intBits r ≤ 127 := bits_lt b1 (Int.lt_of_lt_of_le b2 (by decide))
      refine ⟨.int r, rfl, .int r, rfl, r, r, rfl, rfl, .of_le b3 b3 (by decide), .int ((t + 1 : Nat) : Int), rfl, 104729, ((t + 1 : Nat) : Int), rfl, rfl, .of_left (by decide), _, _, rfl, rfl, _, _, rfl, rfl, pos_big, ?_⟩
      refine ⟨_, rfl, _, 1048576, rfl, rfl, ⟨by decide, by decide⟩, .int n, rfl, _, n, rfl, rfl, by omega, ?_⟩
      exact q _ _ (Int.emod_nonneg _ (by omega)) (Int.emod_lt_of_pos _ (by omega)) bt dk

theorem ok_deck {f : Addr} {fd : FuncData} (D : DefAt K mg "_law_deck" ["_law_script"] s_l_deck f fd) (M : Bi mg) :
    Cal P w K mg base L2.CX0 1 "_law_deck" ["_law_script"] (spDeck K) := by
  have S := S_l_deck
  refine cal_of D.fn D.mgf D.bs D.kbs S (fun vs H Q E h => ?_) (fun cdv A outer s H vs Q E hq hr h => ?_)
  · obtain ⟨a, ns, rfl, _⟩ := h
    rfl
  · obtain ⟨a, ns, rfl, hs, hl, hb, q⟩ := h
    refine ⟨_, (pss_cons (ps_set (i := 1) S.nd rfl (.inl rfl) (pe_callTy call_list_of (by rfl) M.list_ (by decide +kernel) (pa_cons (pe_slice sl_list (pv 0) po_none (po_some pe_int)) pa_nil)))
 (pss_cons (ps_set (i := 2) S.nd rfl (.inl rfl) (pe_op op_add pe_int (pe_callB call_len_seq (by rfl) M.len_ (by decide +kernel) (pa_cons (pv 1) pa_nil))))
 (pss_cons (ps_for PassesOwn.never rfl (pi_list (pv 1)) (pg_name (i := 3) S.nd rfl (.inl rfl))
  (pss_one (ps_set (i := 2) S.nd rfl (.inl rfl) (pe_op op_mod (pe_op op_add (pe_op op_mulB (pv 2) pe_int) (pv 3)) pe_int))))
 (pss_one (ps_ret (pe_disp (pps_cons pe_str (pe_revL (pv 1)) (pps_cons pe_str (pv 2) (pps_cons pe_str pe_int pps_nil))) (by rfl) (by rfl) (fun z => by cases z) (by decide))))))), ?_⟩
    -- list(script[:63])
    refine ⟨.ref a, rfl, 63, rfl, a, _, rfl, hs, fun p np => ?_⟩
    have e63 : cutV (ns.map V.int) none (some 63) = ns.map V.int := by
      unfold cutV
      rw [HT.sIx_none, show HT.sIx (ns.map V.int).length (ns.map V.int).length (some 63) = min 63 (ns.map V.int).length from HT.sIx_nat _ _ 63]
      rw [List.length_map, Nat.min_eq_right hl]
      exact List.take_of_length_le (by rw [List.drop_zero, List.length_map]; exact Nat.le_refl _)
    rw [e63]
    refine ⟨p, _, rfl, .inl (.inl (.inl upd_same)), fun l nl => ?_⟩
    have s1 := same_new (o := .lst (ns.map V.int)) np
    have s2 := s1.trans (same_new (o := .lst (ns.map V.int)) nl)
    have el : (upd (upd H p (.lst (ns.map V.int))) l (.lst (ns.map V.int))) l = some (.lst (ns.map V.int)) := upd_same
    have fl : H l = none := s1.free nl
    revert s2 el
    show _ → _ → tSeq _ _ _ _ (upd (upd H p (.lst (ns.map V.int))) l (.lst (ns.map V.int)))
    generalize upd (upd H p (.lst (ns.map V.int))) l (.lst (ns.map V.int)) = H1
    intro s2 el
    -- the seed
    refine ⟨.ref l, rfl, l, _, rfl, .inl (.inl (.inl el)), 104729, _, rfl, rfl, ?_⟩
    have hlen : (ns.map V.int).length = ns.length := List.length_map _
    rw [hlen]
    refine ⟨.ref l, rfl, l, rfl, ⟨_, .inl (.inl el)⟩, for_list (xs := ns.map V.int)
      (fun i σ H' => H' = H1 ∧ ∃ (sd : Int) (x : Option V), σ = [some (.ref a), some (.ref l), some (.int sd), x] ∧ 0 ≤ sd ∧ sd < big) ?_ ?_ ?_ ?_⟩
    · exact ⟨rfl, 104729 + (ns.length : Int), none, rfl, by omega, by
        show (104729 : Int) + _ < 170141183460469231731687303715884105727
        omega⟩
    · rintro i σ H' _ ⟨rfl, _⟩
      exact .inl (.inl el)
    · rintro i x σ H' hx ⟨rfl, sd, y, rfl, h0, h1⟩
      rw [List.getElem?_map] at hx
      cases hz : ns[i]? with
      | none =>
        rw [hz] at hx
        cases hx
      | some z =>
        rw [hz] at hx
        obtain rfl : V.int z = x := Option.some.inj hx
        have bz := hb z (List.mem_of_getElem? hz)
        refine ⟨_, rfl, sd, 1000003, rfl, rfl, .of_right (by decide), _, rfl, _, _, rfl, rfl, _, _, rfl, rfl, pos_big, rfl, _, _, rfl, ?_, ?_⟩
        · exact Int.emod_nonneg _ (by decide)
        · exact Int.emod_lt_of_pos _ (by decide)
    · rintro σ H' ⟨rfl, sd, y, rfl, h0, h1⟩
      -- the dict
      intro r nr
      have npr : l ≠ r := ne_of_none el nr
      have el2 : (upd H' r (.dK [])) l = some (.lst (ns.map V.int)) := by
        rw [upd_ne npr]
        exact el
      refine ⟨.ref l, rfl, l, _, rfl, .inl (.inl el2), fun c nc => ?_⟩
      have ncr : r ≠ c := fun z => by
        rw [← z, upd_same] at nc
        cases nc
      refine ⟨_, rfl, ?_⟩
      refine ⟨by rw [upd_ne ncr, upd_same], deckKv c sd 0, rfl, by show 3 ≤ 15; decide, ?_⟩
      have fc : H' c = none := by
        rw [upd_ne (fun z => ncr z.symm)] at nc
        exact nc
      have fr : H r = none := s2.free nr
      have fc2 : H c = none := s2.free fc
      refine q r c _ ?_ fr fc2 ⟨ns.reverse, sd, ?_, ?_, h0, h1, ?_, ?_⟩
      · exact same_mut (same_mut (same_mut s2 fr) fc2) fr
      · exact upd_same
      · rw [upd_ne ncr.symm, upd_same, List.map_reverse]
      · rw [List.length_reverse]
        exact hl
      · intro z hz
        exact hb z (List.mem_reverse.mp hz)
theorem ok_pick {f : Addr} {fd : FuncData} (D : DefAt K mg "_law_pick" ["_law_deck_here", "_law_some"] s_l_pick f fd) (M : Bi mg)
    (C_l_draw : Cal P w K mg base L2.CX0 1 "_law_draw" ["_law_deck_here", "_law_sides"] spDraw) :
    Cal P w K mg base L2.CX0 2 "_law_pick" ["_law_deck_here", "_law_some"] (spPick K) := by
  have S := S_l_pick
  refine cal_of D.fn D.mgf D.bs D.kbs S (fun vs H Q E h => ?_) (fun cdv A outer s H vs Q E hq hr h => ?_)
  · obtain ⟨d, c, t, v, xs, rfl, _⟩ := h
    rfl
  · obtain ⟨d, c, t, v, xs, rfl, hs, h1, h2, n1, n2, dk, ht, q⟩ := h
    refine ⟨_, (pss_one (ps_ret (pe_ix ix_seq (pv 1) (pe_c C_l_draw pass0 hq hr (by omega) (by rfl) (pa_cons (pv 0) (pa_cons (pe_callB call_len (by rfl) M.len_ (by decide +kernel) (pa_cons (pv 1) pa_nil)) pa_nil))) (fun _ _ => rfl)))), ?_⟩
    refine ⟨v, rfl, .ref d, rfl, v, rfl, v, _, rfl, hs.lenV, d, c, _, t, rfl, by omega, by omega, dk, ht, fun r H' r0 r1 bt dk' => ?_⟩
    obtain ⟨y, e1, e2⟩ := atI_lt r0 r1 rfl
    exact (bt.sq n1 n2 hs).item e1 (q _ y H' e2 bt dk')

/-! ### the exceptions' own __init__ -/
theorem ok_i_Nested {C fI : Addr} {fd : FuncData} (F : L2.Fun K "__init__" "Nested.__init__" s_Nested_init fI fd) (T : ExK K C) (h1 : PySem.W.takerIn K C "ring" = some none) :
    FnOk P w K mg base L2.CX0 1 fI fd [("self" : Str), "ring"] (spEx C ["ring"]) := by
  have S := S_Nested_init
  refine F.ok S (fun vs H Q E h => ?_) (fun cdv A outer s H vs Q E hr h => ?_)
  · obtain ⟨a, ys, rfl, h, _⟩ := h
    rw [List.length_cons, h]
    rfl
  · obtain ⟨a, ys, rfl, hl, ea, q⟩ := h
    match ys, hl, q with
    | [y], _, q =>
    refine ⟨_, (pss_one (ps_exs (pv 0) (pv 1))), ?_⟩
    refine ⟨y, rfl, .ref a, rfl, a, C, rfl, T, h1, .inl ⟨ea, fun d hd hne => ?_⟩⟩
    exact q d _ hd hne upd_same (by rw [upd_ne hne, upd_same]; rfl) fun b h1 h2 => by rw [upd_ne h1, upd_ne h2]
theorem ok_i_Ring {C fI : Addr} {fd : FuncData} (F : L2.Fun K "__init__" "Ring.__init__" s_Ring_init fI fd) (T : ExK K C) (h1 : PySem.W.takerIn K C "ring" = some none) :
    FnOk P w K mg base L2.CX0 1 fI fd [("self" : Str), "ring"] (spEx C ["ring"]) := by
  have S := S_Ring_init
  refine F.ok S (fun vs H Q E h => ?_) (fun cdv A outer s H vs Q E hr h => ?_)
  · obtain ⟨a, ys, rfl, h, _⟩ := h
    rw [List.length_cons, h]
    rfl
  · obtain ⟨a, ys, rfl, hl, ea, q⟩ := h
    match ys, hl, q with
    | [y], _, q =>
    refine ⟨_, (pss_one (ps_exs (pv 0) (pv 1))), ?_⟩
    refine ⟨y, rfl, .ref a, rfl, a, C, rfl, T, h1, .inl ⟨ea, fun d hd hne => ?_⟩⟩
    exact q d _ hd hne upd_same (by rw [upd_ne hne, upd_same]; rfl) fun b h1 h2 => by rw [upd_ne h1, upd_ne h2]
theorem ok_i_NoRoom {C fI : Addr} {fd : FuncData} (F : L2.Fun K "__init__" "NoRoom.__init__" s_NoRoom_init fI fd) (T : ExK K C) (h1 : PySem.W.takerIn K C "many" = some none) :
    FnOk P w K mg base L2.CX0 1 fI fd [("self" : Str), "many"] (spEx C ["many"]) := by
  have S := S_NoRoom_init
  refine F.ok S (fun vs H Q E h => ?_) (fun cdv A outer s H vs Q E hr h => ?_)
  · obtain ⟨a, ys, rfl, h, _⟩ := h
    rw [List.length_cons, h]
    rfl
  · obtain ⟨a, ys, rfl, hl, ea, q⟩ := h
    match ys, hl, q with
    | [y], _, q =>
    refine ⟨_, (pss_one (ps_exs (pv 0) (pv 1))), ?_⟩
    refine ⟨y, rfl, .ref a, rfl, a, C, rfl, T, h1, .inl ⟨ea, fun d hd hne => ?_⟩⟩
    exact q d _ hd hne upd_same (by rw [upd_ne hne, upd_same]; rfl) fun b h1 h2 => by rw [upd_ne h1, upd_ne h2]
theorem ok_i_TooMany {C fI : Addr} {fd : FuncData} (F : L2.Fun K "__init__" "TooMany.__init__" s_TooMany_init fI fd) (T : ExK K C) (h1 : PySem.W.takerIn K C "most" = some none) :
    FnOk P w K mg base L2.CX0 1 fI fd [("self" : Str), "most"] (spEx C ["most"]) := by
  have S := S_TooMany_init
  refine F.ok S (fun vs H Q E h => ?_) (fun cdv A outer s H vs Q E hr h => ?_)
  · obtain ⟨a, ys, rfl, h, _⟩ := h
    rw [List.length_cons, h]
    rfl
  · obtain ⟨a, ys, rfl, hl, ea, q⟩ := h
    match ys, hl, q with
    | [y], _, q =>
    refine ⟨_, (pss_one (ps_exs (pv 0) (pv 1))), ?_⟩
    refine ⟨y, rfl, .ref a, rfl, a, C, rfl, T, h1, .inl ⟨ea, fun d hd hne => ?_⟩⟩
    exact q d _ hd hne upd_same (by rw [upd_ne hne, upd_same]; rfl) fun b h1 h2 => by rw [upd_ne h1, upd_ne h2]
theorem ok_i_NoText {C fI : Addr} {fd : FuncData} (F : L2.Fun K "__init__" "NoText.__init__" s_NoText_init fI fd) (T : ExK K C) (h1 : PySem.W.takerIn K C "place" = some none) :
    FnOk P w K mg base L2.CX0 1 fI fd [("self" : Str), "place"] (spEx C ["place"]) := by
  have S := S_NoText_init
  refine F.ok S (fun vs H Q E h => ?_) (fun cdv A outer s H vs Q E hr h => ?_)
  · obtain ⟨a, ys, rfl, h, _⟩ := h
    rw [List.length_cons, h]
    rfl
  · obtain ⟨a, ys, rfl, hl, ea, q⟩ := h
    match ys, hl, q with
    | [y], _, q =>
    refine ⟨_, (pss_one (ps_exs (pv 0) (pv 1))), ?_⟩
    refine ⟨y, rfl, .ref a, rfl, a, C, rfl, T, h1, .inl ⟨ea, fun d hd hne => ?_⟩⟩
    exact q d _ hd hne upd_same (by rw [upd_ne hne, upd_same]; rfl) fun b h1 h2 => by rw [upd_ne h1, upd_ne h2]
theorem ok_i_NoName {C fI : Addr} {fd : FuncData} (F : L2.Fun K "__init__" "NoName.__init__" s_NoName_init fI fd) (T : ExK K C) (h1 : PySem.W.takerIn K C "name" = some none) :
    FnOk P w K mg base L2.CX0 1 fI fd [("self" : Str), "name"] (spEx C ["name"]) := by
  have S := S_NoName_init
  refine F.ok S (fun vs H Q E h => ?_) (fun cdv A outer s H vs Q E hr h => ?_)
  · obtain ⟨a, ys, rfl, h, _⟩ := h
    rw [List.length_cons, h]
    rfl
  · obtain ⟨a, ys, rfl, hl, ea, q⟩ := h
    match ys, hl, q with
    | [y], _, q =>
    refine ⟨_, (pss_one (ps_exs (pv 0) (pv 1))), ?_⟩
    refine ⟨y, rfl, .ref a, rfl, a, C, rfl, T, h1, .inl ⟨ea, fun d hd hne => ?_⟩⟩
    exact q d _ hd hne upd_same (by rw [upd_ne hne, upd_same]; rfl) fun b h1 h2 => by rw [upd_ne h1, upd_ne h2]
theorem ok_i_NoPath {C fI : Addr} {fd : FuncData} (F : L2.Fun K "__init__" "NoPath.__init__" s_NoPath_init fI fd) (T : ExK K C) (h1 : PySem.W.takerIn K C "path" = some none) :
    FnOk P w K mg base L2.CX0 1 fI fd [("self" : Str), "path"] (spEx C ["path"]) := by
  have S := S_NoPath_init
  refine F.ok S (fun vs H Q E h => ?_) (fun cdv A outer s H vs Q E hr h => ?_)
  · obtain ⟨a, ys, rfl, h, _⟩ := h
    rw [List.length_cons, h]
    rfl
  · obtain ⟨a, ys, rfl, hl, ea, q⟩ := h
    match ys, hl, q with
    | [y], _, q =>
    refine ⟨_, (pss_one (ps_exs (pv 0) (pv 1))), ?_⟩
    refine ⟨y, rfl, .ref a, rfl, a, C, rfl, T, h1, .inl ⟨ea, fun d hd hne => ?_⟩⟩
    exact q d _ hd hne upd_same (by rw [upd_ne hne, upd_same]; rfl) fun b h1 h2 => by rw [upd_ne h1, upd_ne h2]
theorem ok_i_Fault {C fI : Addr} {fd : FuncData} (F : L2.Fun K "__init__" "Fault.__init__" s_Fault_init fI fd) (T : ExK K C) (h1 : PySem.W.takerIn K C "stage" = some none) (h2 : PySem.W.takerIn K C "module" = some none) (h3 : PySem.W.takerIn K C "place" = some none) :
    FnOk P w K mg base L2.CX0 1 fI fd [("self" : Str), "stage", "module", "place"] (spEx C ["stage", "module", "place"]) := by
  have S := S_Fault_init
  refine F.ok S (fun vs H Q E h => ?_) (fun cdv A outer s H vs Q E hr h => ?_)
  · obtain ⟨a, ys, rfl, h, _⟩ := h
    rw [List.length_cons, h]
    rfl
  · obtain ⟨a, ys, rfl, hl, ea, q⟩ := h
    match ys, hl, q with
    | [y1, y2, y3], _, q =>
    refine ⟨_, (pss_cons (ps_exs (pv 0) (pv 1))
 (pss_cons (ps_exs (pv 0) (pv 2))
 (pss_one (ps_exs (pv 0) (pv 3))))), ?_⟩
    refine ⟨y1, rfl, .ref a, rfl, a, C, rfl, T, h1, .inl ⟨ea, fun d hd hne => ?_⟩⟩
    have ed : upd (upd H d (exd d [("stage", y1)])) a (exo a C (some d)) d = some (exd d [("stage", y1)]) := by rw [upd_ne hne, upd_same]
    refine ⟨y2, rfl, .ref a, rfl, a, C, rfl, T, h2, .inr ⟨d, _, upd_same, ed, by show 1 ≤ 900; decide, ?_⟩⟩
    refine ⟨y3, rfl, .ref a, rfl, a, C, rfl, T, h3, .inr ⟨d, _, by rw [upd_ne (Ne.symm hne), upd_same], upd_same, by show 2 ≤ 900; decide, ?_⟩⟩
    refine q d _ hd hne ?_ ?_ fun b hb hb2 => ?_
    · rw [upd_ne (Ne.symm hne), upd_ne (Ne.symm hne), upd_same]
    · rw [upd_same]
      rfl
    · rw [upd_ne hb2, upd_ne hb2, upd_ne hb, upd_ne hb2]
end
end K02

namespace K02
open PySem PySem.Spec PyProof.Rows L2 Kit
/-- which families an exception of the i-th class is of -/
def here (i : Nat) : List Bool := ((List.range 10).map fun j => decide (j = i)) ++ [decide (i < 7), decide (i = 7), decide (7 < i)]
structure Fam (K : PySem.W.Frag) (i : Nat) (C : Addr) (cs : List Addr) (cW : Addr) : Prop where
  ex : ExI K C
  own : ∀ j c, cs[j]? = some c → PySem.W.kitOne K (.ref C) (.ref c) = some (decide (j = i))
  wire : PySem.W.kitOne K (.ref C) (.ref cW) = some (decide (i < 7))
  val : PySem.W.kitOne K (.ref C) (.type "ValueError") = some (decide (i = 7))
  key : PySem.W.kitOne K (.ref C) (.type "KeyError") = some (decide (7 < i))
  oth : PySem.W.kitAny K (.ref C) [.type "IndexError", .type "TypeError"] = some false
def pm1 {α : Type} (l : List α) : List α := l
def pm3 {α : Type} : List α → List α
  | [p, s, m] => [s, m, p]
  | l => l
structure XX (P : Program) (w : World) (K : PySem.W.Frag) (mg : Str → Option Value) (base : Heap) (cFault cNested cRing cNoRoom cNoPaper cUnlike cTooMany cNoText cNoName cNoPath cWireError : Addr) : Prop where
  Fault : ExMk P w K mg base 1 "Fault" cFault ["stage", "module", "place"] ["place", "stage", "module"] (fun l => pm3 l)
  f_Fault_stage : PySem.W.findIn K (.ref cFault) "stage" = some none
  f_Fault_module : PySem.W.findIn K (.ref cFault) "module" = some none
  f_Fault_place : PySem.W.findIn K (.ref cFault) "place" = some none
  Nested : ExMk P w K mg base 1 "Nested" cNested ["ring"] ["ring"] (fun l => pm1 l)
  f_Nested_ring : PySem.W.findIn K (.ref cNested) "ring" = some none
  Ring : ExMk P w K mg base 1 "Ring" cRing ["ring"] ["ring"] (fun l => pm1 l)
  f_Ring_ring : PySem.W.findIn K (.ref cRing) "ring" = some none
  NoRoom : ExMk P w K mg base 1 "NoRoom" cNoRoom ["many"] ["many"] (fun l => pm1 l)
  f_NoRoom_many : PySem.W.findIn K (.ref cNoRoom) "many" = some none
  NoPaper : PySem.W.excIn K cNoPaper [.type "Exception", .type "BaseException", .type "object"] "Exception.__new__" = true ∧ mg "NoPaper" = some (.ref cNoPaper) ∧ PySem.W.keepIn K (.ref cNoPaper) = true
  Unlike : PySem.W.excIn K cUnlike [.type "Exception", .type "BaseException", .type "object"] "Exception.__new__" = true ∧ mg "Unlike" = some (.ref cUnlike) ∧ PySem.W.keepIn K (.ref cUnlike) = true
  TooMany : ExMk P w K mg base 1 "TooMany" cTooMany ["most"] ["most"] (fun l => pm1 l)
  f_TooMany_most : PySem.W.findIn K (.ref cTooMany) "most" = some none
  NoText : ExMk P w K mg base 1 "NoText" cNoText ["place"] ["place"] (fun l => pm1 l)
  f_NoText_place : PySem.W.findIn K (.ref cNoText) "place" = some none
  NoName : ExMk P w K mg base 1 "NoName" cNoName ["name"] ["name"] (fun l => pm1 l)
  f_NoName_name : PySem.W.findIn K (.ref cNoName) "name" = some none
  NoPath : ExMk P w K mg base 1 "NoPath" cNoPath ["path"] ["path"] (fun l => pm1 l)
  f_NoPath_path : PySem.W.findIn K (.ref cNoPath) "path" = some none
  g_Fault : mg "Fault" = some (.ref cFault)
  g_Nested : mg "Nested" = some (.ref cNested)
  g_Ring : mg "Ring" = some (.ref cRing)
  g_NoRoom : mg "NoRoom" = some (.ref cNoRoom)
  g_NoPaper : mg "NoPaper" = some (.ref cNoPaper)
  g_Unlike : mg "Unlike" = some (.ref cUnlike)
  g_TooMany : mg "TooMany" = some (.ref cTooMany)
  g_NoText : mg "NoText" = some (.ref cNoText)
  g_NoName : mg "NoName" = some (.ref cNoName)
  g_NoPath : mg "NoPath" = some (.ref cNoPath)
  g_WireError : mg "WireError" = some (.ref cWireError)
  i_Fault : Fam K 0 cFault [cFault, cNested, cRing, cNoRoom, cNoPaper, cUnlike, cTooMany, cNoText, cNoName, cNoPath] cWireError
  i_Nested : Fam K 1 cNested [cFault, cNested, cRing, cNoRoom, cNoPaper, cUnlike, cTooMany, cNoText, cNoName, cNoPath] cWireError
  i_Ring : Fam K 2 cRing [cFault, cNested, cRing, cNoRoom, cNoPaper, cUnlike, cTooMany, cNoText, cNoName, cNoPath] cWireError
  i_NoRoom : Fam K 3 cNoRoom [cFault, cNested, cRing, cNoRoom, cNoPaper, cUnlike, cTooMany, cNoText, cNoName, cNoPath] cWireError
  i_NoPaper : Fam K 4 cNoPaper [cFault, cNested, cRing, cNoRoom, cNoPaper, cUnlike, cTooMany, cNoText, cNoName, cNoPath] cWireError
  i_Unlike : Fam K 5 cUnlike [cFault, cNested, cRing, cNoRoom, cNoPaper, cUnlike, cTooMany, cNoText, cNoName, cNoPath] cWireError
  i_TooMany : Fam K 6 cTooMany [cFault, cNested, cRing, cNoRoom, cNoPaper, cUnlike, cTooMany, cNoText, cNoName, cNoPath] cWireError
  i_NoText : Fam K 7 cNoText [cFault, cNested, cRing, cNoRoom, cNoPaper, cUnlike, cTooMany, cNoText, cNoName, cNoPath] cWireError
  i_NoName : Fam K 8 cNoName [cFault, cNested, cRing, cNoRoom, cNoPaper, cUnlike, cTooMany, cNoText, cNoName, cNoPath] cWireError
  i_NoPath : Fam K 9 cNoPath [cFault, cNested, cRing, cNoRoom, cNoPaper, cUnlike, cTooMany, cNoText, cNoName, cNoPath] cWireError

theorem ext_same {H H' : Hp} {a C : Addr} (h : ExThere H a C) (s : Same H H') : ExThere H' a C := by
  rcases h with h | ⟨d, fs, h1, h2⟩
  · exact .inl (s _ _ h)
  · exact .inr ⟨d, fs, s _ _ h1, s _ _ h2⟩
def spFam (K : PySem.W.Frag) (cs : List Addr) (cW : Addr) : Sp := fun vs H Q _ => ∃ (a C : Addr) (i : Nat), vs = [.ref a] ∧ ExThere H a C ∧ Fam K i C cs cW ∧
  ∀ p H', Same H H' → H p = none → H' p = some (.lst ((here i).map V.bl)) → Q (.ref p) H'
section
variable {P : Program} {w : World} {K : PySem.W.Frag} {mg : Str → Option Value} {base : Heap} {cFault cNested cRing cNoRoom cNoPaper cUnlike cTooMany cNoText cNoName cNoPath cWireError : Addr}
theorem ok_fam {f : Addr} {fd : FuncData} (D : DefAt K mg "_law_families" ["_law_e"] s_l_families f fd) (M : Bi mg) (Z : XX P w K mg base cFault cNested cRing cNoRoom cNoPaper cUnlike cTooMany cNoText cNoName cNoPath cWireError) :
    Cal P w K mg base L2.CX0 1 "_law_families" ["_law_e"] (spFam K [cFault, cNested, cRing, cNoRoom, cNoPaper, cUnlike, cTooMany, cNoText, cNoName, cNoPath] cWireError) := by
  have S := S_l_families
  refine cal_of D.fn D.mgf D.bs D.kbs S (fun vs H Q E h => ?_) (fun cdv A outer s H vs Q E hq hr h => ?_)
  · obtain ⟨a, C, i, rfl, _⟩ := h
    rfl
  · obtain ⟨a, C, i, rfl, hx, T, q⟩ := h
    refine ⟨_, (pss_cons (ps_set (i := 1) S.nd rfl (.inl rfl) (pe_lst (pa_cons (pe_callB call_isX (by rfl) M.isinstance_ (by decide +kernel) (pa_cons (pv 0) (pa_cons (pe_glob (v := .ref cFault) (by rfl) Z.g_Fault rfl) pa_nil))) (pa_cons (pe_callB call_isX (by rfl) M.isinstance_ (by decide +kernel) (pa_cons (pv 0) (pa_cons (pe_glob (v := .ref cNested) (by rfl) Z.g_Nested rfl) pa_nil))) (pa_cons (pe_callB call_isX (by rfl) M.isinstance_ (by decide +kernel) (pa_cons (pv 0) (pa_cons (pe_glob (v := .ref cRing) (by rfl) Z.g_Ring rfl) pa_nil))) (pa_cons (pe_callB call_isX (by rfl) M.isinstance_ (by decide +kernel) (pa_cons (pv 0) (pa_cons (pe_glob (v := .ref cNoRoom) (by rfl) Z.g_NoRoom rfl) pa_nil))) pa_nil))))))
 (pss_cons (ps_set (i := 1) S.nd rfl (.inl rfl) (pe_op op_cat (pv 1) (pe_lst (pa_cons (pe_callB call_isX (by rfl) M.isinstance_ (by decide +kernel) (pa_cons (pv 0) (pa_cons (pe_glob (v := .ref cNoPaper) (by rfl) Z.g_NoPaper rfl) pa_nil))) (pa_cons (pe_callB call_isX (by rfl) M.isinstance_ (by decide +kernel) (pa_cons (pv 0) (pa_cons (pe_glob (v := .ref cUnlike) (by rfl) Z.g_Unlike rfl) pa_nil))) (pa_cons (pe_callB call_isX (by rfl) M.isinstance_ (by decide +kernel) (pa_cons (pv 0) (pa_cons (pe_glob (v := .ref cTooMany) (by rfl) Z.g_TooMany rfl) pa_nil))) (pa_cons (pe_callB call_isX (by rfl) M.isinstance_ (by decide +kernel) (pa_cons (pv 0) (pa_cons (pe_glob (v := .ref cNoText) (by rfl) Z.g_NoText rfl) pa_nil))) pa_nil)))))))
 (pss_cons (ps_set (i := 1) S.nd rfl (.inl rfl) (pe_op op_cat (pv 1) (pe_lst (pa_cons (pe_callB call_isX (by rfl) M.isinstance_ (by decide +kernel) (pa_cons (pv 0) (pa_cons (pe_glob (v := .ref cNoName) (by rfl) Z.g_NoName rfl) pa_nil))) (pa_cons (pe_callB call_isX (by rfl) M.isinstance_ (by decide +kernel) (pa_cons (pv 0) (pa_cons (pe_glob (v := .ref cNoPath) (by rfl) Z.g_NoPath rfl) pa_nil))) (pa_cons (pe_callB call_isX (by rfl) M.isinstance_ (by decide +kernel) (pa_cons (pv 0) (pa_cons (pe_glob (v := .ref cWireError) (by rfl) Z.g_WireError rfl) pa_nil))) pa_nil))))))
 (pss_one (ps_ret (pe_op op_cat (pv 1) (pe_lst (pa_cons (pe_callB call_isX (by rfl) M.isinstance_ (by decide +kernel) (pa_cons (pv 0) (pa_cons (pe_bltn (v := .ty "ValueError") (u := .type "ValueError") (by rfl) M.ValueError_ (by decide +kernel) rfl) pa_nil))) (pa_cons (pe_callB call_isX (by rfl) M.isinstance_ (by decide +kernel) (pa_cons (pv 0) (pa_cons (pe_bltn (v := .ty "KeyError") (u := .type "KeyError") (by rfl) M.KeyError_ (by decide +kernel) rfl) pa_nil))) pa_nil))))))))), ?_⟩
    refine ⟨.ref a, rfl, a, C, .ref cFault, _, _, rfl, .own _, hx, T.ex, T.own 0 _ rfl, .ref a, rfl, a, C, .ref cNested, _, _, rfl, .own _, hx, T.ex, T.own 1 _ rfl, .ref a, rfl, a, C, .ref cRing, _, _, rfl, .own _, hx, T.ex, T.own 2 _ rfl, .ref a, rfl, a, C, .ref cNoRoom, _, _, rfl, .own _, hx, T.ex, T.own 3 _ rfl, by show 4 ≤ sizeLine; decide, fun p1 n1 => ?_⟩
    have s1 := same_new (o := .lst [.bl (decide (0 = i)), .bl (decide (1 = i)), .bl (decide (2 = i)), .bl (decide (3 = i))]) n1
    have e1 : upd H p1 (.lst [.bl (decide (0 = i)), .bl (decide (1 = i)), .bl (decide (2 = i)), .bl (decide (3 = i))]) p1 = some (.lst ([decide (0 = i), decide (1 = i), decide (2 = i), decide (3 = i)].map V.bl)) := upd_same
    have hx1 := ext_same hx s1
    revert s1 e1 hx1
    generalize upd H p1 (.lst [.bl (decide (0 = i)), .bl (decide (1 = i)), .bl (decide (2 = i)), .bl (decide (3 = i))]) = H1
    intro s1 e1 hx1
    refine ⟨.ref p1, rfl, .ref a, rfl, a, C, .ref cNoPaper, _, _, rfl, .own _, hx1, T.ex, T.own 4 _ rfl, .ref a, rfl, a, C, .ref cUnlike, _, _, rfl, .own _, hx1, T.ex, T.own 5 _ rfl, .ref a, rfl, a, C, .ref cTooMany, _, _, rfl, .own _, hx1, T.ex, T.own 6 _ rfl, .ref a, rfl, a, C, .ref cNoText, _, _, rfl, .own _, hx1, T.ex, T.own 7 _ rfl, by show 4 ≤ sizeLine; decide, fun p2 n2 => ?_⟩
    have s2 := same_new (o := .lst [.bl (decide (4 = i)), .bl (decide (5 = i)), .bl (decide (6 = i)), .bl (decide (7 = i))]) n2
    refine ⟨p1, p2, _, _, rfl, rfl, s2 _ _ e1, upd_same, by show 8 ≤ sizeLine; decide, fun p3 n3 => ?_⟩
    have s3 := (s1.trans s2).trans (same_new (o := .lst ([V.bl (decide (0 = i)), .bl (decide (1 = i)), .bl (decide (2 = i)), .bl (decide (3 = i))] ++ [.bl (decide (4 = i)), .bl (decide (5 = i)), .bl (decide (6 = i)), .bl (decide (7 = i))])) n3)
    have hx3 := ext_same hx s3
    have e3 : upd (upd H1 p2 (.lst [V.bl (decide (4 = i)), .bl (decide (5 = i)), .bl (decide (6 = i)), .bl (decide (7 = i))])) p3 (.lst ([V.bl (decide (0 = i)), .bl (decide (1 = i)), .bl (decide (2 = i)), .bl (decide (3 = i))] ++ [.bl (decide (4 = i)), .bl (decide (5 = i)), .bl (decide (6 = i)), .bl (decide (7 = i))])) p3 =
      some (.lst ([decide (0 = i), decide (1 = i), decide (2 = i), decide (3 = i), decide (4 = i), decide (5 = i), decide (6 = i), decide (7 = i)].map V.bl)) := upd_same
    revert s3 e3 hx3
    show _ → _ → _ → tSeq _ _ _ _ (upd (upd H1 p2 (.lst [V.bl (decide (4 = i)), .bl (decide (5 = i)), .bl (decide (6 = i)), .bl (decide (7 = i))])) p3 (.lst ([V.bl (decide (0 = i)), .bl (decide (1 = i)), .bl (decide (2 = i)), .bl (decide (3 = i))] ++ [.bl (decide (4 = i)), .bl (decide (5 = i)), .bl (decide (6 = i)), .bl (decide (7 = i))])))
    generalize upd (upd H1 p2 (.lst [V.bl (decide (4 = i)), .bl (decide (5 = i)), .bl (decide (6 = i)), .bl (decide (7 = i))])) p3 (.lst ([V.bl (decide (0 = i)), .bl (decide (1 = i)), .bl (decide (2 = i)), .bl (decide (3 = i))] ++ [.bl (decide (4 = i)), .bl (decide (5 = i)), .bl (decide (6 = i)), .bl (decide (7 = i))])) = H3
    intro s3 hx3 e3
    refine ⟨.ref p3, rfl, .ref a, rfl, a, C, .ref cNoName, _, _, rfl, .own _, hx3, T.ex, T.own 8 _ rfl, .ref a, rfl, a, C, .ref cNoPath, _, _, rfl, .own _, hx3, T.ex, T.own 9 _ rfl, .ref a, rfl, a, C, .ref cWireError, _, _, rfl, .own _, hx3, T.ex, T.wire, by show 3 ≤ sizeLine; decide, fun p4 n4 => ?_⟩
    have s4 := same_new (o := .lst [.bl (decide (8 = i)), .bl (decide (9 = i)), .bl (decide (i < 7))]) n4
    refine ⟨p3, p4, _, _, rfl, rfl, s4 _ _ e3, upd_same, by show 11 ≤ sizeLine; decide, fun p5 n5 => ?_⟩
    have s5 := (s3.trans s4).trans (same_new (o := .lst (([decide (0 = i), decide (1 = i), decide (2 = i), decide (3 = i), decide (4 = i), decide (5 = i), decide (6 = i), decide (7 = i)].map V.bl) ++ [.bl (decide (8 = i)), .bl (decide (9 = i)), .bl (decide (i < 7))])) n5)
    have hx5 := ext_same hx s5
    have e5 : upd (upd H3 p4 (.lst [.bl (decide (8 = i)), .bl (decide (9 = i)), .bl (decide (i < 7))])) p5 (.lst (([decide (0 = i), decide (1 = i), decide (2 = i), decide (3 = i), decide (4 = i), decide (5 = i), decide (6 = i), decide (7 = i)].map V.bl) ++ [.bl (decide (8 = i)), .bl (decide (9 = i)), .bl (decide (i < 7))])) p5 =
      some (.lst ([decide (0 = i), decide (1 = i), decide (2 = i), decide (3 = i), decide (4 = i), decide (5 = i), decide (6 = i), decide (7 = i), decide (8 = i), decide (9 = i), decide (i < 7)].map V.bl)) := upd_same
    refine ⟨.ref p5, rfl, .ref a, rfl, a, C, .ty "ValueError", _, _, rfl, .ty _, hx5, T.ex, T.val, .ref a, rfl, a, C, .ty "KeyError", _, _, rfl, .ty _, hx5, T.ex, T.key, by show 2 ≤ sizeLine; decide, fun p6 n6 => ?_⟩
    have s6 := same_new (o := .lst [.bl (decide (i = 7)), .bl (decide (7 < i))]) n6
    refine ⟨p5, p6, _, _, rfl, rfl, s6 _ _ e5, upd_same, by show 13 ≤ sizeLine; decide, fun p7 n7 => ?_⟩
    have s7 := (s5.trans s6)
    exact q p7 _ (s7.trans (same_new n7)) (s7.free n7) upd_same

end
end K02

set_option maxHeartbeats 8000000
namespace K02
open PySem PySem.Spec PyProof.Rows L2 Kit
/-! ### what may be picked -/
def data7 : List PyData := [.none, .int 0, .str "a", .tuple [.int 3, .int 4], .tuple [.str "m", .str "a"], .int (10 ^ 39), .tuple [.str "read", .str "a", .tuple [.int 0, .int 1]]]
inductive P7 (d c : Addr) (H : Hp) : V → PyData → Prop
  | non : P7 d c H .non .none
  | nil : P7 d c H (.int 0) (.int 0)
  | let : P7 d c H (.str "a") (.str "a")
  | big : P7 d c H (.int (10 ^ 39)) (.int (10 ^ 39))
  | one {p : Addr} : H p = some (.tup [.int 3, .int 4]) → p ≠ d → p ≠ c → P7 d c H (.ref p) (.tuple [.int 3, .int 4])
  | two {p : Addr} : H p = some (.tup [.str "m", .str "a"]) → p ≠ d → p ≠ c → P7 d c H (.ref p) (.tuple [.str "m", .str "a"])
  | tre {p q : Addr} : H p = some (.tup [.str "read", .str "a", .ref q]) → H q = some (.tup [.int 0, .int 1]) → p ≠ d → p ≠ c → q ≠ d → q ≠ c → P7 d c H (.ref p) (.tuple [.str "read", .str "a", .tuple [.int 0, .int 1]])
theorem P7.but {d c : Addr} {H H' : Hp} {v : V} {D : PyData} (h : P7 d c H v D) (b : But d c H H') : P7 d c H' v D := by
  cases h with
  | non => exact .non
  | nil => exact .nil
  | «let» => exact .let
  | big => exact .big
  | one h n1 n2 => exact .one (b _ _ n1 n2 h) n1 n2
  | two h n1 n2 => exact .two (b _ _ n1 n2 h) n1 n2
  | tre h h2 n1 n2 n3 n4 => exact .tre (b _ _ n1 n2 h) (b _ _ n3 n4 h2) n1 n2 n3 n4
theorem P7.same {d c : Addr} {H H' : Hp} {v : V} {D : PyData} (h : P7 d c H v D) (b : Same H H') : P7 d c H' v D := h.but (But.of b)
theorem P7.dp {K : PySem.W.Frag} {d c : Addr} {H : Hp} {v : V} {D : PyData} (h : P7 d c H v D) : Dp K H v D := by
  cases h with
  | non => exact .non
  | nil => exact .int _
  | «let» => exact .str _
  | big => exact .int _
  | one h n1 n2 => exact .tup (.inl (.inl h)) (.cons (.int _) (.cons (.int _) .nil))
  | two h n1 n2 => exact .tup (.inl (.inl h)) (.cons (.str _) (.cons (.str _) .nil))
  | tre h h2 n1 n2 n3 n4 => exact .tup (.inl (.inl h)) (.cons (.str _) (.cons (.str _) (.cons (.tup (.inl (.inl h2)) (.cons (.int _) (.cons (.int _) .nil))) .nil)))
theorem P7.mem {d c : Addr} {H : Hp} {v : V} {D : PyData} (h : P7 d c H v D) : D ∈ data7 := by
  cases h <;> simp [data7]
/-- what is heard, and what is due -/
def datum (a b c : PyData) : PyData := .list [.list [.tuple [a, b, c], .tuple [a, b, c]], .list [a, a], .list [b, b], .list [c, c], .list [], .list [], .list [a, a], .list [b, b], .list [c, c], .list [a, a]]
structure SD (d : PyData) (n L : Nat) : Prop where
  sh : d.showable = true
  hd : d.hasDict = false
  dp : d.depth ≤ n
  ln : d.shown.length + 2 ≤ L
structure SDL (ds : List PyData) (n L : Nat) : Prop where
  sh : PyData.showableAll ds = true
  hd : PyData.hasDictAll ds = false
  dp : PyData.depthAll ds ≤ n
  ln : ((PyData.shownAll ds).map (·.length)).sum + 2 * (PyData.shownAll ds).length ≤ L
theorem SDL.nil {n : Nat} : SDL [] n 0 := by
  constructor <;> simp [PyData.showableAll, PyData.hasDictAll, PyData.depthAll, PyData.shownAll]
theorem SDL.cons {d : PyData} {ds : List PyData} {n L M : Nat} (h : SD d n L) (hs : SDL ds n M) : SDL (d :: ds) n (L + M) := by
  obtain ⟨a1, a2, a3, a4⟩ := h
  obtain ⟨b1, b2, b3, b4⟩ := hs
  constructor
  · rw [PyData.showableAll, a1, b1]
    rfl
  · rw [PyData.hasDictAll, a2, b2]
    rfl
  · rw [PyData.depthAll]
    exact Nat.max_le.mpr ⟨a3, b3⟩
  · rw [PyData.shownAll, List.map_cons, List.sum_cons, List.length_cons]
    omega
theorem SDL.tup {ds : List PyData} {n L : Nat} (h : SDL ds n L) : SD (.tuple ds) (n + 1) (L + 5) := by
  obtain ⟨b1, b2, b3, b4⟩ := h
  constructor
  · rw [PyData.showable, b1]
  · rw [PyData.hasDict, b2]
  · rw [PyData.depth]
    omega
  · rw [PyData.shown]
    have := tupleText_len_le (PyData.shownAll ds)
    omega
theorem SDL.lst {ds : List PyData} {n L : Nat} (h : SDL ds n L) : SD (.list ds) (n + 1) (L + 5) := by
  obtain ⟨b1, b2, b3, b4⟩ := h
  constructor
  · rw [PyData.showable, b1]
  · rw [PyData.hasDict, b2]
  · rw [PyData.depth]
    omega
  · rw [PyData.shown]
    have := listText_len_le (PyData.shownAll ds)
    omega
theorem SD.mono {d : PyData} {n m L M : Nat} (h : SD d n L) (hn : n ≤ m) (hl : L ≤ M) : SD d m M := ⟨h.sh, h.hd, Nat.le_trans h.dp hn, Nat.le_trans h.ln hl⟩
theorem SD.str {z : Str} (h : z.length ≤ 5) (h2 : ∀ c ∈ z.cps.toList, c < 16 ^ 8) (n : Nat) : SD (.str z) n 60 := by
  constructor
  · rw [PyData.showable]
  · rw [PyData.hasDict]
  · rw [PyData.depth]
    omega
  · rw [PyData.shown]
    have := StrLaws.reprText_len z h2
    omega
theorem SD.int {i : Int} (h : PyData.showable (.int i) = true) (h2 : (PyData.shown (.int i)).length + 2 ≤ 60) (n : Nat) : SD (.int i) n 60 := by
  refine ⟨h, ?_, ?_, h2⟩
  · rw [PyData.hasDict]
  · rw [PyData.depth]
    omega
theorem SD.non (n : Nat) : SD .none n 60 := by
  refine ⟨?_, ?_, ?_, ?_⟩
  · rw [PyData.showable]
  · rw [PyData.hasDict]
  · rw [PyData.depth]
    omega
  · rw [PyData.shown]
    decide
theorem data7_ok : ∀ a ∈ data7, SD a 3 300 := by
  intro a ha
  have s1 : SD (.str "a") 0 60 := .str (by decide) (by decide) 0
  have s2 : SD (.str "m") 0 60 := .str (by decide) (by decide) 0
  have s3 : SD (.str "read") 1 60 := .str (by decide) (by decide) 1
  have i0 : ∀ n, SD (.int 0) n 60 := fun n => .int (by decide +kernel) (by decide +kernel) n
  have i1 : ∀ n, SD (.int 1) n 60 := fun n => .int (by decide +kernel) (by decide +kernel) n
  have i3 : SD (.int 3) 0 60 := .int (by decide +kernel) (by decide +kernel) 0
  have i4 : SD (.int 4) 0 60 := .int (by decide +kernel) (by decide +kernel) 0
  simp only [data7, List.mem_cons, List.not_mem_nil, or_false] at ha
  rcases ha with rfl | rfl | rfl | rfl | rfl | rfl | rfl
  · exact (SD.non 3).mono (by omega) (by omega)
  · exact (i0 3).mono (by omega) (by omega)
  · exact s1.mono (by omega) (by omega)
  · exact (SDL.cons i3 (SDL.cons i4 .nil)).tup.mono (by omega) (by omega)
  · exact (SDL.cons s2 (SDL.cons s1 .nil)).tup.mono (by omega) (by omega)
  · exact (SD.int (by decide +kernel) (by decide +kernel) 3).mono (by omega) (by omega)
  · exact (SDL.cons s3 (SDL.cons (s1.mono (m := 1) (by omega) (Nat.le_refl _)) (SDL.cons (SDL.cons (i0 0) (SDL.cons (i1 0) .nil)).tup .nil))).tup.mono (by omega) (by omega)
theorem datum_ok (a b c : PyData) (ha : a ∈ data7) (hb : b ∈ data7) (hc : c ∈ data7) : SD (datum a b c) 10 20000 := by
  have xa := data7_ok a ha
  have xb := data7_ok b hb
  have xc := data7_ok c hc
  have two : ∀ {x : PyData}, SD x 3 300 → SD (.list [x, x]) 6 1000 := fun h => (SDL.cons h (SDL.cons h .nil)).lst.mono (by omega) (by omega)
  have tr : SD (.tuple [a, b, c]) 4 1000 := (SDL.cons xa (SDL.cons xb (SDL.cons xc .nil))).tup.mono (by omega) (by omega)
  have z : SD (.list []) 6 1000 := (SDL.nil (n := 0)).lst.mono (by omega) (by omega)
  have t2 : SD (.list [.tuple [a, b, c], .tuple [a, b, c]]) 6 2100 := (SDL.cons tr (SDL.cons tr .nil)).lst.mono (by omega) (by omega)
  exact (SDL.cons t2 (SDL.cons (two xa) (SDL.cons (two xb) (SDL.cons (two xc) (SDL.cons z (SDL.cons z (SDL.cons (two xa) (SDL.cons (two xb) (SDL.cons (two xc) (SDL.cons (two xa) .nil)))))))))).lst.mono (by omega) (by omega)
/-! ### exceptions, two by two -/
def ExF (H : Hp) (a C : Addr) (ns : List Str) (vs : List V) : Prop := ∃ d, H a = some (exo a C (some d)) ∧ H d = some (exd d (ns.zip vs).reverse)
theorem ExF.same {H H' : Hp} {a C : Addr} {ns : List Str} {vs : List V} (h : ExF H a C ns vs) (s : Same H H') : ExF H' a C ns vs := by
  obtain ⟨d, h1, h2⟩ := h
  exact ⟨d, s _ _ h1, s _ _ h2⟩
theorem newSame {a d : Addr} {H H' : Hp} (na : H a = none) (nd : H d = none) (h3 : ∀ b, b ≠ a → b ≠ d → H' b = H b) : Same H H' := fun b o e => by
  rw [h3 b (ne_of_none e na) (ne_of_none e nd)]
  exact e
/-- two of one class in a tuple -/
def Two (H : Hp) (p C : Addr) : Prop := ∃ x y, H p = some (.tup [.ref x, .ref y]) ∧ ExThere H x C ∧ ExThere H y C
def TwoF (H : Hp) (p C : Addr) (ns : List Str) (vs : List V) : Prop := ∃ x y, H p = some (.tup [.ref x, .ref y]) ∧ ExF H x C ns vs ∧ ExF H y C ns vs
theorem Two.same {H H' : Hp} {p C : Addr} (h : Two H p C) (s : Same H H') : Two H' p C := by
  obtain ⟨x, y, h1, h2, h3⟩ := h
  exact ⟨x, y, s _ _ h1, ext_same h2 s, ext_same h3 s⟩
theorem TwoF.same {H H' : Hp} {p C : Addr} {ns : List Str} {vs : List V} (h : TwoF H p C ns vs) (s : Same H H') : TwoF H' p C ns vs := by
  obtain ⟨x, y, h1, h2, h3⟩ := h
  exact ⟨x, y, s _ _ h1, h2.same s, h3.same s⟩
theorem TwoF.two {H : Hp} {p C : Addr} {ns : List Str} {vs : List V} (h : TwoF H p C ns vs) : Two H p C := by
  obtain ⟨x, y, h1, ⟨d, h2, h3⟩, ⟨e, h4, h5⟩⟩ := h
  exact ⟨x, y, h1, .inr ⟨d, _, h2, h3⟩, .inr ⟨e, _, h4, h5⟩⟩
/-- a comprehension over a tuple of two -/
theorem lc_two {K : PySem.W.Frag} {a : Addr} {x y : V} {g : TG} {tt : TT} {te : TE} {vs : List Nat} {σ : L2.St} {H1 : Hp} {D : Addr} {Qd : Hp → Prop} (Pv : V → Hp → Prop)
    (hS : ∀ v H H', Same H H' → Pv v H → Pv v H') (hU : ∀ v H us ws, Pv v H → H D = some (.lst us) → Pv v (upd H D (.lst ws)))
    (ha : H1 a = some (.tup [x, y])) (nD : H1 D = none)
    (st : ∀ z, (z = x ∨ z = y) → ∀ H (R : V → Hp → Prop) (N : Hp → Prop), Same H1 H → (∀ v H4, Same H H4 → Pv v H4 → R v H4) →
      g z (wipe σ vs) H fun σ2 H2 => wipe σ2 vs = wipe σ vs ∧ tt σ2 H2 fun b H3 => if b = true then te σ2 H3 R else N H3)
    (hd : ∀ H u v, Same H1 H → H D = some (.lst [u, v]) → Pv u H → Pv v H → Qd H) :
    ∃ W : Nat → Nat → Hp → Prop, (∃ m, W 0 m (upd H1 D (.lst []))) ∧ ∀ i m H, W i m H →
      ((Itt K a).stop i H ∧ Qd H) ∨ ((Itt K a).go i H ∧ ∃ Nx : Hp → Prop, (∀ H', Nx H' → ∃ m', m' < m ∧ W (i + 1) m' H') ∧ ∀ x H', (Itt K a).yld i H x H' → g x (wipe σ vs) H' fun σ2 H2 => wipe σ2 vs = wipe σ vs ∧ tt σ2 H2 fun b H3 =>
        if b = true then te σ2 H3 fun y H4 => ∃ acc, H4 D = some (.lst acc) ∧ acc.length < sizeLine ∧ Nx (upd H4 D (.lst (acc ++ [y]))) else Nx H3) := by
  have aD : a ≠ D := ne_of_none ha nD
  let Pw : Nat → Hp → Prop := fun i H => ∃ us, Same H1 H ∧ H D = some (.lst us) ∧ us.length = i ∧ ∀ u ∈ us, Pv u H
  have go : ∀ i z H, (z = x ∨ z = y) → i < 2 → Pw i H → g z (wipe σ vs) H fun σ2 H2 => wipe σ2 vs = wipe σ vs ∧ tt σ2 H2 fun b H3 =>
      if b = true then te σ2 H3 fun y H4 => ∃ acc, H4 D = some (.lst acc) ∧ acc.length < sizeLine ∧ Pw (i + 1) (upd H4 D (.lst (acc ++ [y]))) else Pw (i + 1) H3 := by
    rintro i z H hz hi ⟨us, s, e, l, p⟩
    refine st z hz H _ _ s fun v H4 s4 pv => ⟨us, s4 _ _ e, Nat.lt_of_lt_of_le (show us.length < 2 by omega) (by decide), us ++ [v], ?_, upd_same, ?_, ?_⟩
    · exact same_mut (s.trans s4) nD
    · rw [List.length_append, l]
      rfl
    · intro u hu
      rcases List.mem_append.mp hu with hu | hu
      · exact hU _ _ us _ (hS _ _ _ s4 (p u hu)) (s4 _ _ e)
      · rw [List.mem_singleton.mp hu]
        exact hU _ _ us _ pv (s4 _ _ e)
  refine ⟨fun i m H => m = 2 - i ∧ i ≤ 2 ∧ Pw i H, ⟨2, rfl, by omega, [], same_new nD, upd_same, rfl, fun u hu => by simp at hu⟩, ?_⟩
  rintro i m H ⟨rfl, hi, p⟩
  have ea : SqT K H a [x, y] := by
    obtain ⟨us, s, _⟩ := p
    exact .inl (.inl (s _ _ ha))
  by_cases hlt : i < 2
  · have hz : ∃ z, [x, y][i]? = some z ∧ (z = x ∨ z = y) := by
      have h2 : i = 0 ∨ i = 1 := by omega
      rcases h2 with rfl | rfl
      · exact ⟨x, rfl, .inl rfl⟩
      · exact ⟨y, rfl, .inr rfl⟩
    obtain ⟨z, e1, e2⟩ := hz
    refine .inr ⟨⟨_, z, ea, e1⟩, Pw (i + 1), fun H' q => ⟨2 - (i + 1), by omega, rfl, by omega, q⟩, ?_⟩
    rintro v H' ⟨rfl, hv⟩
    have e3 := (hv _ ea).symm.trans e1
    cases e3
    exact go i _ _ e2 hlt p
  · have e : i = 2 := by omega
    subst e
    refine .inl ⟨⟨_, ea, Nat.le_refl _⟩, ?_⟩
    obtain ⟨us, s, e, l, p⟩ := p
    match us, l, e, p with
    | [u, v], _, e, p => exact hd H u v s e (p u (by simp)) (p v (by simp))
theorem TwoF.mut {H : Hp} {p C m : Addr} {ns : List Str} {vs : List V} {xs ys : List V} (h : TwoF H p C ns vs) (e : H m = some (.lst xs)) : TwoF (upd H m (.lst ys)) p C ns vs := by
  have ex : ∀ {a C : Addr} {d : Option Addr}, H a = some (exo a C d) → a ≠ m := fun h => ne_of h e (by intro z; have z' : HO.ext _ = HO.lst _ := z; cases z')
  have ed : ∀ {d : Addr} {fs : List (Str × V)}, H d = some (exd d fs) → d ≠ m := fun h => ne_of h e (by intro z; have z' : HO.ext _ = HO.lst _ := z; cases z')
  obtain ⟨x, y, h1, ⟨d1, h2, h3⟩, ⟨d2, h4, h5⟩⟩ := h
  refine ⟨x, y, ?_, ⟨d1, ?_, ?_⟩, ⟨d2, ?_, ?_⟩⟩
  · rw [upd_ne (ne_of h1 e (by intro z; cases z))]
    exact h1
  · rw [upd_ne (ex h2)]
    exact h2
  · rw [upd_ne (ed h3)]
    exact h3
  · rw [upd_ne (ex h4)]
    exact h4
  · rw [upd_ne (ed h5)]
    exact h5
theorem Two.mut0 {H : Hp} {p C m : Addr} {xs ys : List V} (h : ∃ x y, H p = some (.tup [.ref x, .ref y]) ∧ H x = some (exo x C none) ∧ H y = some (exo y C none)) (e : H m = some (.lst xs)) : Two (upd H m (.lst ys)) p C := by
  have ex : ∀ {a C : Addr} {d : Option Addr}, H a = some (exo a C d) → a ≠ m := fun h => ne_of h e (by intro z; have z' : HO.ext _ = HO.lst _ := z; cases z')
  obtain ⟨x, y, h1, h2, h3⟩ := h
  refine ⟨x, y, ?_, .inl ?_, .inl ?_⟩
  · rw [upd_ne (ne_of h1 e (by intro z; cases z))]
    exact h1
  · rw [upd_ne (ex h2)]
    exact h2
  · rw [upd_ne (ex h3)]
    exact h3
theorem lc_attr {K : PySem.W.Frag} {p C : Addr} {ns : List Str} {f : Str} {v : V} {us : List V} {i : Nat} {σ : L2.St} {H1 : Hp} {D : Addr} {Qd : Hp → Prop} (xf : XfC K C) (nf : PySem.W.findIn K (.ref C) f = some none) (hl : (ns.zip us).reverse.lookup f = some v) (tw : TwoF H1 p C ns us) (nD : H1 D = none)
    (hw : ∀ z : V, wipe ((wipe σ [i]).set i (some z)) [i] = wipe σ [i]) (hg : ∀ z : V, ((wipe σ [i]).set i (some z))[i]? = some (some z)) (hd : ∀ H, Same H1 H → H D = some (.lst [v, v]) → Qd H) :
    ∃ W : Nat → Nat → Hp → Prop, (∃ m, W 0 m (upd H1 D (.lst []))) ∧ ∀ j m H, W j m H →
      ((Itt K p).stop j H ∧ Qd H) ∨ ((Itt K p).go j H ∧ ∃ Nx : Hp → Prop, (∀ H', Nx H' → ∃ m', m' < m ∧ W (j + 1) m' H') ∧ ∀ x H', (Itt K p).yld j H x H' → gName i x (wipe σ [i]) H' fun σ2 H2 => wipe σ2 [i] = wipe σ [i] ∧ tYes σ2 H2 fun b H3 =>
        if b = true then tExF K f (tVar i) σ2 H3 fun y H4 => ∃ acc, H4 D = some (.lst acc) ∧ acc.length < sizeLine ∧ Nx (upd H4 D (.lst (acc ++ [y]))) else Nx H3) := by
  obtain ⟨x, y, ht, fx, fy⟩ := tw
  refine lc_two (fun z _ => z = v) (fun _ _ _ _ h => h) (fun _ _ _ _ h _ => h) ht nD ?_ ?_
  · intro z hz Hc R N sc hR
    have hf : ∃ e, z = .ref e ∧ ExF H1 e C ns us := by
      rcases hz with rfl | rfl
      · exact ⟨x, rfl, fx⟩
      · exact ⟨y, rfl, fy⟩
    obtain ⟨e, rfl, d, h1, h2⟩ := hf
    refine ⟨hw _, ?_⟩
    unfold tYes
    refine iteT ?_
    exact ⟨.ref e, hg _, e, C, d, _, v, rfl, sc _ _ h1, sc _ _ h2, xf, nf, hl, hR _ _ (Same.refl _) rfl⟩
  · rintro H u w s e rfl rfl
    exact hd H s e
theorem lc_trip {K : PySem.W.Frag} {p C : Addr} {va vb vc : V} {i : Nat} {σ : L2.St} {H1 : Hp} {D : Addr} {Qd : Hp → Prop} (xf : XfC K C) (n1 : PySem.W.findIn K (.ref C) "stage" = some none) (n2 : PySem.W.findIn K (.ref C) "module" = some none) (n3 : PySem.W.findIn K (.ref C) "place" = some none)
    (tw : TwoF H1 p C ["stage", "module", "place"] [va, vb, vc]) (nD : H1 D = none)
    (hw : ∀ z : V, wipe ((wipe σ [i]).set i (some z)) [i] = wipe σ [i]) (hg : ∀ z : V, ((wipe σ [i]).set i (some z))[i]? = some (some z))
    (hd : ∀ H (q1 q2 : Addr), Same H1 H → H D = some (.lst [.ref q1, .ref q2]) → H q1 = some (.tup [va, vb, vc]) → H q2 = some (.tup [va, vb, vc]) → Qd H) :
    ∃ W : Nat → Nat → Hp → Prop, (∃ m, W 0 m (upd H1 D (.lst []))) ∧ ∀ j m H, W j m H →
      ((Itt K p).stop j H ∧ Qd H) ∨ ((Itt K p).go j H ∧ ∃ Nx : Hp → Prop, (∀ H', Nx H' → ∃ m', m' < m ∧ W (j + 1) m' H') ∧ ∀ x H', (Itt K p).yld j H x H' → gName i x (wipe σ [i]) H' fun σ2 H2 => wipe σ2 [i] = wipe σ [i] ∧ tYes σ2 H2 fun b H3 =>
        if b = true then tTup (tCons (tExF K "stage" (tVar i)) (tCons (tExF K "module" (tVar i)) (tCons (tExF K "place" (tVar i)) tNil))) σ2 H3 fun y H4 => ∃ acc, H4 D = some (.lst acc) ∧ acc.length < sizeLine ∧ Nx (upd H4 D (.lst (acc ++ [y]))) else Nx H3) := by
  obtain ⟨x, y, ht, fx, fy⟩ := tw
  refine lc_two (fun z H => ∃ q : Addr, z = .ref q ∧ H q = some (.tup [va, vb, vc])) ?_ ?_ ht nD ?_ ?_
  · rintro _ H H' s ⟨q, rfl, h⟩
    exact ⟨q, rfl, s _ _ h⟩
  · rintro _ H us ws ⟨q, rfl, h⟩ e
    exact ⟨q, rfl, by rw [upd_ne (ne_of h e (by intro z; cases z))]; exact h⟩
  · intro z hz Hc R N sc hR
    have hf : ∃ e, z = .ref e ∧ ExF H1 e C ["stage", "module", "place"] [va, vb, vc] := by
      rcases hz with rfl | rfl
      · exact ⟨x, rfl, fx⟩
      · exact ⟨y, rfl, fy⟩
    obtain ⟨e, rfl, d, h1, h2⟩ := hf
    refine ⟨hw _, ?_⟩
    unfold tYes
    refine iteT ?_
    refine ⟨.ref e, hg _, e, C, d, _, va, rfl, sc _ _ h1, sc _ _ h2, xf, n1, rfl, .ref e, hg _, e, C, d, _, vb, rfl, sc _ _ h1, sc _ _ h2, xf, n2, rfl,
      .ref e, hg _, e, C, d, _, vc, rfl, sc _ _ h1, sc _ _ h2, xf, n3, rfl, by show 3 ≤ sizeLine; decide, fun q nq => ?_⟩
    exact hR _ _ (same_new nq) ⟨q, rfl, upd_same⟩
  · rintro H u w s e ⟨q1, rfl, h1⟩ ⟨q2, rfl, h2⟩
    exact hd H q1 q2 s e h1 h2
/-- the promise of the whole -/
def spAll (K : PySem.W.Frag) (cs : List Addr) : Sp := fun vs H Q _ => ∃ (d c : Addr) (t : Nat), vs = [.ref d] ∧ Deck H d c t ∧ t < 100000000000 ∧
  ∀ (q m hs du : Addr) (ps : List Addr) (H' : Hp) (x : PyData), But d c H H' → Deck H' d c (t + 3) → H' q = some (.tup [.ref m, .ref hs, .ref du]) → H' m = some (.lst (ps.map V.ref)) → ps.length = 10 →
    (∀ (i : Nat) (p : Addr), ps[i]? = some p → ∃ C, cs[i]? = some C ∧ Two H' p C) → Dp K H' (.ref hs) x → Dp K H' (.ref du) x →
    x.showable = true → x.hasDict = false → x.depth ≤ 150 → x.shown.length ≤ sizeLine → Q (.ref q) H'
section
variable {P : Program} {w : World} {K : PySem.W.Frag} {mg : Str → Option Value} {base : Heap} {cFault cNested cRing cNoRoom cNoPaper cUnlike cTooMany cNoText cNoName cNoPath cWireError : Addr}
theorem ok_all {f : Addr} {fd : FuncData} (D : DefAt K mg "_law_all" ["_law_deck_here"] s_l_all f fd) (M : Bi mg) (Z : XX P w K mg base cFault cNested cRing cNoRoom cNoPaper cUnlike cTooMany cNoText cNoName cNoPath cWireError)
    (C_l_pick : Cal P w K mg base L2.CX0 2 "_law_pick" ["_law_deck_here", "_law_some"] (spPick K)) :
    Cal P w K mg base L2.CX0 3 "_law_all" ["_law_deck_here"] (spAll K [cFault, cNested, cRing, cNoRoom, cNoPaper, cUnlike, cTooMany, cNoText, cNoName, cNoPath]) := by
  have S := S_l_all
  refine cal_of D.fn D.mgf D.bs D.kbs S (fun vs H Q E h => ?_) (fun cdv A outer s H vs Q E hq hr h => ?_)
  · obtain ⟨d, c, t, rfl, _⟩ := h
    rfl
  · obtain ⟨d, c, t, rfl, dk, ht, q⟩ := h
    refine ⟨_, (pss_cons (ps_set (i := 1) S.nd rfl (.inr rfl) (pe_lst (pa_cons pe_non (pa_cons pe_int (pa_cons pe_str (pa_cons (pe_tup (pa_cons pe_int (pa_cons pe_int pa_nil))) (pa_cons (pe_tup (pa_cons pe_str (pa_cons pe_str pa_nil))) (pa_cons (pe_op op_pow pe_int pe_int) (pa_cons (pe_tup (pa_cons pe_str (pa_cons pe_str (pa_cons (pe_tup (pa_cons pe_int (pa_cons pe_int pa_nil))) pa_nil)))) pa_nil)))))))))
 (pss_cons (ps_asg (pe_lc (own := [("_law_k", 5)]) (g := gName 5) (tt := tYes) rfl S.nd (pi_range1 (by rfl) M.range_ (pa_cons pe_int pa_nil)) (blkOk_by (own := [("_law_k", 5)]) (N := N_l_all) (sc := defScope s_l_all) (by decide +kernel)) (fun _ _ _ _ _ => pg_name (i := 5) S.nd rfl (.inl rfl)) (fun _ _ _ _ _ => pts_nil) (fun _ _ _ _ _ => (pe_c C_l_pick pass0 hq hr (by omega) (by rfl) (pa_cons (pv 0) (pa_cons (pv 1) pa_nil))))) (pg_unl (by rfl) (pgs_cons (pg_name (i := 2) S.nd rfl (.inl rfl)) (pgs_cons (pg_name (i := 3) S.nd rfl (.inl rfl)) (pgs_cons (pg_name (i := 4) S.nd rfl (.inl rfl)) pgs_nil)))))
 (pss_cons (ps_set (i := 6) S.nd rfl (.inl rfl) (pe_lst (pa_cons (pe_tup (pa_cons (pe_ex Z.Fault pass0 hr (by omega) (by rfl) (pa_cons (pv 2) (pa_cons (pv 3) (pa_cons (pv 4) pa_nil)))) (pa_cons (pe_exK Z.Fault pass0 hr (by omega) (by rfl) (pk_cons (pv 4) (pk_cons (pv 2) (pk_cons (pv 3) pk_nil)))) pa_nil))) (pa_cons (pe_tup (pa_cons (pe_ex Z.Nested pass0 hr (by omega) (by rfl) (pa_cons (pv 2) pa_nil)) (pa_cons (pe_exK Z.Nested pass0 hr (by omega) (by rfl) (pk_cons (pv 2) pk_nil)) pa_nil))) (pa_cons (pe_tup (pa_cons (pe_ex Z.Ring pass0 hr (by omega) (by rfl) (pa_cons (pv 3) pa_nil)) (pa_cons (pe_exK Z.Ring pass0 hr (by omega) (by rfl) (pk_cons (pv 3) pk_nil)) pa_nil))) pa_nil)))))
 (pss_cons (ps_set (i := 6) S.nd rfl (.inl rfl) (pe_op op_cat (pv 6) (pe_lst (pa_cons (pe_tup (pa_cons (pe_ex Z.NoRoom pass0 hr (by omega) (by rfl) (pa_cons (pv 4) pa_nil)) (pa_cons (pe_exK Z.NoRoom pass0 hr (by omega) (by rfl) (pk_cons (pv 4) pk_nil)) pa_nil))) (pa_cons (pe_tup (pa_cons (pe_ex0 PySem.F.excBase_Exception Z.NoPaper.1 Z.NoPaper.2.1 Z.NoPaper.2.2 (by rfl)) (pa_cons (pe_ex0 PySem.F.excBase_Exception Z.NoPaper.1 Z.NoPaper.2.1 Z.NoPaper.2.2 (by rfl)) pa_nil))) (pa_cons (pe_tup (pa_cons (pe_ex0 PySem.F.excBase_Exception Z.Unlike.1 Z.Unlike.2.1 Z.Unlike.2.2 (by rfl)) (pa_cons (pe_ex0 PySem.F.excBase_Exception Z.Unlike.1 Z.Unlike.2.1 Z.Unlike.2.2 (by rfl)) pa_nil))) pa_nil))))))
 (pss_cons (ps_set (i := 6) S.nd rfl (.inl rfl) (pe_op op_cat (pv 6) (pe_lst (pa_cons (pe_tup (pa_cons (pe_ex Z.TooMany pass0 hr (by omega) (by rfl) (pa_cons (pv 2) pa_nil)) (pa_cons (pe_exK Z.TooMany pass0 hr (by omega) (by rfl) (pk_cons (pv 2) pk_nil)) pa_nil))) (pa_cons (pe_tup (pa_cons (pe_ex Z.NoText pass0 hr (by omega) (by rfl) (pa_cons (pv 3) pa_nil)) (pa_cons (pe_exK Z.NoText pass0 hr (by omega) (by rfl) (pk_cons (pv 3) pk_nil)) pa_nil))) (pa_cons (pe_tup (pa_cons (pe_ex Z.NoName pass0 hr (by omega) (by rfl) (pa_cons (pv 4) pa_nil)) (pa_cons (pe_exK Z.NoName pass0 hr (by omega) (by rfl) (pk_cons (pv 4) pk_nil)) pa_nil))) pa_nil))))))
 (pss_cons (ps_expr (pe_bm PySem.F.plainAttrs_list PySem.F.slot_list_append PySem.F.type_list_append mt_append (pv 6) (pa_cons (pe_tup (pa_cons (pe_ex Z.NoPath pass0 hr (by omega) (by rfl) (pa_cons (pv 2) pa_nil)) (pa_cons (pe_exK Z.NoPath pass0 hr (by omega) (by rfl) (pk_cons (pv 2) pk_nil)) pa_nil))) pa_nil)))
 (pss_cons (ps_set (i := 7) S.nd rfl (.inl rfl) (pe_lst (pa_cons (pe_lc (own := [("_law_e", 8)]) (g := gName 8) (tt := tYes) (te := (tTup (tCons (tExF K "stage" (tVar 8)) (tCons (tExF K "module" (tVar 8)) (tCons (tExF K "place" (tVar 8)) tNil))))) rfl S.nd (pi_tup (pe_ix ix_list (pv 6) pe_int (fun _ _ => rfl))) (blkOk_by (own := [("_law_e", 8)]) (N := N_l_all) (sc := defScope s_l_all) (by decide +kernel)) (fun _ _ _ _ _ => pg_name (i := 8) S.nd rfl (.inl rfl)) (fun _ _ _ _ _ => pts_nil) (fun _ _ _ _ _ => (pe_tup (pa_cons (pe_exf (pv 8)) (pa_cons (pe_exf (pv 8)) (pa_cons (pe_exf (pv 8)) pa_nil)))))) (pa_cons (pe_lc (own := [("_law_e", 8)]) (g := gName 8) (tt := tYes) (te := (tExF K "ring" (tVar 8))) rfl S.nd (pi_tup (pe_ix ix_list (pv 6) pe_int (fun _ _ => rfl))) (blkOk_by (own := [("_law_e", 8)]) (N := N_l_all) (sc := defScope s_l_all) (by decide +kernel)) (fun _ _ _ _ _ => pg_name (i := 8) S.nd rfl (.inl rfl)) (fun _ _ _ _ _ => pts_nil) (fun _ _ _ _ _ => (pe_exf (pv 8)))) (pa_cons (pe_lc (own := [("_law_e", 8)]) (g := gName 8) (tt := tYes) (te := (tExF K "ring" (tVar 8))) rfl S.nd (pi_tup (pe_ix ix_list (pv 6) pe_int (fun _ _ => rfl))) (blkOk_by (own := [("_law_e", 8)]) (N := N_l_all) (sc := defScope s_l_all) (by decide +kernel)) (fun _ _ _ _ _ => pg_name (i := 8) S.nd rfl (.inl rfl)) (fun _ _ _ _ _ => pts_nil) (fun _ _ _ _ _ => (pe_exf (pv 8)))) pa_nil)))))
 (pss_cons (ps_set (i := 7) S.nd rfl (.inl rfl) (pe_op op_cat (pv 7) (pe_lst (pa_cons (pe_lc (own := [("_law_e", 8)]) (g := gName 8) (tt := tYes) (te := (tExF K "many" (tVar 8))) rfl S.nd (pi_tup (pe_ix ix_list (pv 6) pe_int (fun _ _ => rfl))) (blkOk_by (own := [("_law_e", 8)]) (N := N_l_all) (sc := defScope s_l_all) (by decide +kernel)) (fun _ _ _ _ _ => pg_name (i := 8) S.nd rfl (.inl rfl)) (fun _ _ _ _ _ => pts_nil) (fun _ _ _ _ _ => (pe_exf (pv 8)))) (pa_cons (pe_lst pa_nil) (pa_cons (pe_lst pa_nil) (pa_cons (pe_lc (own := [("_law_e", 8)]) (g := gName 8) (tt := tYes) (te := (tExF K "most" (tVar 8))) rfl S.nd (pi_tup (pe_ix ix_list (pv 6) pe_int (fun _ _ => rfl))) (blkOk_by (own := [("_law_e", 8)]) (N := N_l_all) (sc := defScope s_l_all) (by decide +kernel)) (fun _ _ _ _ _ => pg_name (i := 8) S.nd rfl (.inl rfl)) (fun _ _ _ _ _ => pts_nil) (fun _ _ _ _ _ => (pe_exf (pv 8)))) (pa_cons (pe_lc (own := [("_law_e", 8)]) (g := gName 8) (tt := tYes) (te := (tExF K "place" (tVar 8))) rfl S.nd (pi_tup (pe_ix ix_list (pv 6) pe_int (fun _ _ => rfl))) (blkOk_by (own := [("_law_e", 8)]) (N := N_l_all) (sc := defScope s_l_all) (by decide +kernel)) (fun _ _ _ _ _ => pg_name (i := 8) S.nd rfl (.inl rfl)) (fun _ _ _ _ _ => pts_nil) (fun _ _ _ _ _ => (pe_exf (pv 8)))) pa_nil))))))))
 (pss_cons (ps_set (i := 7) S.nd rfl (.inl rfl) (pe_op op_cat (pv 7) (pe_lst (pa_cons (pe_lc (own := [("_law_e", 8)]) (g := gName 8) (tt := tYes) (te := (tExF K "name" (tVar 8))) rfl S.nd (pi_tup (pe_ix ix_list (pv 6) pe_int (fun _ _ => rfl))) (blkOk_by (own := [("_law_e", 8)]) (N := N_l_all) (sc := defScope s_l_all) (by decide +kernel)) (fun _ _ _ _ _ => pg_name (i := 8) S.nd rfl (.inl rfl)) (fun _ _ _ _ _ => pts_nil) (fun _ _ _ _ _ => (pe_exf (pv 8)))) (pa_cons (pe_lc (own := [("_law_e", 8)]) (g := gName 8) (tt := tYes) (te := (tExF K "path" (tVar 8))) rfl S.nd (pi_tup (pe_ix ix_list (pv 6) pe_int (fun _ _ => rfl))) (blkOk_by (own := [("_law_e", 8)]) (N := N_l_all) (sc := defScope s_l_all) (by decide +kernel)) (fun _ _ _ _ _ => pg_name (i := 8) S.nd rfl (.inl rfl)) (fun _ _ _ _ _ => pts_nil) (fun _ _ _ _ _ => (pe_exf (pv 8)))) pa_nil)))))
 (pss_cons (ps_set (i := 9) S.nd rfl (.inl rfl) (pe_lst (pa_cons (pe_op op_rep (pe_lst (pa_cons (pe_tup (pa_cons (pv 2) (pa_cons (pv 3) (pa_cons (pv 4) pa_nil)))) pa_nil)) pe_int) (pa_cons (pe_op op_rep (pe_lst (pa_cons (pv 2) pa_nil)) pe_int) (pa_cons (pe_op op_rep (pe_lst (pa_cons (pv 3) pa_nil)) pe_int) (pa_cons (pe_op op_rep (pe_lst (pa_cons (pv 4) pa_nil)) pe_int) (pa_cons (pe_lst pa_nil) (pa_cons (pe_lst pa_nil) (pa_cons (pe_op op_rep (pe_lst (pa_cons (pv 2) pa_nil)) pe_int) (pa_cons (pe_op op_rep (pe_lst (pa_cons (pv 3) pa_nil)) pe_int) (pa_cons (pe_op op_rep (pe_lst (pa_cons (pv 4) pa_nil)) pe_int) (pa_cons (pe_op op_rep (pe_lst (pa_cons (pv 2) pa_nil)) pe_int) pa_nil))))))))))))
 (pss_one (ps_ret (pe_tup (pa_cons (pv 6) (pa_cons (pv 7) (pa_cons (pv 9) pa_nil)))))))))))))))), ?_⟩
    -- what may be picked
    refine ⟨by show 2 ≤ sizeLine; decide, fun t1 n1 => ?_⟩
    refine ⟨by show 2 ≤ sizeLine; decide, fun t2 n2 => ?_⟩
    refine ⟨10, 39, rfl, rfl, ⟨by decide, by decide, by decide⟩, ?_⟩
    refine ⟨by show 2 ≤ sizeLine; decide, fun t3 n3 => ?_⟩
    refine ⟨by show 3 ≤ sizeLine; decide, fun t4 n4 => ?_⟩
    refine ⟨by show 7 ≤ sizeLine; decide, fun l nl => ?_⟩
    have u1 := same_new (o := .tup [.int 3, .int 4]) n1
    have u2 := u1.trans (same_new (o := .tup [.str "m", .str "a"]) n2)
    have u3 := u2.trans (same_new (o := .tup [.int 0, .int 1]) n3)
    have u4 := u3.trans (same_new (o := .tup [.str "read", .str "a", .ref t3]) n4)
    have m1 := dk.free n1
    have m2 := dk.free (u1.free n2)
    have m3 := dk.free (u2.free n3)
    have m4 := dk.free (u3.free n4)
    have ml := dk.free (u4.free nl)
    have dk5 := dk.same (u4.trans (same_new (o := .lst [.non, .int 0, .str "a", .ref t1, .ref t2, .int (10 ^ 39), .ref t4]) nl))
    have w4 := same_new (o := .lst [.non, .int 0, .str "a", .ref t1, .ref t2, .int (10 ^ 39), .ref t4]) nl
    have w3 := (same_new (o := .tup [.str "read", .str "a", .ref t3]) n4).trans w4
    have w2 := (same_new (o := .tup [.int 0, .int 1]) n3).trans w3
    have w1 := (same_new (o := .tup [.str "m", .str "a"]) n2).trans w2
    have k1 : P7 d c _ (.ref t1) _ := .one (w1 _ _ upd_same) m1.1 m1.2
    have k2 : P7 d c _ (.ref t2) _ := .two (w2 _ _ upd_same) m2.1 m2.2
    have k4 : P7 d c _ (.ref t4) _ := .tre (w4 _ _ upd_same) (w3 _ _ upd_same) m4.1 m4.2 m3.1 m3.2
    have el : upd (upd (upd (upd (upd H t1 (.tup [.int 3, .int 4])) t2 (.tup [.str "m", .str "a"])) t3 (.tup [.int 0, .int 1])) t4 (.tup [.str "read", .str "a", .ref t3])) l (.lst [.non, .int 0, .str "a", .ref t1, .ref t2, .int (10 ^ 39), .ref t4]) l =
      some (.lst [.non, .int 0, .str "a", .ref t1, .ref t2, .int (10 ^ 39), .ref t4]) := upd_same
    have b5 : But d c H (upd (upd (upd (upd (upd H t1 (.tup [.int 3, .int 4])) t2 (.tup [.str "m", .str "a"])) t3 (.tup [.int 0, .int 1])) t4 (.tup [.str "read", .str "a", .ref t3])) l (.lst [.non, .int 0, .str "a", .ref t1, .ref t2, .int (10 ^ 39), .ref t4])) := But.of (u4.trans w4)
    revert dk5 k1 k2 k4 el b5
    show _ → _ → _ → _ → _ → _ → tSeq _ _ _ _ (upd (upd (upd (upd (upd H t1 (.tup [.int 3, .int 4])) t2 (.tup [.str "m", .str "a"])) t3 (.tup [.int 0, .int 1])) t4 (.tup [.str "read", .str "a", .ref t3])) l (.lst [.non, .int 0, .str "a", .ref t1, .ref t2, .int (10 ^ 39), .ref t4]))
    generalize upd (upd (upd (upd (upd H t1 (.tup [.int 3, .int 4])) t2 (.tup [.str "m", .str "a"])) t3 (.tup [.int 0, .int 1])) t4 (.tup [.str "read", .str "a", .ref t3])) l (.lst [.non, .int 0, .str "a", .ref t1, .ref t2, .int (10 ^ 39), .ref t4]) = H1
    intro dk5 k1 k2 k4 el b5
    have all7 : ∀ (H' : Hp) (i : Nat) (x : V), But d c H1 H' → [V.non, .int 0, .str "a", .ref t1, .ref t2, .int (10 ^ 39), .ref t4][i]? = some x → ∃ D, P7 d c H' x D := by
      intro H' i x b hx
      have hm := List.mem_of_getElem? hx
      simp only [List.mem_cons, List.not_mem_nil, or_false] at hm
      rcases hm with rfl | rfl | rfl | rfl | rfl | rfl | rfl
      · exact ⟨_, .non⟩
      · exact ⟨_, .nil⟩
      · exact ⟨_, .let⟩
      · exact ⟨_, k1.but b⟩
      · exact ⟨_, k2.but b⟩
      · exact ⟨_, .big⟩
      · exact ⟨_, k4.but b⟩
    -- three of them
    refine ⟨3, rfl, by decide, by decide, ?_⟩
    intro D1 nD
    have fD := dk5.free nD
    have lD : l ≠ D1 := ne_of_none el nD
    refine lc_range (lo := 0) (n := 3) (fun i H' => ∃ (vs : List V), But d c H1 H' ∧ Deck H' d c (t + i) ∧ H' D1 = some (.lst vs) ∧ vs.length = i ∧ ∀ v ∈ vs, ∃ x, P7 d c H' v x) ?_ ?_ ?_
    · exact ⟨[], But.of (same_new nD), dk5.new nD, upd_same, rfl, fun _ h => by simp at h⟩
    · rintro i H' hi ⟨vs, bt, dk', eD, hl, hv⟩
      refine ⟨rfl, ?_⟩
      unfold tYes
      refine iteT ?_
      refine ⟨.ref d, rfl, .ref l, rfl, d, c, t + i, .ref l, _, rfl, .lst (.inl (.inl (bt _ _ ml.1 ml.2 el))), by show 1 ≤ 7; decide, by show 7 < 1000000000; decide, fun z => ml.1 (V.ref.inj z), fun z => ml.2 (V.ref.inj z), dk', by omega, fun j x H4 ex bt4 dk4 => ?_⟩
      have eD4 := bt4 _ _ fD.1 fD.2 eD
      obtain ⟨y, hy⟩ := all7 H4 j x (bt.trans bt4) ex
      have up : ∀ {v : V} {x : PyData} {ys : List V}, P7 d c H4 v x → P7 d c (upd H4 D1 (.lst ys)) v x := by
        intro v x ys h
        have nn : ∀ {p : Addr} {zs : List V}, H4 p = some (.tup zs) → p ≠ D1 := fun h => ne_of h eD4 (by intro z; cases z)
        cases h with
        | non => exact .non
        | nil => exact .nil
        | «let» => exact .let
        | big => exact .big
        | one h n1 n2 => exact .one (by rw [upd_ne (nn h)]; exact h) n1 n2
        | two h n1 n2 => exact .two (by rw [upd_ne (nn h)]; exact h) n1 n2
        | tre h h2 n1 n2 n3 n4 => exact .tre (by rw [upd_ne (nn h)]; exact h) (by rw [upd_ne (nn h2)]; exact h2) n1 n2 n3 n4
      refine ⟨_, eD4, ?_, vs ++ [x], (bt.trans bt4).mut nD, dk4.mut fD.1.symm fD.2.symm, upd_same, ?_, ?_⟩
      · rw [hl]
        exact Nat.lt_of_lt_of_le hi (by decide)
      · rw [List.length_append, hl]
        rfl
      · intro v hv'
        rcases List.mem_append.mp hv' with hv' | hv'
        · obtain ⟨x', hx'⟩ := hv v hv'
          exact ⟨x', up (hx'.but bt4)⟩
        · rw [List.mem_singleton.mp hv']
          exact ⟨y, up hy⟩
    rintro H2 ⟨vs, bt, dk2, eD, hl, hv⟩
    match vs, hl, hv, eD with
    | [va, vb, vc], _, hv, eD =>
    obtain ⟨xa, pa⟩ := hv va (by simp)
    obtain ⟨xb, pb⟩ := hv vb (by simp)
    obtain ⟨xc, pc⟩ := hv vc (by simp)
    refine ⟨D1, _, rfl, .inl (.inl eD), rfl, va, [vb, vc], rfl, vb, [vc], rfl, vc, [], rfl, rfl, ?_⟩
    have b0 := b5.trans bt
    refine ⟨va, rfl, vb, rfl, vc, rfl, rfl, fun x0 dx0 A0 na0 nb0 nc0 ia0 ib0 ic0 => ?_⟩
    have sa0 : Same H2 A0 := newSame na0 nb0 ic0
    have fx0 : ExF A0 x0 cFault ["stage", "module", "place"] [va, vb, vc] := ⟨dx0, ia0, ib0⟩
    refine ⟨vc, rfl, va, rfl, vb, rfl, rfl, rfl, fun y0 dy0 B0 ma0 mb0 mc0 ja0 jb0 jc0 => ?_⟩
    have sb0 : Same A0 B0 := newSame ma0 mb0 jc0
    have fy0 : ExF B0 y0 cFault ["stage", "module", "place"] [va, vb, vc] := ⟨dy0, ja0, jb0⟩
    refine ⟨by show 2 ≤ sizeLine; decide, fun p0 np0 => ?_⟩
    have sl0 : Same H2 (upd B0 p0 (.tup [.ref x0, .ref y0])) := (sa0.trans sb0).trans (same_new np0)
    have tw0 : TwoF (upd B0 p0 (.tup [.ref x0, .ref y0])) p0 cFault ["stage", "module", "place"] [va, vb, vc] := ⟨x0, y0, upd_same, fx0.same (sb0.trans (same_new np0)), fy0.same (same_new np0)⟩
    revert sl0 tw0
    generalize upd B0 p0 (.tup [.ref x0, .ref y0]) = G0
    intro sl0 tw0
    refine ⟨va, rfl, rfl, fun x1 dx1 A1 na1 nb1 nc1 ia1 ib1 ic1 => ?_⟩
    have sa1 : Same G0 A1 := newSame na1 nb1 ic1
    have fx1 : ExF A1 x1 cNested ["ring"] [va] := ⟨dx1, ia1, ib1⟩
    refine ⟨va, rfl, rfl, rfl, fun y1 dy1 B1 ma1 mb1 mc1 ja1 jb1 jc1 => ?_⟩
    have sb1 : Same A1 B1 := newSame ma1 mb1 jc1
    have fy1 : ExF B1 y1 cNested ["ring"] [va] := ⟨dy1, ja1, jb1⟩
    refine ⟨by show 2 ≤ sizeLine; decide, fun p1 np1 => ?_⟩
    have sl1 : Same G0 (upd B1 p1 (.tup [.ref x1, .ref y1])) := (sa1.trans sb1).trans (same_new np1)
    have tw1 : TwoF (upd B1 p1 (.tup [.ref x1, .ref y1])) p1 cNested ["ring"] [va] := ⟨x1, y1, upd_same, fx1.same (sb1.trans (same_new np1)), fy1.same (same_new np1)⟩
    revert sl1 tw1
    generalize upd B1 p1 (.tup [.ref x1, .ref y1]) = G1
    intro sl1 tw1
    refine ⟨vb, rfl, rfl, fun x2 dx2 A2 na2 nb2 nc2 ia2 ib2 ic2 => ?_⟩
    have sa2 : Same G1 A2 := newSame na2 nb2 ic2
    have fx2 : ExF A2 x2 cRing ["ring"] [vb] := ⟨dx2, ia2, ib2⟩
    refine ⟨vb, rfl, rfl, rfl, fun y2 dy2 B2 ma2 mb2 mc2 ja2 jb2 jc2 => ?_⟩
    have sb2 : Same A2 B2 := newSame ma2 mb2 jc2
    have fy2 : ExF B2 y2 cRing ["ring"] [vb] := ⟨dy2, ja2, jb2⟩
    refine ⟨by show 2 ≤ sizeLine; decide, fun p2 np2 => ?_⟩
    have sl2 : Same G1 (upd B2 p2 (.tup [.ref x2, .ref y2])) := (sa2.trans sb2).trans (same_new np2)
    have tw2 : TwoF (upd B2 p2 (.tup [.ref x2, .ref y2])) p2 cRing ["ring"] [vb] := ⟨x2, y2, upd_same, fx2.same (sb2.trans (same_new np2)), fy2.same (same_new np2)⟩
    revert sl2 tw2
    generalize upd B2 p2 (.tup [.ref x2, .ref y2]) = G2
    intro sl2 tw2
    refine ⟨by show 3 ≤ sizeLine; decide, fun m0 nm0 => ?_⟩
    have sm0 : Same G2 (upd G2 m0 (.lst [.ref p0, .ref p1, .ref p2])) := same_new nm0
    have em0 : (upd G2 m0 (.lst [.ref p0, .ref p1, .ref p2])) m0 = some (.lst [.ref p0, .ref p1, .ref p2]) := upd_same
    revert sm0 em0
    generalize upd G2 m0 (.lst [.ref p0, .ref p1, .ref p2]) = L0
    intro sm0 em0
    refine ⟨.ref m0, rfl, ?_⟩
    refine ⟨vc, rfl, rfl, fun x3 dx3 A3 na3 nb3 nc3 ia3 ib3 ic3 => ?_⟩
    have sa3 : Same L0 A3 := newSame na3 nb3 ic3
    have fx3 : ExF A3 x3 cNoRoom ["many"] [vc] := ⟨dx3, ia3, ib3⟩
    refine ⟨vc, rfl, rfl, rfl, fun y3 dy3 B3 ma3 mb3 mc3 ja3 jb3 jc3 => ?_⟩
    have sb3 : Same A3 B3 := newSame ma3 mb3 jc3
    have fy3 : ExF B3 y3 cNoRoom ["many"] [vc] := ⟨dy3, ja3, jb3⟩
    refine ⟨by show 2 ≤ sizeLine; decide, fun p3 np3 => ?_⟩
    have sl3 : Same L0 (upd B3 p3 (.tup [.ref x3, .ref y3])) := (sa3.trans sb3).trans (same_new np3)
    have tw3 : TwoF (upd B3 p3 (.tup [.ref x3, .ref y3])) p3 cNoRoom ["many"] [vc] := ⟨x3, y3, upd_same, fx3.same (sb3.trans (same_new np3)), fy3.same (same_new np3)⟩
    revert sl3 tw3
    generalize upd B3 p3 (.tup [.ref x3, .ref y3]) = G3
    intro sl3 tw3
    refine fun x4 nx4 => ?_
    refine fun y4 ny4 => ?_
    refine ⟨by show 2 ≤ sizeLine; decide, fun p4 np4 => ?_⟩
    have sx4 := same_new (o := exo x4 cNoPaper none) nx4
    have sy4 := same_new (o := exo y4 cNoPaper none) ny4
    have sl4 : Same G3 (upd (upd (upd G3 x4 (exo x4 cNoPaper none)) y4 (exo y4 cNoPaper none)) p4 (.tup [.ref x4, .ref y4])) := (sx4.trans sy4).trans (same_new np4)
    have tw4 : ∃ x y, (upd (upd (upd G3 x4 (exo x4 cNoPaper none)) y4 (exo y4 cNoPaper none)) p4 (.tup [.ref x4, .ref y4])) p4 = some (.tup [.ref x, .ref y]) ∧ (upd (upd (upd G3 x4 (exo x4 cNoPaper none)) y4 (exo y4 cNoPaper none)) p4 (.tup [.ref x4, .ref y4])) x = some (exo x cNoPaper none) ∧ (upd (upd (upd G3 x4 (exo x4 cNoPaper none)) y4 (exo y4 cNoPaper none)) p4 (.tup [.ref x4, .ref y4])) y = some (exo y cNoPaper none) := ⟨x4, y4, upd_same, same_new np4 _ _ (sy4 _ _ upd_same), same_new np4 _ _ upd_same⟩
    revert sl4 tw4
    generalize upd (upd (upd G3 x4 (exo x4 cNoPaper none)) y4 (exo y4 cNoPaper none)) p4 (.tup [.ref x4, .ref y4]) = G4
    intro sl4 tw4
    refine fun x5 nx5 => ?_
    refine fun y5 ny5 => ?_
    refine ⟨by show 2 ≤ sizeLine; decide, fun p5 np5 => ?_⟩
    have sx5 := same_new (o := exo x5 cUnlike none) nx5
    have sy5 := same_new (o := exo y5 cUnlike none) ny5
    have sl5 : Same G4 (upd (upd (upd G4 x5 (exo x5 cUnlike none)) y5 (exo y5 cUnlike none)) p5 (.tup [.ref x5, .ref y5])) := (sx5.trans sy5).trans (same_new np5)
    have tw5 : ∃ x y, (upd (upd (upd G4 x5 (exo x5 cUnlike none)) y5 (exo y5 cUnlike none)) p5 (.tup [.ref x5, .ref y5])) p5 = some (.tup [.ref x, .ref y]) ∧ (upd (upd (upd G4 x5 (exo x5 cUnlike none)) y5 (exo y5 cUnlike none)) p5 (.tup [.ref x5, .ref y5])) x = some (exo x cUnlike none) ∧ (upd (upd (upd G4 x5 (exo x5 cUnlike none)) y5 (exo y5 cUnlike none)) p5 (.tup [.ref x5, .ref y5])) y = some (exo y cUnlike none) := ⟨x5, y5, upd_same, same_new np5 _ _ (sy5 _ _ upd_same), same_new np5 _ _ upd_same⟩
    revert sl5 tw5
    generalize upd (upd (upd G4 x5 (exo x5 cUnlike none)) y5 (exo y5 cUnlike none)) p5 (.tup [.ref x5, .ref y5]) = G5
    intro sl5 tw5
    refine ⟨by show 3 ≤ sizeLine; decide, fun m1 nm1 => ?_⟩
    have sm1 : Same G5 (upd G5 m1 (.lst [.ref p3, .ref p4, .ref p5])) := same_new nm1
    have em1 : (upd G5 m1 (.lst [.ref p3, .ref p4, .ref p5])) m1 = some (.lst [.ref p3, .ref p4, .ref p5]) := upd_same
    revert sm1 em1
    generalize upd G5 m1 (.lst [.ref p3, .ref p4, .ref p5]) = L1
    intro sm1 em1
    refine ⟨m0, m1, _, _, rfl, rfl, (((sl3.trans sl4).trans sl5).trans sm1) _ _ em0, (Same.refl _) _ _ em1, by show 6 ≤ sizeLine; decide, fun m2 nm2 => ?_⟩
    have sm2 : Same L1 (upd L1 m2 (.lst ([.ref p0, .ref p1, .ref p2] ++ [.ref p3, .ref p4, .ref p5]))) := same_new nm2
    have em2 : (upd L1 m2 (.lst ([.ref p0, .ref p1, .ref p2] ++ [.ref p3, .ref p4, .ref p5]))) m2 = some (.lst [.ref p0, .ref p1, .ref p2, .ref p3, .ref p4, .ref p5]) := upd_same
    revert sm2 em2
    generalize upd L1 m2 (.lst ([.ref p0, .ref p1, .ref p2] ++ [.ref p3, .ref p4, .ref p5])) = L2
    intro sm2 em2
    refine ⟨.ref m2, rfl, ?_⟩
    refine ⟨va, rfl, rfl, fun x6 dx6 A6 na6 nb6 nc6 ia6 ib6 ic6 => ?_⟩
    have sa6 : Same L2 A6 := newSame na6 nb6 ic6
    have fx6 : ExF A6 x6 cTooMany ["most"] [va] := ⟨dx6, ia6, ib6⟩
    refine ⟨va, rfl, rfl, rfl, fun y6 dy6 B6 ma6 mb6 mc6 ja6 jb6 jc6 => ?_⟩
    have sb6 : Same A6 B6 := newSame ma6 mb6 jc6
    have fy6 : ExF B6 y6 cTooMany ["most"] [va] := ⟨dy6, ja6, jb6⟩
    refine ⟨by show 2 ≤ sizeLine; decide, fun p6 np6 => ?_⟩
    have sl6 : Same L2 (upd B6 p6 (.tup [.ref x6, .ref y6])) := (sa6.trans sb6).trans (same_new np6)
    have tw6 : TwoF (upd B6 p6 (.tup [.ref x6, .ref y6])) p6 cTooMany ["most"] [va] := ⟨x6, y6, upd_same, fx6.same (sb6.trans (same_new np6)), fy6.same (same_new np6)⟩
    revert sl6 tw6
    generalize upd B6 p6 (.tup [.ref x6, .ref y6]) = G6
    intro sl6 tw6
    refine ⟨vb, rfl, rfl, fun x7 dx7 A7 na7 nb7 nc7 ia7 ib7 ic7 => ?_⟩
    have sa7 : Same G6 A7 := newSame na7 nb7 ic7
    have fx7 : ExF A7 x7 cNoText ["place"] [vb] := ⟨dx7, ia7, ib7⟩
    refine ⟨vb, rfl, rfl, rfl, fun y7 dy7 B7 ma7 mb7 mc7 ja7 jb7 jc7 => ?_⟩
    have sb7 : Same A7 B7 := newSame ma7 mb7 jc7
    have fy7 : ExF B7 y7 cNoText ["place"] [vb] := ⟨dy7, ja7, jb7⟩
    refine ⟨by show 2 ≤ sizeLine; decide, fun p7 np7 => ?_⟩
    have sl7 : Same G6 (upd B7 p7 (.tup [.ref x7, .ref y7])) := (sa7.trans sb7).trans (same_new np7)
    have tw7 : TwoF (upd B7 p7 (.tup [.ref x7, .ref y7])) p7 cNoText ["place"] [vb] := ⟨x7, y7, upd_same, fx7.same (sb7.trans (same_new np7)), fy7.same (same_new np7)⟩
    revert sl7 tw7
    generalize upd B7 p7 (.tup [.ref x7, .ref y7]) = G7
    intro sl7 tw7
    refine ⟨vc, rfl, rfl, fun x8 dx8 A8 na8 nb8 nc8 ia8 ib8 ic8 => ?_⟩
    have sa8 : Same G7 A8 := newSame na8 nb8 ic8
    have fx8 : ExF A8 x8 cNoName ["name"] [vc] := ⟨dx8, ia8, ib8⟩
    refine ⟨vc, rfl, rfl, rfl, fun y8 dy8 B8 ma8 mb8 mc8 ja8 jb8 jc8 => ?_⟩
    have sb8 : Same A8 B8 := newSame ma8 mb8 jc8
    have fy8 : ExF B8 y8 cNoName ["name"] [vc] := ⟨dy8, ja8, jb8⟩
    refine ⟨by show 2 ≤ sizeLine; decide, fun p8 np8 => ?_⟩
    have sl8 : Same G7 (upd B8 p8 (.tup [.ref x8, .ref y8])) := (sa8.trans sb8).trans (same_new np8)
    have tw8 : TwoF (upd B8 p8 (.tup [.ref x8, .ref y8])) p8 cNoName ["name"] [vc] := ⟨x8, y8, upd_same, fx8.same (sb8.trans (same_new np8)), fy8.same (same_new np8)⟩
    revert sl8 tw8
    generalize upd B8 p8 (.tup [.ref x8, .ref y8]) = G8
    intro sl8 tw8
    refine ⟨by show 3 ≤ sizeLine; decide, fun m3 nm3 => ?_⟩
    have sm3 : Same G8 (upd G8 m3 (.lst [.ref p6, .ref p7, .ref p8])) := same_new nm3
    have em3 : (upd G8 m3 (.lst [.ref p6, .ref p7, .ref p8])) m3 = some (.lst [.ref p6, .ref p7, .ref p8]) := upd_same
    revert sm3 em3
    generalize upd G8 m3 (.lst [.ref p6, .ref p7, .ref p8]) = L3
    intro sm3 em3
    refine ⟨m2, m3, _, _, rfl, rfl, (((sl6.trans sl7).trans sl8).trans sm3) _ _ em2, (Same.refl _) _ _ em3, by show 9 ≤ sizeLine; decide, fun m4 nm4 => ?_⟩
    have sm4 : Same L3 (upd L3 m4 (.lst ([.ref p0, .ref p1, .ref p2, .ref p3, .ref p4, .ref p5] ++ [.ref p6, .ref p7, .ref p8]))) := same_new nm4
    have em4 : (upd L3 m4 (.lst ([.ref p0, .ref p1, .ref p2, .ref p3, .ref p4, .ref p5] ++ [.ref p6, .ref p7, .ref p8]))) m4 = some (.lst [.ref p0, .ref p1, .ref p2, .ref p3, .ref p4, .ref p5, .ref p6, .ref p7, .ref p8]) := upd_same
    revert sm4 em4
    generalize upd L3 m4 (.lst ([.ref p0, .ref p1, .ref p2, .ref p3, .ref p4, .ref p5] ++ [.ref p6, .ref p7, .ref p8])) = L4
    intro sm4 em4
    refine ⟨.ref m4, rfl, .inl ⟨rfl, _, .inl (.inl em4)⟩, ?_⟩
    refine ⟨va, rfl, rfl, fun x9 dx9 A9 na9 nb9 nc9 ia9 ib9 ic9 => ?_⟩
    have sa9 : Same L4 A9 := newSame na9 nb9 ic9
    have fx9 : ExF A9 x9 cNoPath ["path"] [va] := ⟨dx9, ia9, ib9⟩
    refine ⟨va, rfl, rfl, rfl, fun y9 dy9 B9 ma9 mb9 mc9 ja9 jb9 jc9 => ?_⟩
    have sb9 : Same A9 B9 := newSame ma9 mb9 jc9
    have fy9 : ExF B9 y9 cNoPath ["path"] [va] := ⟨dy9, ja9, jb9⟩
    refine ⟨by show 2 ≤ sizeLine; decide, fun p9 np9 => ?_⟩
    have sl9 : Same L4 (upd B9 p9 (.tup [.ref x9, .ref y9])) := (sa9.trans sb9).trans (same_new np9)
    have tw9 : TwoF (upd B9 p9 (.tup [.ref x9, .ref y9])) p9 cNoPath ["path"] [va] := ⟨x9, y9, upd_same, fx9.same (sb9.trans (same_new np9)), fy9.same (same_new np9)⟩
    revert sl9 tw9
    generalize upd B9 p9 (.tup [.ref x9, .ref y9]) = G9
    intro sl9 tw9
    have em5 : G9 m4 = some (.lst [.ref p0, .ref p1, .ref p2, .ref p3, .ref p4, .ref p5, .ref p6, .ref p7, .ref p8]) := sl9 _ _ em4
    refine ⟨m4, _, _, rfl, rfl, em5, by show 9 < sizeLine; decide, ?_⟩
    have tv0 := (tw0.same (((((((((((((sl1.trans sl2).trans sm0).trans sl3).trans sl4).trans sl5).trans sm1).trans sm2).trans sl6).trans sl7).trans sl8).trans sm3).trans sm4).trans sl9)).mut (ys := [.ref p0, .ref p1, .ref p2, .ref p3, .ref p4, .ref p5, .ref p6, .ref p7, .ref p8] ++ [.ref p9]) em5
    have tv1 := (tw1.same ((((((((((((sl2.trans sm0).trans sl3).trans sl4).trans sl5).trans sm1).trans sm2).trans sl6).trans sl7).trans sl8).trans sm3).trans sm4).trans sl9)).mut (ys := [.ref p0, .ref p1, .ref p2, .ref p3, .ref p4, .ref p5, .ref p6, .ref p7, .ref p8] ++ [.ref p9]) em5
    have tv2 := (tw2.same (((((((((((sm0.trans sl3).trans sl4).trans sl5).trans sm1).trans sm2).trans sl6).trans sl7).trans sl8).trans sm3).trans sm4).trans sl9)).mut (ys := [.ref p0, .ref p1, .ref p2, .ref p3, .ref p4, .ref p5, .ref p6, .ref p7, .ref p8] ++ [.ref p9]) em5
    have tv3 := (tw3.same (((((((((sl4.trans sl5).trans sm1).trans sm2).trans sl6).trans sl7).trans sl8).trans sm3).trans sm4).trans sl9)).mut (ys := [.ref p0, .ref p1, .ref p2, .ref p3, .ref p4, .ref p5, .ref p6, .ref p7, .ref p8] ++ [.ref p9]) em5
    have tv4 := Two.mut0 (ys := [.ref p0, .ref p1, .ref p2, .ref p3, .ref p4, .ref p5, .ref p6, .ref p7, .ref p8] ++ [.ref p9]) (p := p4) (C := cNoPaper) (by obtain ⟨x, y, h1, h2, h3⟩ := tw4; exact ⟨x, y, ((((((((sl5.trans sm1).trans sm2).trans sl6).trans sl7).trans sl8).trans sm3).trans sm4).trans sl9) _ _ h1, ((((((((sl5.trans sm1).trans sm2).trans sl6).trans sl7).trans sl8).trans sm3).trans sm4).trans sl9) _ _ h2, ((((((((sl5.trans sm1).trans sm2).trans sl6).trans sl7).trans sl8).trans sm3).trans sm4).trans sl9) _ _ h3⟩) em5
    have tv5 := Two.mut0 (ys := [.ref p0, .ref p1, .ref p2, .ref p3, .ref p4, .ref p5, .ref p6, .ref p7, .ref p8] ++ [.ref p9]) (p := p5) (C := cUnlike) (by obtain ⟨x, y, h1, h2, h3⟩ := tw5; exact ⟨x, y, (((((((sm1.trans sm2).trans sl6).trans sl7).trans sl8).trans sm3).trans sm4).trans sl9) _ _ h1, (((((((sm1.trans sm2).trans sl6).trans sl7).trans sl8).trans sm3).trans sm4).trans sl9) _ _ h2, (((((((sm1.trans sm2).trans sl6).trans sl7).trans sl8).trans sm3).trans sm4).trans sl9) _ _ h3⟩) em5
    have tv6 := (tw6.same ((((sl7.trans sl8).trans sm3).trans sm4).trans sl9)).mut (ys := [.ref p0, .ref p1, .ref p2, .ref p3, .ref p4, .ref p5, .ref p6, .ref p7, .ref p8] ++ [.ref p9]) em5
    have tv7 := (tw7.same (((sl8.trans sm3).trans sm4).trans sl9)).mut (ys := [.ref p0, .ref p1, .ref p2, .ref p3, .ref p4, .ref p5, .ref p6, .ref p7, .ref p8] ++ [.ref p9]) em5
    have tv8 := (tw8.same ((sm3.trans sm4).trans sl9)).mut (ys := [.ref p0, .ref p1, .ref p2, .ref p3, .ref p4, .ref p5, .ref p6, .ref p7, .ref p8] ++ [.ref p9]) em5
    have tv9 := (tw9.same (Same.refl _)).mut (ys := [.ref p0, .ref p1, .ref p2, .ref p3, .ref p4, .ref p5, .ref p6, .ref p7, .ref p8] ++ [.ref p9]) em5
    have smm : Same H2 (upd G9 m4 (.lst ([.ref p0, .ref p1, .ref p2, .ref p3, .ref p4, .ref p5, .ref p6, .ref p7, .ref p8] ++ [.ref p9]))) := same_mut ((((((((((((((sl0.trans sl1).trans sl2).trans sm0).trans sl3).trans sl4).trans sl5).trans sm1).trans sm2).trans sl6).trans sl7).trans sl8).trans sm3).trans sm4).trans sl9) (((((((((((((sl0.trans sl1).trans sl2).trans sm0).trans sl3).trans sl4).trans sl5).trans sm1).trans sm2).trans sl6).trans sl7).trans sl8).trans sm3).free nm4)
    have emm : (upd G9 m4 (.lst ([.ref p0, .ref p1, .ref p2, .ref p3, .ref p4, .ref p5, .ref p6, .ref p7, .ref p8] ++ [.ref p9]))) m4 = some (.lst [.ref p0, .ref p1, .ref p2, .ref p3, .ref p4, .ref p5, .ref p6, .ref p7, .ref p8, .ref p9]) := upd_same
    revert tv0 tv1 tv2 tv3 tv4 tv5 tv6 tv7 tv8 tv9 smm emm
    generalize upd G9 m4 (.lst ([.ref p0, .ref p1, .ref p2, .ref p3, .ref p4, .ref p5, .ref p6, .ref p7, .ref p8] ++ [.ref p9])) = J
    intro tv0 tv1 tv2 tv3 tv4 tv5 tv6 tv7 tv8 tv9 smm emm
    have tt0 := tv0.same (Same.refl _)
    have ht0 : ∃ x y, J p0 = some (.tup [.ref x, .ref y]) := by obtain ⟨x, y, h, _⟩ := tt0; exact ⟨x, y, h⟩
    obtain ⟨ux0, uy0, hh0⟩ := ht0
    refine ⟨.ref m4, rfl, m4, _, _, _, rfl, rfl, .inl (.inl ((Same.refl _) _ _ emm)), atI_nat (j := 0) rfl, p0, rfl, ⟨_, .inl (.inl hh0)⟩, fun d0 nd0 => lc_trip Z.Fault.ex.xf Z.f_Fault_stage Z.f_Fault_module Z.f_Fault_place tt0 nd0 (fun _ => rfl) (fun _ => rfl) fun K0 q1 q2 sk0 ed0 eq1 eq2 => ?_⟩
    have tt1 := tv1.same sk0
    have ht1 : ∃ x y, K0 p1 = some (.tup [.ref x, .ref y]) := by obtain ⟨x, y, h, _⟩ := tt1; exact ⟨x, y, h⟩
    obtain ⟨ux1, uy1, hh1⟩ := ht1
    refine ⟨.ref m4, rfl, m4, _, _, _, rfl, rfl, .inl (.inl (sk0 _ _ emm)), atI_nat (j := 1) rfl, p1, rfl, ⟨_, .inl (.inl hh1)⟩, fun d1 nd1 => lc_attr (v := va) Z.Nested.ex.xf Z.f_Nested_ring rfl tt1 nd1 (fun _ => rfl) (fun _ => rfl) fun K1 sk1 ed1 => ?_⟩
    have tt2 := tv2.same (sk0.trans sk1)
    have ht2 : ∃ x y, K1 p2 = some (.tup [.ref x, .ref y]) := by obtain ⟨x, y, h, _⟩ := tt2; exact ⟨x, y, h⟩
    obtain ⟨ux2, uy2, hh2⟩ := ht2
    refine ⟨.ref m4, rfl, m4, _, _, _, rfl, rfl, .inl (.inl ((sk0.trans sk1) _ _ emm)), atI_nat (j := 2) rfl, p2, rfl, ⟨_, .inl (.inl hh2)⟩, fun d2 nd2 => lc_attr (v := vb) Z.Ring.ex.xf Z.f_Ring_ring rfl tt2 nd2 (fun _ => rfl) (fun _ => rfl) fun K2 sk2 ed2 => ?_⟩
    refine ⟨by show 3 ≤ sizeLine; decide, fun m5 nm5 => ?_⟩
    have sm5 : Same K2 (upd K2 m5 (.lst [.ref d0, .ref d1, .ref d2])) := same_new nm5
    have em5 : (upd K2 m5 (.lst [.ref d0, .ref d1, .ref d2])) m5 = some (.lst [.ref d0, .ref d1, .ref d2]) := upd_same
    revert sm5 em5
    generalize upd K2 m5 (.lst [.ref d0, .ref d1, .ref d2]) = L5
    intro sm5 em5
    refine ⟨.ref m5, rfl, ?_⟩
    have tt3 := tv3.same (((sk0.trans sk1).trans sk2).trans sm5)
    have ht3 : ∃ x y, L5 p3 = some (.tup [.ref x, .ref y]) := by obtain ⟨x, y, h, _⟩ := tt3; exact ⟨x, y, h⟩
    obtain ⟨ux3, uy3, hh3⟩ := ht3
    refine ⟨.ref m4, rfl, m4, _, _, _, rfl, rfl, .inl (.inl ((((sk0.trans sk1).trans sk2).trans sm5) _ _ emm)), atI_nat (j := 3) rfl, p3, rfl, ⟨_, .inl (.inl hh3)⟩, fun d3 nd3 => lc_attr (v := vc) Z.NoRoom.ex.xf Z.f_NoRoom_many rfl tt3 nd3 (fun _ => rfl) (fun _ => rfl) fun K3 sk3 ed3 => ?_⟩
    refine ⟨Nat.zero_le _, fun d4 nd4 => ?_⟩
    have sk4 : Same K3 (upd K3 d4 (.lst [])) := same_new nd4
    have ed4 : (upd K3 d4 (.lst [])) d4 = some (.lst []) := upd_same
    revert sk4 ed4
    generalize upd K3 d4 (.lst []) = K4
    intro sk4 ed4
    refine ⟨Nat.zero_le _, fun d5 nd5 => ?_⟩
    have sk5 : Same K4 (upd K4 d5 (.lst [])) := same_new nd5
    have ed5 : (upd K4 d5 (.lst [])) d5 = some (.lst []) := upd_same
    revert sk5 ed5
    generalize upd K4 d5 (.lst []) = K5
    intro sk5 ed5
    have tt6 := tv6.same ((((((sk0.trans sk1).trans sk2).trans sm5).trans sk3).trans sk4).trans sk5)
    have ht6 : ∃ x y, K5 p6 = some (.tup [.ref x, .ref y]) := by obtain ⟨x, y, h, _⟩ := tt6; exact ⟨x, y, h⟩
    obtain ⟨ux6, uy6, hh6⟩ := ht6
    refine ⟨.ref m4, rfl, m4, _, _, _, rfl, rfl, .inl (.inl (((((((sk0.trans sk1).trans sk2).trans sm5).trans sk3).trans sk4).trans sk5) _ _ emm)), atI_nat (j := 6) rfl, p6, rfl, ⟨_, .inl (.inl hh6)⟩, fun d6 nd6 => lc_attr (v := va) Z.TooMany.ex.xf Z.f_TooMany_most rfl tt6 nd6 (fun _ => rfl) (fun _ => rfl) fun K6 sk6 ed6 => ?_⟩
    have tt7 := tv7.same (((((((sk0.trans sk1).trans sk2).trans sm5).trans sk3).trans sk4).trans sk5).trans sk6)
    have ht7 : ∃ x y, K6 p7 = some (.tup [.ref x, .ref y]) := by obtain ⟨x, y, h, _⟩ := tt7; exact ⟨x, y, h⟩
    obtain ⟨ux7, uy7, hh7⟩ := ht7
    refine ⟨.ref m4, rfl, m4, _, _, _, rfl, rfl, .inl (.inl ((((((((sk0.trans sk1).trans sk2).trans sm5).trans sk3).trans sk4).trans sk5).trans sk6) _ _ emm)), atI_nat (j := 7) rfl, p7, rfl, ⟨_, .inl (.inl hh7)⟩, fun d7 nd7 => lc_attr (v := vb) Z.NoText.ex.xf Z.f_NoText_place rfl tt7 nd7 (fun _ => rfl) (fun _ => rfl) fun K7 sk7 ed7 => ?_⟩
    refine ⟨by show 5 ≤ sizeLine; decide, fun m6 nm6 => ?_⟩
    have sm6 : Same K7 (upd K7 m6 (.lst [.ref d3, .ref d4, .ref d5, .ref d6, .ref d7])) := same_new nm6
    have em6 : (upd K7 m6 (.lst [.ref d3, .ref d4, .ref d5, .ref d6, .ref d7])) m6 = some (.lst [.ref d3, .ref d4, .ref d5, .ref d6, .ref d7]) := upd_same
    revert sm6 em6
    generalize upd K7 m6 (.lst [.ref d3, .ref d4, .ref d5, .ref d6, .ref d7]) = L6
    intro sm6 em6
    refine ⟨m5, m6, _, _, rfl, rfl, (((((sk3.trans sk4).trans sk5).trans sk6).trans sk7).trans sm6) _ _ em5, (Same.refl _) _ _ em6, by show 8 ≤ sizeLine; decide, fun m7 nm7 => ?_⟩
    have sm7 : Same L6 (upd L6 m7 (.lst ([.ref d0, .ref d1, .ref d2] ++ [.ref d3, .ref d4, .ref d5, .ref d6, .ref d7]))) := same_new nm7
    have em7 : (upd L6 m7 (.lst ([.ref d0, .ref d1, .ref d2] ++ [.ref d3, .ref d4, .ref d5, .ref d6, .ref d7]))) m7 = some (.lst [.ref d0, .ref d1, .ref d2, .ref d3, .ref d4, .ref d5, .ref d6, .ref d7]) := upd_same
    revert sm7 em7
    generalize upd L6 m7 (.lst ([.ref d0, .ref d1, .ref d2] ++ [.ref d3, .ref d4, .ref d5, .ref d6, .ref d7])) = L7
    intro sm7 em7
    refine ⟨.ref m7, rfl, ?_⟩
    have tt8 := tv8.same ((((((((((sk0.trans sk1).trans sk2).trans sm5).trans sk3).trans sk4).trans sk5).trans sk6).trans sk7).trans sm6).trans sm7)
    have ht8 : ∃ x y, L7 p8 = some (.tup [.ref x, .ref y]) := by obtain ⟨x, y, h, _⟩ := tt8; exact ⟨x, y, h⟩
    obtain ⟨ux8, uy8, hh8⟩ := ht8
    refine ⟨.ref m4, rfl, m4, _, _, _, rfl, rfl, .inl (.inl (((((((((((sk0.trans sk1).trans sk2).trans sm5).trans sk3).trans sk4).trans sk5).trans sk6).trans sk7).trans sm6).trans sm7) _ _ emm)), atI_nat (j := 8) rfl, p8, rfl, ⟨_, .inl (.inl hh8)⟩, fun d8 nd8 => lc_attr (v := vc) Z.NoName.ex.xf Z.f_NoName_name rfl tt8 nd8 (fun _ => rfl) (fun _ => rfl) fun K8 sk8 ed8 => ?_⟩
    have tt9 := tv9.same (((((((((((sk0.trans sk1).trans sk2).trans sm5).trans sk3).trans sk4).trans sk5).trans sk6).trans sk7).trans sm6).trans sm7).trans sk8)
    have ht9 : ∃ x y, K8 p9 = some (.tup [.ref x, .ref y]) := by obtain ⟨x, y, h, _⟩ := tt9; exact ⟨x, y, h⟩
    obtain ⟨ux9, uy9, hh9⟩ := ht9
    refine ⟨.ref m4, rfl, m4, _, _, _, rfl, rfl, .inl (.inl ((((((((((((sk0.trans sk1).trans sk2).trans sm5).trans sk3).trans sk4).trans sk5).trans sk6).trans sk7).trans sm6).trans sm7).trans sk8) _ _ emm)), atI_nat (j := 9) rfl, p9, rfl, ⟨_, .inl (.inl hh9)⟩, fun d9 nd9 => lc_attr (v := va) Z.NoPath.ex.xf Z.f_NoPath_path rfl tt9 nd9 (fun _ => rfl) (fun _ => rfl) fun K9 sk9 ed9 => ?_⟩
    refine ⟨by show 2 ≤ sizeLine; decide, fun m8 nm8 => ?_⟩
    have sm8 : Same K9 (upd K9 m8 (.lst [.ref d8, .ref d9])) := same_new nm8
    have em8 : (upd K9 m8 (.lst [.ref d8, .ref d9])) m8 = some (.lst [.ref d8, .ref d9]) := upd_same
    revert sm8 em8
    generalize upd K9 m8 (.lst [.ref d8, .ref d9]) = L8
    intro sm8 em8
    refine ⟨m7, m8, _, _, rfl, rfl, ((sk8.trans sk9).trans sm8) _ _ em7, (Same.refl _) _ _ em8, by show 10 ≤ sizeLine; decide, fun m9 nm9 => ?_⟩
    have sm9 : Same L8 (upd L8 m9 (.lst ([.ref d0, .ref d1, .ref d2, .ref d3, .ref d4, .ref d5, .ref d6, .ref d7] ++ [.ref d8, .ref d9]))) := same_new nm9
    have em9 : (upd L8 m9 (.lst ([.ref d0, .ref d1, .ref d2, .ref d3, .ref d4, .ref d5, .ref d6, .ref d7] ++ [.ref d8, .ref d9]))) m9 = some (.lst [.ref d0, .ref d1, .ref d2, .ref d3, .ref d4, .ref d5, .ref d6, .ref d7, .ref d8, .ref d9]) := upd_same
    revert sm9 em9
    generalize upd L8 m9 (.lst ([.ref d0, .ref d1, .ref d2, .ref d3, .ref d4, .ref d5, .ref d6, .ref d7] ++ [.ref d8, .ref d9])) = L9
    intro sm9 em9
    refine ⟨va, rfl, vb, rfl, vc, rfl, by show 3 ≤ sizeLine; decide, fun qt nqt => ?_⟩
    have sqt : Same L9 (upd L9 qt (.tup [va, vb, vc])) := same_new nqt
    have eqt : (upd L9 qt (.tup [va, vb, vc])) qt = some (.tup [va, vb, vc]) := upd_same
    revert sqt eqt
    generalize upd L9 qt (.tup [va, vb, vc]) = Uq
    intro sqt eqt
    refine ⟨by show 1 ≤ sizeLine; decide, fun e0 ne0 => ?_⟩
    refine ⟨e0, 2, _, rfl, rfl, upd_same, by decide, by decide, by show 1 * 2 ≤ sizeLine; decide, fun g0 ng0 => ?_⟩
    have sg0 : Same Uq (upd (upd Uq e0 (.lst [.ref qt])) g0 (.lst (List.replicate (2 : Int).toNat [.ref qt]).flatten)) := (same_new ne0).trans (same_new ng0)
    have eg0 : (upd (upd Uq e0 (.lst [.ref qt])) g0 (.lst (List.replicate (2 : Int).toNat [.ref qt]).flatten)) g0 = some (.lst [.ref qt, .ref qt]) := upd_same
    revert sg0 eg0
    generalize upd (upd Uq e0 (.lst [.ref qt])) g0 (.lst (List.replicate (2 : Int).toNat [.ref qt]).flatten) = U0
    intro sg0 eg0
    refine ⟨va, rfl, by show 1 ≤ sizeLine; decide, fun e1 ne1 => ?_⟩
    refine ⟨e1, 2, _, rfl, rfl, upd_same, by decide, by decide, by show 1 * 2 ≤ sizeLine; decide, fun g1 ng1 => ?_⟩
    have sg1 : Same U0 (upd (upd U0 e1 (.lst [va])) g1 (.lst (List.replicate (2 : Int).toNat [va]).flatten)) := (same_new ne1).trans (same_new ng1)
    have eg1 : (upd (upd U0 e1 (.lst [va])) g1 (.lst (List.replicate (2 : Int).toNat [va]).flatten)) g1 = some (.lst [va, va]) := upd_same
    revert sg1 eg1
    generalize upd (upd U0 e1 (.lst [va])) g1 (.lst (List.replicate (2 : Int).toNat [va]).flatten) = U1
    intro sg1 eg1
    refine ⟨vb, rfl, by show 1 ≤ sizeLine; decide, fun e2 ne2 => ?_⟩
    refine ⟨e2, 2, _, rfl, rfl, upd_same, by decide, by decide, by show 1 * 2 ≤ sizeLine; decide, fun g2 ng2 => ?_⟩
    have sg2 : Same U1 (upd (upd U1 e2 (.lst [vb])) g2 (.lst (List.replicate (2 : Int).toNat [vb]).flatten)) := (same_new ne2).trans (same_new ng2)
    have eg2 : (upd (upd U1 e2 (.lst [vb])) g2 (.lst (List.replicate (2 : Int).toNat [vb]).flatten)) g2 = some (.lst [vb, vb]) := upd_same
    revert sg2 eg2
    generalize upd (upd U1 e2 (.lst [vb])) g2 (.lst (List.replicate (2 : Int).toNat [vb]).flatten) = U2
    intro sg2 eg2
    refine ⟨vc, rfl, by show 1 ≤ sizeLine; decide, fun e3 ne3 => ?_⟩
    refine ⟨e3, 2, _, rfl, rfl, upd_same, by decide, by decide, by show 1 * 2 ≤ sizeLine; decide, fun g3 ng3 => ?_⟩
    have sg3 : Same U2 (upd (upd U2 e3 (.lst [vc])) g3 (.lst (List.replicate (2 : Int).toNat [vc]).flatten)) := (same_new ne3).trans (same_new ng3)
    have eg3 : (upd (upd U2 e3 (.lst [vc])) g3 (.lst (List.replicate (2 : Int).toNat [vc]).flatten)) g3 = some (.lst [vc, vc]) := upd_same
    revert sg3 eg3
    generalize upd (upd U2 e3 (.lst [vc])) g3 (.lst (List.replicate (2 : Int).toNat [vc]).flatten) = U3
    intro sg3 eg3
    refine ⟨Nat.zero_le _, fun g4 ng4 => ?_⟩
    have sg4 : Same U3 (upd U3 g4 (.lst [])) := same_new ng4
    have eg4 : (upd U3 g4 (.lst [])) g4 = some (.lst []) := upd_same
    revert sg4 eg4
    generalize upd U3 g4 (.lst []) = U4
    intro sg4 eg4
    refine ⟨Nat.zero_le _, fun g5 ng5 => ?_⟩
    have sg5 : Same U4 (upd U4 g5 (.lst [])) := same_new ng5
    have eg5 : (upd U4 g5 (.lst [])) g5 = some (.lst []) := upd_same
    revert sg5 eg5
    generalize upd U4 g5 (.lst []) = U5
    intro sg5 eg5
    refine ⟨va, rfl, by show 1 ≤ sizeLine; decide, fun e6 ne6 => ?_⟩
    refine ⟨e6, 2, _, rfl, rfl, upd_same, by decide, by decide, by show 1 * 2 ≤ sizeLine; decide, fun g6 ng6 => ?_⟩
    have sg6 : Same U5 (upd (upd U5 e6 (.lst [va])) g6 (.lst (List.replicate (2 : Int).toNat [va]).flatten)) := (same_new ne6).trans (same_new ng6)
    have eg6 : (upd (upd U5 e6 (.lst [va])) g6 (.lst (List.replicate (2 : Int).toNat [va]).flatten)) g6 = some (.lst [va, va]) := upd_same
    revert sg6 eg6
    generalize upd (upd U5 e6 (.lst [va])) g6 (.lst (List.replicate (2 : Int).toNat [va]).flatten) = U6
    intro sg6 eg6
    refine ⟨vb, rfl, by show 1 ≤ sizeLine; decide, fun e7 ne7 => ?_⟩
    refine ⟨e7, 2, _, rfl, rfl, upd_same, by decide, by decide, by show 1 * 2 ≤ sizeLine; decide, fun g7 ng7 => ?_⟩
    have sg7 : Same U6 (upd (upd U6 e7 (.lst [vb])) g7 (.lst (List.replicate (2 : Int).toNat [vb]).flatten)) := (same_new ne7).trans (same_new ng7)
    have eg7 : (upd (upd U6 e7 (.lst [vb])) g7 (.lst (List.replicate (2 : Int).toNat [vb]).flatten)) g7 = some (.lst [vb, vb]) := upd_same
    revert sg7 eg7
    generalize upd (upd U6 e7 (.lst [vb])) g7 (.lst (List.replicate (2 : Int).toNat [vb]).flatten) = U7
    intro sg7 eg7
    refine ⟨vc, rfl, by show 1 ≤ sizeLine; decide, fun e8 ne8 => ?_⟩
    refine ⟨e8, 2, _, rfl, rfl, upd_same, by decide, by decide, by show 1 * 2 ≤ sizeLine; decide, fun g8 ng8 => ?_⟩
    have sg8 : Same U7 (upd (upd U7 e8 (.lst [vc])) g8 (.lst (List.replicate (2 : Int).toNat [vc]).flatten)) := (same_new ne8).trans (same_new ng8)
    have eg8 : (upd (upd U7 e8 (.lst [vc])) g8 (.lst (List.replicate (2 : Int).toNat [vc]).flatten)) g8 = some (.lst [vc, vc]) := upd_same
    revert sg8 eg8
    generalize upd (upd U7 e8 (.lst [vc])) g8 (.lst (List.replicate (2 : Int).toNat [vc]).flatten) = U8
    intro sg8 eg8
    refine ⟨va, rfl, by show 1 ≤ sizeLine; decide, fun e9 ne9 => ?_⟩
    refine ⟨e9, 2, _, rfl, rfl, upd_same, by decide, by decide, by show 1 * 2 ≤ sizeLine; decide, fun g9 ng9 => ?_⟩
    have sg9 : Same U8 (upd (upd U8 e9 (.lst [va])) g9 (.lst (List.replicate (2 : Int).toNat [va]).flatten)) := (same_new ne9).trans (same_new ng9)
    have eg9 : (upd (upd U8 e9 (.lst [va])) g9 (.lst (List.replicate (2 : Int).toNat [va]).flatten)) g9 = some (.lst [va, va]) := upd_same
    revert sg9 eg9
    generalize upd (upd U8 e9 (.lst [va])) g9 (.lst (List.replicate (2 : Int).toNat [va]).flatten) = U9
    intro sg9 eg9
    refine ⟨by show 10 ≤ sizeLine; decide, fun m10 nm10 => ?_⟩
    have sm10 : Same U9 (upd U9 m10 (.lst [.ref g0, .ref g1, .ref g2, .ref g3, .ref g4, .ref g5, .ref g6, .ref g7, .ref g8, .ref g9])) := same_new nm10
    have em10 : (upd U9 m10 (.lst [.ref g0, .ref g1, .ref g2, .ref g3, .ref g4, .ref g5, .ref g6, .ref g7, .ref g8, .ref g9])) m10 = some (.lst [.ref g0, .ref g1, .ref g2, .ref g3, .ref g4, .ref g5, .ref g6, .ref g7, .ref g8, .ref g9]) := upd_same
    revert sm10 em10
    generalize upd U9 m10 (.lst [.ref g0, .ref g1, .ref g2, .ref g3, .ref g4, .ref g5, .ref g6, .ref g7, .ref g8, .ref g9]) = L10
    intro sm10 em10
    refine ⟨.ref m4, rfl, .ref m9, rfl, .ref m10, rfl, by show 3 ≤ sizeLine; decide, fun q0 nq0 => ?_⟩
    have sq0 : Same L10 (upd L10 q0 (.tup [.ref m4, .ref m9, .ref m10])) := same_new nq0
    have eq0 : (upd L10 q0 (.tup [.ref m4, .ref m9, .ref m10])) q0 = some (.tup [.ref m4, .ref m9, .ref m10]) := upd_same
    revert sq0 eq0
    generalize upd L10 q0 (.tup [.ref m4, .ref m9, .ref m10]) = Z0
    intro sq0 eq0
    have fin : Same H2 Z0 := smm.trans (((((((((((((((((((((((((((sk0.trans sk1).trans sk2).trans sm5).trans sk3).trans sk4).trans sk5).trans sk6).trans sk7).trans sm6).trans sm7).trans sk8).trans sk9).trans sm8).trans sm9).trans sqt).trans sg0).trans sg1).trans sg2).trans sg3).trans sg4).trans sg5).trans sg6).trans sg7).trans sg8).trans sg9).trans sm10).trans sq0)
    have da : Dp K Z0 va xa := (pa.same fin).dp
    have db : Dp K Z0 vb xb := (pb.same fin).dp
    have dc : Dp K Z0 vc xc := (pc.same fin).dp
    have dtr : ∀ q, Z0 q = some (.tup [va, vb, vc]) → Dp K Z0 (.ref q) (.tuple [xa, xb, xc]) := fun q h => .tup (.inl (.inl h)) (.cons da (.cons db (.cons dc .nil)))
    have dl2 : ∀ (q : Addr) (u v : V) (x : PyData), Z0 q = some (.lst [u, v]) → Dp K Z0 u x → Dp K Z0 v x → Dp K Z0 (.ref q) (.list [x, x]) := fun q u v x h h1 h2 => .lst (.inl (.inl h)) (.cons h1 (.cons h2 .nil))
    have dl0 : ∀ (q : Addr), Z0 q = some (.lst []) → Dp K Z0 (.ref q) (.list []) := fun q h => .lst (.inl (.inl h)) .nil
    have dh : Dp K Z0 (.ref m9) (datum xa xb xc) := .lst (.inl (.inl (((((((((((((sqt.trans sg0).trans sg1).trans sg2).trans sg3).trans sg4).trans sg5).trans sg6).trans sg7).trans sg8).trans sg9).trans sm10).trans sq0) _ _ em9))) (.cons (dl2 _ _ _ _ (((((((((((((((((((((((((((sk1.trans sk2).trans sm5).trans sk3).trans sk4).trans sk5).trans sk6).trans sk7).trans sm6).trans sm7).trans sk8).trans sk9).trans sm8).trans sm9).trans sqt).trans sg0).trans sg1).trans sg2).trans sg3).trans sg4).trans sg5).trans sg6).trans sg7).trans sg8).trans sg9).trans sm10).trans sq0) _ _ ed0) (dtr _ (((((((((((((((((((((((((((sk1.trans sk2).trans sm5).trans sk3).trans sk4).trans sk5).trans sk6).trans sk7).trans sm6).trans sm7).trans sk8).trans sk9).trans sm8).trans sm9).trans sqt).trans sg0).trans sg1).trans sg2).trans sg3).trans sg4).trans sg5).trans sg6).trans sg7).trans sg8).trans sg9).trans sm10).trans sq0) _ _ eq1)) (dtr _ (((((((((((((((((((((((((((sk1.trans sk2).trans sm5).trans sk3).trans sk4).trans sk5).trans sk6).trans sk7).trans sm6).trans sm7).trans sk8).trans sk9).trans sm8).trans sm9).trans sqt).trans sg0).trans sg1).trans sg2).trans sg3).trans sg4).trans sg5).trans sg6).trans sg7).trans sg8).trans sg9).trans sm10).trans sq0) _ _ eq2))) (.cons (dl2 _ _ _ _ ((((((((((((((((((((((((((sk2.trans sm5).trans sk3).trans sk4).trans sk5).trans sk6).trans sk7).trans sm6).trans sm7).trans sk8).trans sk9).trans sm8).trans sm9).trans sqt).trans sg0).trans sg1).trans sg2).trans sg3).trans sg4).trans sg5).trans sg6).trans sg7).trans sg8).trans sg9).trans sm10).trans sq0) _ _ ed1) da da) (.cons (dl2 _ _ _ _ (((((((((((((((((((((((((sm5.trans sk3).trans sk4).trans sk5).trans sk6).trans sk7).trans sm6).trans sm7).trans sk8).trans sk9).trans sm8).trans sm9).trans sqt).trans sg0).trans sg1).trans sg2).trans sg3).trans sg4).trans sg5).trans sg6).trans sg7).trans sg8).trans sg9).trans sm10).trans sq0) _ _ ed2) db db) (.cons (dl2 _ _ _ _ (((((((((((((((((((((((sk4.trans sk5).trans sk6).trans sk7).trans sm6).trans sm7).trans sk8).trans sk9).trans sm8).trans sm9).trans sqt).trans sg0).trans sg1).trans sg2).trans sg3).trans sg4).trans sg5).trans sg6).trans sg7).trans sg8).trans sg9).trans sm10).trans sq0) _ _ ed3) dc dc) (.cons (dl0 _ ((((((((((((((((((((((sk5.trans sk6).trans sk7).trans sm6).trans sm7).trans sk8).trans sk9).trans sm8).trans sm9).trans sqt).trans sg0).trans sg1).trans sg2).trans sg3).trans sg4).trans sg5).trans sg6).trans sg7).trans sg8).trans sg9).trans sm10).trans sq0) _ _ ed4)) (.cons (dl0 _ (((((((((((((((((((((sk6.trans sk7).trans sm6).trans sm7).trans sk8).trans sk9).trans sm8).trans sm9).trans sqt).trans sg0).trans sg1).trans sg2).trans sg3).trans sg4).trans sg5).trans sg6).trans sg7).trans sg8).trans sg9).trans sm10).trans sq0) _ _ ed5)) (.cons (dl2 _ _ _ _ ((((((((((((((((((((sk7.trans sm6).trans sm7).trans sk8).trans sk9).trans sm8).trans sm9).trans sqt).trans sg0).trans sg1).trans sg2).trans sg3).trans sg4).trans sg5).trans sg6).trans sg7).trans sg8).trans sg9).trans sm10).trans sq0) _ _ ed6) da da) (.cons (dl2 _ _ _ _ (((((((((((((((((((sm6.trans sm7).trans sk8).trans sk9).trans sm8).trans sm9).trans sqt).trans sg0).trans sg1).trans sg2).trans sg3).trans sg4).trans sg5).trans sg6).trans sg7).trans sg8).trans sg9).trans sm10).trans sq0) _ _ ed7) db db) (.cons (dl2 _ _ _ _ ((((((((((((((((sk9.trans sm8).trans sm9).trans sqt).trans sg0).trans sg1).trans sg2).trans sg3).trans sg4).trans sg5).trans sg6).trans sg7).trans sg8).trans sg9).trans sm10).trans sq0) _ _ ed8) dc dc) (.cons (dl2 _ _ _ _ (((((((((((((((sm8.trans sm9).trans sqt).trans sg0).trans sg1).trans sg2).trans sg3).trans sg4).trans sg5).trans sg6).trans sg7).trans sg8).trans sg9).trans sm10).trans sq0) _ _ ed9) da da) .nil))))))))))
    have dd : Dp K Z0 (.ref m10) (datum xa xb xc) := .lst (.inl (.inl (sq0 _ _ em10))) (.cons (dl2 _ _ _ _ (((((((((((sg1.trans sg2).trans sg3).trans sg4).trans sg5).trans sg6).trans sg7).trans sg8).trans sg9).trans sm10).trans sq0) _ _ eg0) (dtr _ ((((((((((((sg0.trans sg1).trans sg2).trans sg3).trans sg4).trans sg5).trans sg6).trans sg7).trans sg8).trans sg9).trans sm10).trans sq0) _ _ eqt)) (dtr _ ((((((((((((sg0.trans sg1).trans sg2).trans sg3).trans sg4).trans sg5).trans sg6).trans sg7).trans sg8).trans sg9).trans sm10).trans sq0) _ _ eqt))) (.cons (dl2 _ _ _ _ ((((((((((sg2.trans sg3).trans sg4).trans sg5).trans sg6).trans sg7).trans sg8).trans sg9).trans sm10).trans sq0) _ _ eg1) da da) (.cons (dl2 _ _ _ _ (((((((((sg3.trans sg4).trans sg5).trans sg6).trans sg7).trans sg8).trans sg9).trans sm10).trans sq0) _ _ eg2) db db) (.cons (dl2 _ _ _ _ ((((((((sg4.trans sg5).trans sg6).trans sg7).trans sg8).trans sg9).trans sm10).trans sq0) _ _ eg3) dc dc) (.cons (dl0 _ (((((((sg5.trans sg6).trans sg7).trans sg8).trans sg9).trans sm10).trans sq0) _ _ eg4)) (.cons (dl0 _ ((((((sg6.trans sg7).trans sg8).trans sg9).trans sm10).trans sq0) _ _ eg5)) (.cons (dl2 _ _ _ _ (((((sg7.trans sg8).trans sg9).trans sm10).trans sq0) _ _ eg6) da da) (.cons (dl2 _ _ _ _ ((((sg8.trans sg9).trans sm10).trans sq0) _ _ eg7) db db) (.cons (dl2 _ _ _ _ (((sg9.trans sm10).trans sq0) _ _ eg8) dc dc) (.cons (dl2 _ _ _ _ ((sm10.trans sq0) _ _ eg9) da da) .nil))))))))))
    have ok := datum_ok xa xb xc pa.mem pb.mem pc.mem
    refine q q0 m4 m9 m10 [p0, p1, p2, p3, p4, p5, p6, p7, p8, p9] Z0 _ (b0.same fin) (dk2.same fin) eq0 ((((((((((((((((((((((((((((sk0.trans sk1).trans sk2).trans sm5).trans sk3).trans sk4).trans sk5).trans sk6).trans sk7).trans sm6).trans sm7).trans sk8).trans sk9).trans sm8).trans sm9).trans sqt).trans sg0).trans sg1).trans sg2).trans sg3).trans sg4).trans sg5).trans sg6).trans sg7).trans sg8).trans sg9).trans sm10).trans sq0) _ _ emm) rfl ?_ dh dd ok.sh ok.hd (Nat.le_trans ok.dp (by omega)) (Nat.le_trans (Nat.le_add_right _ 2) (Nat.le_trans ok.ln (by decide)))
    intro i p hp
    match i, hp with
    | 0, hp =>
      obtain rfl : p0 = p := Option.some.inj hp
      exact ⟨cFault, rfl, (tv0.same (((((((((((((((((((((((((((sk0.trans sk1).trans sk2).trans sm5).trans sk3).trans sk4).trans sk5).trans sk6).trans sk7).trans sm6).trans sm7).trans sk8).trans sk9).trans sm8).trans sm9).trans sqt).trans sg0).trans sg1).trans sg2).trans sg3).trans sg4).trans sg5).trans sg6).trans sg7).trans sg8).trans sg9).trans sm10).trans sq0)).two⟩
    | 1, hp =>
      obtain rfl : p1 = p := Option.some.inj hp
      exact ⟨cNested, rfl, (tv1.same (((((((((((((((((((((((((((sk0.trans sk1).trans sk2).trans sm5).trans sk3).trans sk4).trans sk5).trans sk6).trans sk7).trans sm6).trans sm7).trans sk8).trans sk9).trans sm8).trans sm9).trans sqt).trans sg0).trans sg1).trans sg2).trans sg3).trans sg4).trans sg5).trans sg6).trans sg7).trans sg8).trans sg9).trans sm10).trans sq0)).two⟩
    | 2, hp =>
      obtain rfl : p2 = p := Option.some.inj hp
      exact ⟨cRing, rfl, (tv2.same (((((((((((((((((((((((((((sk0.trans sk1).trans sk2).trans sm5).trans sk3).trans sk4).trans sk5).trans sk6).trans sk7).trans sm6).trans sm7).trans sk8).trans sk9).trans sm8).trans sm9).trans sqt).trans sg0).trans sg1).trans sg2).trans sg3).trans sg4).trans sg5).trans sg6).trans sg7).trans sg8).trans sg9).trans sm10).trans sq0)).two⟩
    | 3, hp =>
      obtain rfl : p3 = p := Option.some.inj hp
      exact ⟨cNoRoom, rfl, (tv3.same (((((((((((((((((((((((((((sk0.trans sk1).trans sk2).trans sm5).trans sk3).trans sk4).trans sk5).trans sk6).trans sk7).trans sm6).trans sm7).trans sk8).trans sk9).trans sm8).trans sm9).trans sqt).trans sg0).trans sg1).trans sg2).trans sg3).trans sg4).trans sg5).trans sg6).trans sg7).trans sg8).trans sg9).trans sm10).trans sq0)).two⟩
    | 4, hp =>
      obtain rfl : p4 = p := Option.some.inj hp
      exact ⟨cNoPaper, rfl, (tv4.same (((((((((((((((((((((((((((sk0.trans sk1).trans sk2).trans sm5).trans sk3).trans sk4).trans sk5).trans sk6).trans sk7).trans sm6).trans sm7).trans sk8).trans sk9).trans sm8).trans sm9).trans sqt).trans sg0).trans sg1).trans sg2).trans sg3).trans sg4).trans sg5).trans sg6).trans sg7).trans sg8).trans sg9).trans sm10).trans sq0))⟩
    | 5, hp =>
      obtain rfl : p5 = p := Option.some.inj hp
      exact ⟨cUnlike, rfl, (tv5.same (((((((((((((((((((((((((((sk0.trans sk1).trans sk2).trans sm5).trans sk3).trans sk4).trans sk5).trans sk6).trans sk7).trans sm6).trans sm7).trans sk8).trans sk9).trans sm8).trans sm9).trans sqt).trans sg0).trans sg1).trans sg2).trans sg3).trans sg4).trans sg5).trans sg6).trans sg7).trans sg8).trans sg9).trans sm10).trans sq0))⟩
    | 6, hp =>
      obtain rfl : p6 = p := Option.some.inj hp
      exact ⟨cTooMany, rfl, (tv6.same (((((((((((((((((((((((((((sk0.trans sk1).trans sk2).trans sm5).trans sk3).trans sk4).trans sk5).trans sk6).trans sk7).trans sm6).trans sm7).trans sk8).trans sk9).trans sm8).trans sm9).trans sqt).trans sg0).trans sg1).trans sg2).trans sg3).trans sg4).trans sg5).trans sg6).trans sg7).trans sg8).trans sg9).trans sm10).trans sq0)).two⟩
    | 7, hp =>
      obtain rfl : p7 = p := Option.some.inj hp
      exact ⟨cNoText, rfl, (tv7.same (((((((((((((((((((((((((((sk0.trans sk1).trans sk2).trans sm5).trans sk3).trans sk4).trans sk5).trans sk6).trans sk7).trans sm6).trans sm7).trans sk8).trans sk9).trans sm8).trans sm9).trans sqt).trans sg0).trans sg1).trans sg2).trans sg3).trans sg4).trans sg5).trans sg6).trans sg7).trans sg8).trans sg9).trans sm10).trans sq0)).two⟩
    | 8, hp =>
      obtain rfl : p8 = p := Option.some.inj hp
      exact ⟨cNoName, rfl, (tv8.same (((((((((((((((((((((((((((sk0.trans sk1).trans sk2).trans sm5).trans sk3).trans sk4).trans sk5).trans sk6).trans sk7).trans sm6).trans sm7).trans sk8).trans sk9).trans sm8).trans sm9).trans sqt).trans sg0).trans sg1).trans sg2).trans sg3).trans sg4).trans sg5).trans sg6).trans sg7).trans sg8).trans sg9).trans sm10).trans sq0)).two⟩
    | 9, hp =>
      obtain rfl : p9 = p := Option.some.inj hp
      exact ⟨cNoPath, rfl, (tv9.same (((((((((((((((((((((((((((sk0.trans sk1).trans sk2).trans sm5).trans sk3).trans sk4).trans sk5).trans sk6).trans sk7).trans sm6).trans sm7).trans sk8).trans sk9).trans sm8).trans sm9).trans sqt).trans sg0).trans sg1).trans sg2).trans sg3).trans sg4).trans sg5).trans sg6).trans sg7).trans sg8).trans sg9).trans sm10).trans sq0)).two⟩
    | n + 10, hp => cases hp
end
end K02

namespace K02
open PySem PySem.Spec PyProof.Rows L2 Kit
/-- the options, as they stand in the written part -/
structure Opt (K : PySem.W.Frag) (mg : Str → Option Value) (cT cB cD : Addr) : Prop where
  c_TOP : ∃ u, mg "TOP" = some u ∧ RelV (.str "top") u
  c_TURNS : ∃ u, mg "TURNS" = some u ∧ RelV (.ref cT) u
  c_TABLE : ∃ u, mg "TABLE" = some u ∧ RelV (.ref cB) u
  c_DELAYS : ∃ u, mg "DELAYS" = some u ∧ RelV (.ref cD) u
  c_MOST : ∃ u, mg "MOST" = some u ∧ RelV (.int 100) u
  d_TURNS : ∀ H, SqT K H cT [.str "fold", .str "share", .str "drop"]
  d_TABLE : ∀ H, SqT K H cB [.int 20, .int 20]
  d_DELAYS : ∀ H, SqT K H cD [.int 1, .int 2, .int 3]
theorem dec_int (k j : Nat) : decide (V.int (0 + (k : Int)) = V.int (j : Int)) = decide (k = j) := by
  refine decide_eq_decide.mpr ⟨fun h => ?_, fun h => ?_⟩
  · have := V.int.inj h
    omega
  · subst h
    rw [Int.zero_add]
theorem here_eq (j : Nat) : ((List.range 10).map fun y => V.bl (decide (y = j))) ++ [V.bl (decide ((j : Int) < 7)), V.bl (decide (V.int (j : Int) = V.int 7)), V.bl (decide (7 < (j : Int)))] = (here j).map V.bl := by
  have h1 : decide ((j : Int) < 7) = decide (j < 7) := decide_eq_decide.mpr (by omega)
  have h2 : decide (7 < (j : Int)) = decide (7 < j) := decide_eq_decide.mpr (by omega)
  have h3 : decide (V.int (j : Int) = V.int 7) = decide (j = 7) := decide_eq_decide.mpr ⟨fun h => by have := V.int.inj h; omega, fun h => by subst h; rfl⟩
  unfold here
  rw [h1, h2, h3, List.map_append, List.map_map]
  rfl
theorem dp_bools {K : PySem.W.Frag} {H : Hp} : ∀ bs : List Bool, DpAll K H (bs.map V.bl) (bs.map PyData.bool)
  | [] => .nil
  | b :: bs => .cons (.bl b) (dp_bools bs)
theorem lay_bools : ∀ bs : List Bool, PyData.canLayAll0 (bs.map PyData.bool) = true
  | [] => by simp [PyData.canLayAll0]
  | b :: bs => by simp [PyData.canLayAll0, PyData.canLay0, lay_bools bs]
theorem dep_bools : ∀ bs : List Bool, PyData.depthAll (bs.map PyData.bool) = 0
  | [] => by simp [PyData.depthAll]
  | b :: bs => by simp [PyData.depthAll, PyData.depth, dep_bools bs]
theorem here_lay (j : Nat) : PyData.canLay0 (.list ((here j).map PyData.bool)) = true := by simp [PyData.canLay0, lay_bools]
theorem shaped_bools (j : Nat) : SeqAt.shaped (.list ((here j).map PyData.bool)) = true := by
  unfold SeqAt.shaped
  rw [here_lay]
  simp [PyData.depth, dep_bools]
def optD : PyData := .tuple [.str "top", .tuple [.str "fold", .str "share", .str "drop"], .tuple [.int 20, .int 20], .tuple [.int 1, .int 2, .int 3], .int 100]
theorem opt_lay : PyData.canLay0 optD = true := by
  simp [optD, PyData.canLay0, PyData.canLayAll0]
  decide +kernel
theorem opt_sh : SeqAt.shaped optD = true := by
  unfold SeqAt.shaped
  rw [opt_lay]
  simp [optD, PyData.depth, PyData.depthAll]
def spLaw (K : PySem.W.Frag) : Sp := fun vs H Q _ => ∃ (a : Addr) (ns : List Int), vs = [.ref a] ∧ SqL K H a (ns.map V.int) ∧ ns.length ≤ 63 ∧
  (∀ z ∈ ns, Builtin.Int.intBits z ≤ 1048576) ∧ ∀ H', Q (.bl true) H'
section
variable {P : Program} {w : World} {K : PySem.W.Frag} {mg : Str → Option Value} {base : Heap} {cFault cNested cRing cNoRoom cNoPaper cUnlike cTooMany cNoText cNoName cNoPath cWireError cT cB cD : Addr}
theorem ok_law {f : Addr} {fd : FuncData} (D : DefAt K mg "law" ["_law_script"] s_law f fd) (M : Bi mg) (Z : XX P w K mg base cFault cNested cRing cNoRoom cNoPaper cUnlike cTooMany cNoText cNoName cNoPath cWireError) (T : Opt K mg cT cB cD)
    (C_l_deck : Cal P w K mg base L2.CX0 1 "_law_deck" ["_law_script"] (spDeck K))
    (C_l_all : Cal P w K mg base L2.CX0 3 "_law_all" ["_law_deck_here"] (spAll K [cFault, cNested, cRing, cNoRoom, cNoPaper, cUnlike, cTooMany, cNoText, cNoName, cNoPath]))
    (C_l_families : Cal P w K mg base L2.CX0 1 "_law_families" ["_law_e"] (spFam K [cFault, cNested, cRing, cNoRoom, cNoPaper, cUnlike, cTooMany, cNoText, cNoName, cNoPath] cWireError)) :
    FnG P w K mg base L2.CX0 4 f fd ["_law_script"] (spLaw K) := by
  have S := S_law
  have famI : ∀ i C, [cFault, cNested, cRing, cNoRoom, cNoPaper, cUnlike, cTooMany, cNoText, cNoName, cNoPath][i]? = some C → Fam K i C [cFault, cNested, cRing, cNoRoom, cNoPaper, cUnlike, cTooMany, cNoText, cNoName, cNoPath] cWireError := by
    intro i C h
    match i, h with
    | 0, h => cases h; exact Z.i_Fault
    | 1, h => cases h; exact Z.i_Nested
    | 2, h => cases h; exact Z.i_Ring
    | 3, h => cases h; exact Z.i_NoRoom
    | 4, h => cases h; exact Z.i_NoPaper
    | 5, h => cases h; exact Z.i_Unlike
    | 6, h => cases h; exact Z.i_TooMany
    | 7, h => cases h; exact Z.i_NoText
    | 8, h => cases h; exact Z.i_NoName
    | 9, h => cases h; exact Z.i_NoPath
    | n + 10, h => cases h
  refine fng_of D.fn S (fun vs H Q E h => ?_) (fun cdv A outer s H vs Q E hq hr h => ?_)
  · obtain ⟨a, ns, rfl, _⟩ := h
    rfl
  · obtain ⟨a, ns, rfl, hs, hl, hb, q⟩ := h
    refine ⟨_, (pss_cons (ps_set (i := 1) S.nd rfl (.inl rfl) (pe_c C_l_deck pass0 hq hr (by omega) (by rfl) (pa_cons (pv 0) pa_nil)))
 (pss_cons (ps_for PassesOwn.never rfl (pi_range1 (by rfl) M.range_ (pa_cons pe_int pa_nil)) (pg_name (i := 2) S.nd rfl (.inl rfl))
  (pss_cons (ps_asg (pe_c C_l_all pass0 hq hr (by omega) (by rfl) (pa_cons (pv 1) pa_nil)) (pg_tup (by rfl) (pgs_cons (pg_name (i := 3) S.nd rfl (.inl rfl)) (pgs_cons (pg_name (i := 4) S.nd rfl (.inl rfl)) (pgs_cons (pg_name (i := 5) S.nd rfl (.inl rfl)) pgs_nil)))))
 (pss_cons (ps_if (pt_cmpR op_ne (pe_callB (call_reprD hq (room200 hr)) (by rfl) M.repr_ (by decide +kernel) (pa_cons (pv 4) pa_nil)) (pe_callB (call_reprD hq (room200 hr)) (by rfl) M.repr_ (by decide +kernel) (pa_cons (pv 5) pa_nil)) (nomark _))
  (pss_one (ps_ret pe_bl))
  pss_nil)
 (pss_one (ps_for PassesOwn.never rfl (pi_enum (by rfl) M.enumerate_ (pa_cons (pv 3) pa_nil)) (pg_tup (by rfl) (pgs_cons (pg_name (i := 6) S.nd rfl (.inr rfl)) (pgs_cons (pg_name (i := 7) S.nd rfl (.inl rfl)) pgs_nil)))
  (pss_cons (ps_set (i := 8) S.nd rfl (.inl rfl) (pe_op op_cat (pe_lc (own := [("_law_at", 9)]) (g := gName 9) (tt := tYes) rfl S.nd (pi_range1 (by rfl) M.range_ (pa_cons pe_int pa_nil)) (blkOk_by (own := [("_law_at", 9)]) (N := N_law) (sc := defScope s_law) (by decide +kernel)) (fun _ _ _ _ _ => pg_name (i := 9) S.nd rfl (.inl rfl)) (fun _ _ _ _ _ => pts_nil) (fun _ _ _ _ _ => (pe_cmpR op_eq (pv 9) (pv 6) (nomark _)))) (pe_lst (pa_cons (pe_cmpR op_lt (pv 6) pe_int (nomark _)) (pa_cons (pe_cmpR op_eq (pv 6) pe_int (nomark _)) (pa_cons (pe_cmpR op_gt (pv 6) pe_int (nomark _)) pa_nil))))))
 (pss_one (ps_for PassesOwn.never rfl (pi_tup (pv 7)) (pg_name (i := 10) S.nd rfl (.inl rfl))
  (pss_one (ps_if (PW.pt (pw_or (pt_cmpR (op_neD hr.units) (pe_c C_l_families pass0 hq hr (by omega) (by rfl) (pa_cons (pv 10) pa_nil)) (pv 8) (nomark _)) (pw_or1 (pt_val (pe_callB call_isXT (by rfl) M.isinstance_ (by decide +kernel) (pa_cons (pv 10) (pa_cons (pe_tup (pa_cons (pe_bltn (v := .ty "IndexError") (u := .type "IndexError") (by rfl) M.IndexError_ (by decide +kernel) rfl) (pa_cons (pe_bltn (v := .ty "TypeError") (u := .type "TypeError") (by rfl) M.TypeError_ (by decide +kernel) rfl) pa_nil))) pa_nil)))))))
  (pss_one (ps_ret pe_bl))
  pss_nil))))))))))
 (pss_one (ps_ret (pe_cmpR (op_eqD hr.units) (pe_tup (pa_cons (C8.pe_gc (by rfl) T.c_TOP) (pa_cons (C8.pe_gc (by rfl) T.c_TURNS) (pa_cons (C8.pe_gc (by rfl) T.c_TABLE) (pa_cons (C8.pe_gc (by rfl) T.c_DELAYS) (pa_cons (C8.pe_gc (by rfl) T.c_MOST) pa_nil)))))) (pe_tup (pa_cons pe_str (pa_cons (pe_tup (pa_cons pe_str (pa_cons pe_str (pa_cons pe_str pa_nil)))) (pa_cons (pe_tup (pa_cons pe_int (pa_cons pe_int pa_nil))) (pa_cons (pe_tup (pa_cons pe_int (pa_cons pe_int (pa_cons pe_int pa_nil)))) (pa_cons pe_int pa_nil)))))) (nomark _)))))), ?_⟩
    refine ⟨.ref a, rfl, a, ns, rfl, hs, hl, hb, fun d c H1 s1 nd nc dk => ?_⟩
    refine ⟨4, rfl, by decide, by decide, for_range (lo := 0) (n := 4) (fun i σ H' => ∃ (t : Nat) (x2 x3 x4 x5 x6 x7 x8 x9 x10 : Option V),
      σ = [some (.ref a), some (.ref d), x2, x3, x4, x5, x6, x7, x8, x9, x10] ∧ Deck H' d c t ∧ t ≤ 3 * i) ?_ ?_ ?_⟩
    · exact ⟨0, none, none, none, none, none, none, none, none, none, rfl, dk, Nat.le_refl _⟩
    · rintro i σ H' hi ⟨t, x2, x3, x4, x5, x6, x7, x8, x9, x10, rfl, dk', ht⟩
      refine ⟨.ref d, rfl, d, c, t, rfl, dk', by omega, fun qq m hsA du ps H2 x bt dk2 eq em ln hps dh dd sh hd dp ln2 => ?_⟩
      refine ⟨qq, _, rfl, .inl (.inl eq), rfl, _, _, rfl, _, _, rfl, _, _, rfl, rfl, ?_⟩
      refine ⟨.ref hsA, rfl, hsA, x, rfl, dh, sh, hd, dp, ln2, .ref du, rfl, du, x, rfl, dd, sh, hd, dp, ln2, rfl, _, rfl, iteNS rfl ?_⟩
      refine ⟨.ref m, rfl, m, _, rfl, .inl (.inl em), for_it (walk_enum (K := K) (a := m) (xs := ps.map V.ref)) (fun j σ H' => Same H2 H' ∧ ∃ (y6 y7 y8 y9 y10 : Option V),
        σ = [some (.ref a), some (.ref d), some (.int (0 + (i : Int))), some (.ref m), some (.ref hsA), some (.ref du), y6, y7, y8, y9, y10]) ?_ ?_ ?_ ?_⟩
      · exact ⟨Same.refl _, _, _, _, _, _, rfl⟩
      · rintro j σ G _ ⟨sm, _⟩
        exact .inl (.inl (sm _ _ em))
      · rintro j x σ G G' hj ⟨sm, y6, y7, y8, y9, y10, rfl⟩ ⟨TT, u, v, rfl, nT, rfl, e1, e2⟩
        cases e1
        rw [List.length_map, ln] at hj
        have e2 : (ps.map V.ref)[j]? = some v := e2
        rw [List.getElem?_map] at e2
        have e3 : ∃ p, ps[j]? = some p ∧ .ref p = v := by
          cases hp : ps[j]? with
          | none =>
            rw [hp] at e2
            cases e2
          | some p =>
            rw [hp] at e2
            exact ⟨p, rfl, Option.some.inj e2⟩
        obtain ⟨p, hp, rfl⟩ := e3
        obtain ⟨C, hC, tw⟩ := hps j p hp
        have fam := famI j C hC
        refine ⟨TT, _, rfl, .inl (.inl upd_same), rfl, _, _, rfl, _, _, rfl, rfl, ?_⟩
        have sG := sm.trans (same_new (o := .tup [.int (j : Int), .ref p]) nT)
        revert sG
        generalize upd G TT (.tup [.int (j : Int), .ref p]) = G1
        intro sG
        -- what is due
        refine ⟨10, rfl, by decide, by decide, ?_⟩
        intro D1 nD
        refine lc_range (lo := 0) (n := 10) (fun k H' => Same G1 H' ∧ H' D1 = some (.lst ((List.range k).map fun y => V.bl (decide (y = j))))) ?_ ?_ ?_
        · exact ⟨same_new nD, upd_same⟩
        · rintro k H' hk ⟨s5, eD⟩
          refine ⟨rfl, ?_⟩
          unfold tYes
          refine iteT ?_
          refine ⟨.int (0 + (k : Int)), rfl, .int (j : Int), rfl, rfl, _, eD, ?_, same_mut s5 nD, ?_⟩
          · rw [List.length_map, List.length_range]
            exact Nat.lt_of_lt_of_le hk (by decide)
          · rw [upd_same, List.range_succ, List.map_append, dec_int]
            rfl
        rintro G2 ⟨s5, eD⟩
        refine ⟨.int (j : Int), rfl, (j : Int), 7, rfl, rfl, .int (j : Int), rfl, rfl, .int (j : Int), rfl, (j : Int), 7, rfl, rfl, by show 3 ≤ sizeLine; decide, fun p2 np2 => ?_⟩
        have s6 := same_new (o := .lst [V.bl (decide ((j : Int) < 7)), V.bl (decide (V.int (j : Int) = V.int 7)), V.bl (decide (7 < (j : Int)))]) np2
        refine ⟨D1, p2, _, _, rfl, rfl, s6 _ _ eD, upd_same, ?_, fun r nr => ?_⟩
        · rw [List.length_map, List.length_range]
          show 13 ≤ sizeLine
          decide
        rw [here_eq]
        have s7 : Same H2 (upd (upd G2 p2 (.lst [V.bl (decide ((j : Int) < 7)), V.bl (decide (V.int (j : Int) = V.int 7)), V.bl (decide (7 < (j : Int)))])) r (.lst ((here j).map V.bl))) := ((sG.trans s5).trans s6).trans (same_new nr)
        have er : (upd (upd G2 p2 (.lst [V.bl (decide ((j : Int) < 7)), V.bl (decide (V.int (j : Int) = V.int 7)), V.bl (decide (7 < (j : Int)))])) r (.lst ((here j).map V.bl))) r = some (.lst ((here j).map V.bl)) := upd_same
        revert s7 er
        generalize upd (upd G2 p2 (.lst [V.bl (decide ((j : Int) < 7)), V.bl (decide (V.int (j : Int) = V.int 7)), V.bl (decide (7 < (j : Int)))])) r (.lst ((here j).map V.bl)) = G3
        intro s7 er
        -- both of them
        obtain ⟨e1, e2', et, ex1, ex2⟩ := tw
        refine ⟨.ref p, rfl, p, rfl, ⟨_, .inl (.inl (s7 _ _ et))⟩, for_tup (xs := [.ref e1, .ref e2']) (fun k σ H' => Same G3 H' ∧ ∃ (z9 z10 : Option V),
          σ = [some (.ref a), some (.ref d), some (.int (0 + (i : Int))), some (.ref m), some (.ref hsA), some (.ref du), some (.int (j : Int)), some (.ref p), some (.ref r), z9, z10]) ?_ ?_ ?_ ?_⟩
        · exact ⟨Same.refl _, _, _, rfl⟩
        · rintro k σ G4 _ ⟨s8, _⟩
          exact .inl (.inl (s8 _ _ (s7 _ _ et)))
        · rintro k z σ G4 hz ⟨s8, z9, z10, rfl⟩
          obtain ⟨ek, rfl, hek⟩ : ∃ ek, z = .ref ek ∧ ExThere H2 ek C := by
            have hm := List.mem_of_getElem? hz
            simp only [List.mem_cons, List.not_mem_nil, or_false] at hm
            rcases hm with rfl | rfl
            · exact ⟨e1, rfl, ex1⟩
            · exact ⟨e2', rfl, ex2⟩
          have k4 := ext_same hek (s7.trans s8)
          refine ⟨.ref ek, rfl, ek, C, j, rfl, k4, fam, fun w1 H5 s9 nw ew => ?_⟩
          have dA : Dp K H5 (.ref w1) (.list ((here j).map PyData.bool)) := .lst (.inl (.inl ew)) (dp_bools _)
          have dB : Dp K H5 (.ref r) (.list ((here j).map PyData.bool)) := .lst (.inl (.inl (s9 _ _ (s8 _ _ er)))) (dp_bools _)
          refine ⟨.ref r, rfl, _, _, dA, dB, shaped_bools j, shaped_bools j, _, rfl, ?_⟩
          rw [SeqAt.eqv_refl _ (here_lay j)]
          refine iteF ?_
          refine ⟨.ref ek, rfl, by show 2 ≤ sizeLine; decide, fun tp ntp => ?_⟩
          have s10 := same_new (o := .tup [.ty "IndexError", .ty "TypeError"]) ntp
          refine ⟨ek, C, tp, _, _, false, rfl, upd_same, .cons (.ty _) (.cons (.ty _) .nil), ext_same k4 (s9.trans s10), fam.ex, fam.oth, false, rfl, ?_⟩
          refine iteF ?_
          exact ⟨(s8.trans s9).trans s10, _, _, rfl⟩
        · rintro σ G4 ⟨s8, z9, z10, rfl⟩
          exact ⟨s7.trans s8, _, _, _, _, _, rfl⟩
      · rintro σ G ⟨sm, y6, y7, y8, y9, y10, rfl⟩
        exact ⟨t + 3, _, _, _, _, _, _, _, _, _, rfl, dk2.same sm, by omega⟩
    · rintro σ H' ⟨t, x2, x3, x4, x5, x6, x7, x8, x9, x10, rfl, dk', ht⟩
      refine ⟨by show 5 ≤ sizeLine; decide, fun o1 no1 => ?_⟩
      refine ⟨by show 3 ≤ sizeLine; decide, fun o2 no2 => ?_⟩
      refine ⟨by show 2 ≤ sizeLine; decide, fun o3 no3 => ?_⟩
      refine ⟨by show 3 ≤ sizeLine; decide, fun o4 no4 => ?_⟩
      refine ⟨by show 5 ≤ sizeLine; decide, fun o5 no5 => ?_⟩
      have u5 := fun (o : HO) => same_new (o := o) no5
      refine ⟨optD, optD, .tup (.inl (.inl (u5 _ _ _ (same_new no4 _ _ (same_new no3 _ _ (same_new no2 _ _ upd_same)))))) ?_, .tup (.inl (.inl upd_same)) ?_, opt_sh, opt_sh, ?_⟩
      · exact .cons (.str _) (.cons (.tup (T.d_TURNS _) (.cons (.str _) (.cons (.str _) (.cons (.str _) .nil)))) (.cons (.tup (T.d_TABLE _) (.cons (.int _) (.cons (.int _) .nil))) (.cons (.tup (T.d_DELAYS _) (.cons (.int _) (.cons (.int _) (.cons (.int _) .nil)))) (.cons (.int _) .nil))))
      · exact .cons (.str _) (.cons (.tup (.inl (.inl (u5 _ _ _ (same_new no4 _ _ (same_new no3 _ _ upd_same))))) (.cons (.str _) (.cons (.str _) (.cons (.str _) .nil)))) (.cons (.tup (.inl (.inl (u5 _ _ _ (same_new no4 _ _ upd_same)))) (.cons (.int _) (.cons (.int _) .nil))) (.cons (.tup (.inl (.inl (u5 _ _ _ upd_same))) (.cons (.int _) (.cons (.int _) (.cons (.int _) .nil)))) (.cons (.int _) .nil))))
      · rw [SeqAt.eqv_refl _ opt_lay]
        exact q _
end
end K02

namespace K02
open PySem PySem.Spec PyProof.Rows L2 Kit
theorem vals_few {xs : List V} {its : Array Value} (h : Vals xs its.toList) (hl : xs.length ≤ 1000) : its.size ≤ sizeLine := by
  have e1 := Paired.length h
  have e2 : its.toList.length = its.size := Array.length_toList
  have e3 : (1000 : Nat) ≤ sizeLine := by decide
  omega
theorem pm1_rel {zs : List V} {ws : List Value} (h : Vals zs ws) : Vals (pm1 zs) (pm1 ws) := h
theorem pm3_rel {zs : List V} {ws : List Value} (h : Vals zs ws) : Vals (pm3 zs) (pm3 ws) := by
  match zs, ws, h with
  | [], _, .nil => exact .nil
  | [_], _, .cons a .nil => exact .cons a .nil
  | [_, _], _, .cons a (.cons b .nil) => exact .cons a (.cons b .nil)
  | [_, _, _], _, .cons a (.cons b (.cons c .nil)) => exact .cons b (.cons c (.cons a .nil))
  | _ :: _ :: _ :: _ :: _, _, .cons a (.cons b (.cons c (.cons d e))) => exact .cons a (.cons b (.cons c (.cons d e)))
theorem all_mk {l : PySem.W.OpenLaw} {w : World} {K : PySem.W.Frag} {h : Heap} {mg : Str → Option Value} {fa : Addr} (X : K.In h) (G : h.Ns mainGlobals mg) (hfa : mg "law" = some (.ref fa))
    {K_Fault K_Nested K_Ring K_NoRoom K_NoPaper K_Unlike K_TooMany K_NoText K_NoName K_NoPath K_WireError : Addr}
    (x_cn : PySem.W.specialIn K (.builtin "object.__class__") "__get__" = some (some (.builtin "getset_descriptor.__get__")))
    (x_ct : PySem.W.takesIn K (.builtin "object.__class__") = some true)
    (a_WireError : PySem.W.nsIn K mainGlobals "WireError" = some (some (.ref K_WireError)))
    (a_Fault : PySem.W.nsIn K mainGlobals "Fault" = some (some (.ref K_Fault)))
    (a_Nested : PySem.W.nsIn K mainGlobals "Nested" = some (some (.ref K_Nested)))
    (a_Ring : PySem.W.nsIn K mainGlobals "Ring" = some (some (.ref K_Ring)))
    (a_NoRoom : PySem.W.nsIn K mainGlobals "NoRoom" = some (some (.ref K_NoRoom)))
    (a_NoPaper : PySem.W.nsIn K mainGlobals "NoPaper" = some (some (.ref K_NoPaper)))
    (a_Unlike : PySem.W.nsIn K mainGlobals "Unlike" = some (some (.ref K_Unlike)))
    (a_TooMany : PySem.W.nsIn K mainGlobals "TooMany" = some (some (.ref K_TooMany)))
    (a_NoText : PySem.W.nsIn K mainGlobals "NoText" = some (some (.ref K_NoText)))
    (a_NoName : PySem.W.nsIn K mainGlobals "NoName" = some (some (.ref K_NoName)))
    (a_NoPath : PySem.W.nsIn K mainGlobals "NoPath" = some (some (.ref K_NoPath)))
    (kc_Fault : PySem.W.keepIn K (.ref K_Fault) = true)
    (ga_Fault : PySem.W.findIn K (.ref K_Fault) "__getattribute__" = some (some (.builtin "BaseException.__getattribute__")))
    (gg_Fault : PySem.W.findIn K (.ref K_Fault) "__getattr__" = some none)
    (ex_Fault : PySem.W.subIn K (.ref K_Fault) (.type "BaseException") = some true)
    (hd_Fault : PySem.W.hasDictIn K K_Fault = true)
    (ca_Fault : PySem.W.findIn K (.ref K_Fault) "__class__" = some (some (.builtin "object.__class__")))
    (cm_Fault : PySem.W.mroIn K K_Fault (.type "object") = some true)
    (ot_Fault : PySem.W.kitAny K (.ref K_Fault) [.type "IndexError", .type "TypeError"] = some false)
    (wi_Fault : PySem.W.kitOne K (.ref K_Fault) (.ref K_WireError) = some true)
    (va_Fault : PySem.W.kitOne K (.ref K_Fault) (.type "ValueError") = some false)
    (ke_Fault : PySem.W.kitOne K (.ref K_Fault) (.type "KeyError") = some false)
    (ow_Fault_Fault : PySem.W.kitOne K (.ref K_Fault) (.ref K_Fault) = some true)
    (ow_Fault_Nested : PySem.W.kitOne K (.ref K_Fault) (.ref K_Nested) = some false)
    (ow_Fault_Ring : PySem.W.kitOne K (.ref K_Fault) (.ref K_Ring) = some false)
    (ow_Fault_NoRoom : PySem.W.kitOne K (.ref K_Fault) (.ref K_NoRoom) = some false)
    (ow_Fault_NoPaper : PySem.W.kitOne K (.ref K_Fault) (.ref K_NoPaper) = some false)
    (ow_Fault_Unlike : PySem.W.kitOne K (.ref K_Fault) (.ref K_Unlike) = some false)
    (ow_Fault_TooMany : PySem.W.kitOne K (.ref K_Fault) (.ref K_TooMany) = some false)
    (ow_Fault_NoText : PySem.W.kitOne K (.ref K_Fault) (.ref K_NoText) = some false)
    (ow_Fault_NoName : PySem.W.kitOne K (.ref K_Fault) (.ref K_NoName) = some false)
    (ow_Fault_NoPath : PySem.W.kitOne K (.ref K_Fault) (.ref K_NoPath) = some false)
    (sa_Fault : PySem.W.findIn K (.ref K_Fault) "__setattr__" = some (some (.builtin "object.__setattr__")))
    (in_Fault : PySem.W.excInitIn K K_Fault [.type "Exception", .type "BaseException", .type "object"] "Exception.__new__" = true)
    (ov_Fault : PySem.W.excOver K K_Fault [.type "Exception", .type "BaseException", .type "object"] = true)
    (ta_Fault_stage : PySem.W.takerIn K K_Fault "stage" = some none)
    (fi_Fault_stage : PySem.W.findIn K (.ref K_Fault) "stage" = some none)
    (ta_Fault_module : PySem.W.takerIn K K_Fault "module" = some none)
    (fi_Fault_module : PySem.W.findIn K (.ref K_Fault) "module" = some none)
    (ta_Fault_place : PySem.W.takerIn K K_Fault "place" = some none)
    (fi_Fault_place : PySem.W.findIn K (.ref K_Fault) "place" = some none)
    (kc_Nested : PySem.W.keepIn K (.ref K_Nested) = true)
    (ga_Nested : PySem.W.findIn K (.ref K_Nested) "__getattribute__" = some (some (.builtin "BaseException.__getattribute__")))
    (gg_Nested : PySem.W.findIn K (.ref K_Nested) "__getattr__" = some none)
    (ex_Nested : PySem.W.subIn K (.ref K_Nested) (.type "BaseException") = some true)
    (hd_Nested : PySem.W.hasDictIn K K_Nested = true)
    (ca_Nested : PySem.W.findIn K (.ref K_Nested) "__class__" = some (some (.builtin "object.__class__")))
    (cm_Nested : PySem.W.mroIn K K_Nested (.type "object") = some true)
    (ot_Nested : PySem.W.kitAny K (.ref K_Nested) [.type "IndexError", .type "TypeError"] = some false)
    (wi_Nested : PySem.W.kitOne K (.ref K_Nested) (.ref K_WireError) = some true)
    (va_Nested : PySem.W.kitOne K (.ref K_Nested) (.type "ValueError") = some false)
    (ke_Nested : PySem.W.kitOne K (.ref K_Nested) (.type "KeyError") = some false)
    (ow_Nested_Fault : PySem.W.kitOne K (.ref K_Nested) (.ref K_Fault) = some false)
    (ow_Nested_Nested : PySem.W.kitOne K (.ref K_Nested) (.ref K_Nested) = some true)
    (ow_Nested_Ring : PySem.W.kitOne K (.ref K_Nested) (.ref K_Ring) = some false)
    (ow_Nested_NoRoom : PySem.W.kitOne K (.ref K_Nested) (.ref K_NoRoom) = some false)
    (ow_Nested_NoPaper : PySem.W.kitOne K (.ref K_Nested) (.ref K_NoPaper) = some false)
    (ow_Nested_Unlike : PySem.W.kitOne K (.ref K_Nested) (.ref K_Unlike) = some false)
    (ow_Nested_TooMany : PySem.W.kitOne K (.ref K_Nested) (.ref K_TooMany) = some false)
    (ow_Nested_NoText : PySem.W.kitOne K (.ref K_Nested) (.ref K_NoText) = some false)
    (ow_Nested_NoName : PySem.W.kitOne K (.ref K_Nested) (.ref K_NoName) = some false)
    (ow_Nested_NoPath : PySem.W.kitOne K (.ref K_Nested) (.ref K_NoPath) = some false)
    (sa_Nested : PySem.W.findIn K (.ref K_Nested) "__setattr__" = some (some (.builtin "object.__setattr__")))
    (in_Nested : PySem.W.excInitIn K K_Nested [.type "Exception", .type "BaseException", .type "object"] "Exception.__new__" = true)
    (ov_Nested : PySem.W.excOver K K_Nested [.type "Exception", .type "BaseException", .type "object"] = true)
    (ta_Nested_ring : PySem.W.takerIn K K_Nested "ring" = some none)
    (fi_Nested_ring : PySem.W.findIn K (.ref K_Nested) "ring" = some none)
    (kc_Ring : PySem.W.keepIn K (.ref K_Ring) = true)
    (ga_Ring : PySem.W.findIn K (.ref K_Ring) "__getattribute__" = some (some (.builtin "BaseException.__getattribute__")))
    (gg_Ring : PySem.W.findIn K (.ref K_Ring) "__getattr__" = some none)
    (ex_Ring : PySem.W.subIn K (.ref K_Ring) (.type "BaseException") = some true)
    (hd_Ring : PySem.W.hasDictIn K K_Ring = true)
    (ca_Ring : PySem.W.findIn K (.ref K_Ring) "__class__" = some (some (.builtin "object.__class__")))
    (cm_Ring : PySem.W.mroIn K K_Ring (.type "object") = some true)
    (ot_Ring : PySem.W.kitAny K (.ref K_Ring) [.type "IndexError", .type "TypeError"] = some false)
    (wi_Ring : PySem.W.kitOne K (.ref K_Ring) (.ref K_WireError) = some true)
    (va_Ring : PySem.W.kitOne K (.ref K_Ring) (.type "ValueError") = some false)
    (ke_Ring : PySem.W.kitOne K (.ref K_Ring) (.type "KeyError") = some false)
    (ow_Ring_Fault : PySem.W.kitOne K (.ref K_Ring) (.ref K_Fault) = some false)
    (ow_Ring_Nested : PySem.W.kitOne K (.ref K_Ring) (.ref K_Nested) = some false)
    (ow_Ring_Ring : PySem.W.kitOne K (.ref K_Ring) (.ref K_Ring) = some true)
    (ow_Ring_NoRoom : PySem.W.kitOne K (.ref K_Ring) (.ref K_NoRoom) = some false)
    (ow_Ring_NoPaper : PySem.W.kitOne K (.ref K_Ring) (.ref K_NoPaper) = some false)
    (ow_Ring_Unlike : PySem.W.kitOne K (.ref K_Ring) (.ref K_Unlike) = some false)
    (ow_Ring_TooMany : PySem.W.kitOne K (.ref K_Ring) (.ref K_TooMany) = some false)
    (ow_Ring_NoText : PySem.W.kitOne K (.ref K_Ring) (.ref K_NoText) = some false)
    (ow_Ring_NoName : PySem.W.kitOne K (.ref K_Ring) (.ref K_NoName) = some false)
    (ow_Ring_NoPath : PySem.W.kitOne K (.ref K_Ring) (.ref K_NoPath) = some false)
    (sa_Ring : PySem.W.findIn K (.ref K_Ring) "__setattr__" = some (some (.builtin "object.__setattr__")))
    (in_Ring : PySem.W.excInitIn K K_Ring [.type "Exception", .type "BaseException", .type "object"] "Exception.__new__" = true)
    (ov_Ring : PySem.W.excOver K K_Ring [.type "Exception", .type "BaseException", .type "object"] = true)
    (ta_Ring_ring : PySem.W.takerIn K K_Ring "ring" = some none)
    (fi_Ring_ring : PySem.W.findIn K (.ref K_Ring) "ring" = some none)
    (kc_NoRoom : PySem.W.keepIn K (.ref K_NoRoom) = true)
    (ga_NoRoom : PySem.W.findIn K (.ref K_NoRoom) "__getattribute__" = some (some (.builtin "BaseException.__getattribute__")))
    (gg_NoRoom : PySem.W.findIn K (.ref K_NoRoom) "__getattr__" = some none)
    (ex_NoRoom : PySem.W.subIn K (.ref K_NoRoom) (.type "BaseException") = some true)
    (hd_NoRoom : PySem.W.hasDictIn K K_NoRoom = true)
    (ca_NoRoom : PySem.W.findIn K (.ref K_NoRoom) "__class__" = some (some (.builtin "object.__class__")))
    (cm_NoRoom : PySem.W.mroIn K K_NoRoom (.type "object") = some true)
    (ot_NoRoom : PySem.W.kitAny K (.ref K_NoRoom) [.type "IndexError", .type "TypeError"] = some false)
    (wi_NoRoom : PySem.W.kitOne K (.ref K_NoRoom) (.ref K_WireError) = some true)
    (va_NoRoom : PySem.W.kitOne K (.ref K_NoRoom) (.type "ValueError") = some false)
    (ke_NoRoom : PySem.W.kitOne K (.ref K_NoRoom) (.type "KeyError") = some false)
    (ow_NoRoom_Fault : PySem.W.kitOne K (.ref K_NoRoom) (.ref K_Fault) = some false)
    (ow_NoRoom_Nested : PySem.W.kitOne K (.ref K_NoRoom) (.ref K_Nested) = some false)
    (ow_NoRoom_Ring : PySem.W.kitOne K (.ref K_NoRoom) (.ref K_Ring) = some false)
    (ow_NoRoom_NoRoom : PySem.W.kitOne K (.ref K_NoRoom) (.ref K_NoRoom) = some true)
    (ow_NoRoom_NoPaper : PySem.W.kitOne K (.ref K_NoRoom) (.ref K_NoPaper) = some false)
    (ow_NoRoom_Unlike : PySem.W.kitOne K (.ref K_NoRoom) (.ref K_Unlike) = some false)
    (ow_NoRoom_TooMany : PySem.W.kitOne K (.ref K_NoRoom) (.ref K_TooMany) = some false)
    (ow_NoRoom_NoText : PySem.W.kitOne K (.ref K_NoRoom) (.ref K_NoText) = some false)
    (ow_NoRoom_NoName : PySem.W.kitOne K (.ref K_NoRoom) (.ref K_NoName) = some false)
    (ow_NoRoom_NoPath : PySem.W.kitOne K (.ref K_NoRoom) (.ref K_NoPath) = some false)
    (sa_NoRoom : PySem.W.findIn K (.ref K_NoRoom) "__setattr__" = some (some (.builtin "object.__setattr__")))
    (in_NoRoom : PySem.W.excInitIn K K_NoRoom [.type "Exception", .type "BaseException", .type "object"] "Exception.__new__" = true)
    (ov_NoRoom : PySem.W.excOver K K_NoRoom [.type "Exception", .type "BaseException", .type "object"] = true)
    (ta_NoRoom_many : PySem.W.takerIn K K_NoRoom "many" = some none)
    (fi_NoRoom_many : PySem.W.findIn K (.ref K_NoRoom) "many" = some none)
    (kc_NoPaper : PySem.W.keepIn K (.ref K_NoPaper) = true)
    (ga_NoPaper : PySem.W.findIn K (.ref K_NoPaper) "__getattribute__" = some (some (.builtin "BaseException.__getattribute__")))
    (gg_NoPaper : PySem.W.findIn K (.ref K_NoPaper) "__getattr__" = some none)
    (ex_NoPaper : PySem.W.subIn K (.ref K_NoPaper) (.type "BaseException") = some true)
    (hd_NoPaper : PySem.W.hasDictIn K K_NoPaper = true)
    (ca_NoPaper : PySem.W.findIn K (.ref K_NoPaper) "__class__" = some (some (.builtin "object.__class__")))
    (cm_NoPaper : PySem.W.mroIn K K_NoPaper (.type "object") = some true)
    (ot_NoPaper : PySem.W.kitAny K (.ref K_NoPaper) [.type "IndexError", .type "TypeError"] = some false)
    (wi_NoPaper : PySem.W.kitOne K (.ref K_NoPaper) (.ref K_WireError) = some true)
    (va_NoPaper : PySem.W.kitOne K (.ref K_NoPaper) (.type "ValueError") = some false)
    (ke_NoPaper : PySem.W.kitOne K (.ref K_NoPaper) (.type "KeyError") = some false)
    (ow_NoPaper_Fault : PySem.W.kitOne K (.ref K_NoPaper) (.ref K_Fault) = some false)
    (ow_NoPaper_Nested : PySem.W.kitOne K (.ref K_NoPaper) (.ref K_Nested) = some false)
    (ow_NoPaper_Ring : PySem.W.kitOne K (.ref K_NoPaper) (.ref K_Ring) = some false)
    (ow_NoPaper_NoRoom : PySem.W.kitOne K (.ref K_NoPaper) (.ref K_NoRoom) = some false)
    (ow_NoPaper_NoPaper : PySem.W.kitOne K (.ref K_NoPaper) (.ref K_NoPaper) = some true)
    (ow_NoPaper_Unlike : PySem.W.kitOne K (.ref K_NoPaper) (.ref K_Unlike) = some false)
    (ow_NoPaper_TooMany : PySem.W.kitOne K (.ref K_NoPaper) (.ref K_TooMany) = some false)
    (ow_NoPaper_NoText : PySem.W.kitOne K (.ref K_NoPaper) (.ref K_NoText) = some false)
    (ow_NoPaper_NoName : PySem.W.kitOne K (.ref K_NoPaper) (.ref K_NoName) = some false)
    (ow_NoPaper_NoPath : PySem.W.kitOne K (.ref K_NoPaper) (.ref K_NoPath) = some false)
    (xi_NoPaper : PySem.W.excIn K K_NoPaper [.type "Exception", .type "BaseException", .type "object"] "Exception.__new__" = true)
    (kc_Unlike : PySem.W.keepIn K (.ref K_Unlike) = true)
    (ga_Unlike : PySem.W.findIn K (.ref K_Unlike) "__getattribute__" = some (some (.builtin "BaseException.__getattribute__")))
    (gg_Unlike : PySem.W.findIn K (.ref K_Unlike) "__getattr__" = some none)
    (ex_Unlike : PySem.W.subIn K (.ref K_Unlike) (.type "BaseException") = some true)
    (hd_Unlike : PySem.W.hasDictIn K K_Unlike = true)
    (ca_Unlike : PySem.W.findIn K (.ref K_Unlike) "__class__" = some (some (.builtin "object.__class__")))
    (cm_Unlike : PySem.W.mroIn K K_Unlike (.type "object") = some true)
    (ot_Unlike : PySem.W.kitAny K (.ref K_Unlike) [.type "IndexError", .type "TypeError"] = some false)
    (wi_Unlike : PySem.W.kitOne K (.ref K_Unlike) (.ref K_WireError) = some true)
    (va_Unlike : PySem.W.kitOne K (.ref K_Unlike) (.type "ValueError") = some false)
    (ke_Unlike : PySem.W.kitOne K (.ref K_Unlike) (.type "KeyError") = some false)
    (ow_Unlike_Fault : PySem.W.kitOne K (.ref K_Unlike) (.ref K_Fault) = some false)
    (ow_Unlike_Nested : PySem.W.kitOne K (.ref K_Unlike) (.ref K_Nested) = some false)
    (ow_Unlike_Ring : PySem.W.kitOne K (.ref K_Unlike) (.ref K_Ring) = some false)
    (ow_Unlike_NoRoom : PySem.W.kitOne K (.ref K_Unlike) (.ref K_NoRoom) = some false)
    (ow_Unlike_NoPaper : PySem.W.kitOne K (.ref K_Unlike) (.ref K_NoPaper) = some false)
    (ow_Unlike_Unlike : PySem.W.kitOne K (.ref K_Unlike) (.ref K_Unlike) = some true)
    (ow_Unlike_TooMany : PySem.W.kitOne K (.ref K_Unlike) (.ref K_TooMany) = some false)
    (ow_Unlike_NoText : PySem.W.kitOne K (.ref K_Unlike) (.ref K_NoText) = some false)
    (ow_Unlike_NoName : PySem.W.kitOne K (.ref K_Unlike) (.ref K_NoName) = some false)
    (ow_Unlike_NoPath : PySem.W.kitOne K (.ref K_Unlike) (.ref K_NoPath) = some false)
    (xi_Unlike : PySem.W.excIn K K_Unlike [.type "Exception", .type "BaseException", .type "object"] "Exception.__new__" = true)
    (kc_TooMany : PySem.W.keepIn K (.ref K_TooMany) = true)
    (ga_TooMany : PySem.W.findIn K (.ref K_TooMany) "__getattribute__" = some (some (.builtin "BaseException.__getattribute__")))
    (gg_TooMany : PySem.W.findIn K (.ref K_TooMany) "__getattr__" = some none)
    (ex_TooMany : PySem.W.subIn K (.ref K_TooMany) (.type "BaseException") = some true)
    (hd_TooMany : PySem.W.hasDictIn K K_TooMany = true)
    (ca_TooMany : PySem.W.findIn K (.ref K_TooMany) "__class__" = some (some (.builtin "object.__class__")))
    (cm_TooMany : PySem.W.mroIn K K_TooMany (.type "object") = some true)
    (ot_TooMany : PySem.W.kitAny K (.ref K_TooMany) [.type "IndexError", .type "TypeError"] = some false)
    (wi_TooMany : PySem.W.kitOne K (.ref K_TooMany) (.ref K_WireError) = some true)
    (va_TooMany : PySem.W.kitOne K (.ref K_TooMany) (.type "ValueError") = some false)
    (ke_TooMany : PySem.W.kitOne K (.ref K_TooMany) (.type "KeyError") = some false)
    (ow_TooMany_Fault : PySem.W.kitOne K (.ref K_TooMany) (.ref K_Fault) = some false)
    (ow_TooMany_Nested : PySem.W.kitOne K (.ref K_TooMany) (.ref K_Nested) = some false)
    (ow_TooMany_Ring : PySem.W.kitOne K (.ref K_TooMany) (.ref K_Ring) = some false)
    (ow_TooMany_NoRoom : PySem.W.kitOne K (.ref K_TooMany) (.ref K_NoRoom) = some false)
    (ow_TooMany_NoPaper : PySem.W.kitOne K (.ref K_TooMany) (.ref K_NoPaper) = some false)
    (ow_TooMany_Unlike : PySem.W.kitOne K (.ref K_TooMany) (.ref K_Unlike) = some false)
    (ow_TooMany_TooMany : PySem.W.kitOne K (.ref K_TooMany) (.ref K_TooMany) = some true)
    (ow_TooMany_NoText : PySem.W.kitOne K (.ref K_TooMany) (.ref K_NoText) = some false)
    (ow_TooMany_NoName : PySem.W.kitOne K (.ref K_TooMany) (.ref K_NoName) = some false)
    (ow_TooMany_NoPath : PySem.W.kitOne K (.ref K_TooMany) (.ref K_NoPath) = some false)
    (sa_TooMany : PySem.W.findIn K (.ref K_TooMany) "__setattr__" = some (some (.builtin "object.__setattr__")))
    (in_TooMany : PySem.W.excInitIn K K_TooMany [.type "Exception", .type "BaseException", .type "object"] "Exception.__new__" = true)
    (ov_TooMany : PySem.W.excOver K K_TooMany [.type "Exception", .type "BaseException", .type "object"] = true)
    (ta_TooMany_most : PySem.W.takerIn K K_TooMany "most" = some none)
    (fi_TooMany_most : PySem.W.findIn K (.ref K_TooMany) "most" = some none)
    (kc_NoText : PySem.W.keepIn K (.ref K_NoText) = true)
    (ga_NoText : PySem.W.findIn K (.ref K_NoText) "__getattribute__" = some (some (.builtin "BaseException.__getattribute__")))
    (gg_NoText : PySem.W.findIn K (.ref K_NoText) "__getattr__" = some none)
    (ex_NoText : PySem.W.subIn K (.ref K_NoText) (.type "BaseException") = some true)
    (hd_NoText : PySem.W.hasDictIn K K_NoText = true)
    (ca_NoText : PySem.W.findIn K (.ref K_NoText) "__class__" = some (some (.builtin "object.__class__")))
    (cm_NoText : PySem.W.mroIn K K_NoText (.type "object") = some true)
    (ot_NoText : PySem.W.kitAny K (.ref K_NoText) [.type "IndexError", .type "TypeError"] = some false)
    (wi_NoText : PySem.W.kitOne K (.ref K_NoText) (.ref K_WireError) = some false)
    (va_NoText : PySem.W.kitOne K (.ref K_NoText) (.type "ValueError") = some true)
    (ke_NoText : PySem.W.kitOne K (.ref K_NoText) (.type "KeyError") = some false)
    (ow_NoText_Fault : PySem.W.kitOne K (.ref K_NoText) (.ref K_Fault) = some false)
    (ow_NoText_Nested : PySem.W.kitOne K (.ref K_NoText) (.ref K_Nested) = some false)
    (ow_NoText_Ring : PySem.W.kitOne K (.ref K_NoText) (.ref K_Ring) = some false)
    (ow_NoText_NoRoom : PySem.W.kitOne K (.ref K_NoText) (.ref K_NoRoom) = some false)
    (ow_NoText_NoPaper : PySem.W.kitOne K (.ref K_NoText) (.ref K_NoPaper) = some false)
    (ow_NoText_Unlike : PySem.W.kitOne K (.ref K_NoText) (.ref K_Unlike) = some false)
    (ow_NoText_TooMany : PySem.W.kitOne K (.ref K_NoText) (.ref K_TooMany) = some false)
    (ow_NoText_NoText : PySem.W.kitOne K (.ref K_NoText) (.ref K_NoText) = some true)
    (ow_NoText_NoName : PySem.W.kitOne K (.ref K_NoText) (.ref K_NoName) = some false)
    (ow_NoText_NoPath : PySem.W.kitOne K (.ref K_NoText) (.ref K_NoPath) = some false)
    (sa_NoText : PySem.W.findIn K (.ref K_NoText) "__setattr__" = some (some (.builtin "object.__setattr__")))
    (in_NoText : PySem.W.excInitIn K K_NoText [.type "ValueError", .type "Exception", .type "BaseException", .type "object"] "ValueError.__new__" = true)
    (ov_NoText : PySem.W.excOver K K_NoText [.type "ValueError", .type "Exception", .type "BaseException", .type "object"] = true)
    (ta_NoText_place : PySem.W.takerIn K K_NoText "place" = some none)
    (fi_NoText_place : PySem.W.findIn K (.ref K_NoText) "place" = some none)
    (kc_NoName : PySem.W.keepIn K (.ref K_NoName) = true)
    (ga_NoName : PySem.W.findIn K (.ref K_NoName) "__getattribute__" = some (some (.builtin "BaseException.__getattribute__")))
    (gg_NoName : PySem.W.findIn K (.ref K_NoName) "__getattr__" = some none)
    (ex_NoName : PySem.W.subIn K (.ref K_NoName) (.type "BaseException") = some true)
    (hd_NoName : PySem.W.hasDictIn K K_NoName = true)
    (ca_NoName : PySem.W.findIn K (.ref K_NoName) "__class__" = some (some (.builtin "object.__class__")))
    (cm_NoName : PySem.W.mroIn K K_NoName (.type "object") = some true)
    (ot_NoName : PySem.W.kitAny K (.ref K_NoName) [.type "IndexError", .type "TypeError"] = some false)
    (wi_NoName : PySem.W.kitOne K (.ref K_NoName) (.ref K_WireError) = some false)
    (va_NoName : PySem.W.kitOne K (.ref K_NoName) (.type "ValueError") = some false)
    (ke_NoName : PySem.W.kitOne K (.ref K_NoName) (.type "KeyError") = some true)
    (ow_NoName_Fault : PySem.W.kitOne K (.ref K_NoName) (.ref K_Fault) = some false)
    (ow_NoName_Nested : PySem.W.kitOne K (.ref K_NoName) (.ref K_Nested) = some false)
    (ow_NoName_Ring : PySem.W.kitOne K (.ref K_NoName) (.ref K_Ring) = some false)
    (ow_NoName_NoRoom : PySem.W.kitOne K (.ref K_NoName) (.ref K_NoRoom) = some false)
    (ow_NoName_NoPaper : PySem.W.kitOne K (.ref K_NoName) (.ref K_NoPaper) = some false)
    (ow_NoName_Unlike : PySem.W.kitOne K (.ref K_NoName) (.ref K_Unlike) = some false)
    (ow_NoName_TooMany : PySem.W.kitOne K (.ref K_NoName) (.ref K_TooMany) = some false)
    (ow_NoName_NoText : PySem.W.kitOne K (.ref K_NoName) (.ref K_NoText) = some false)
    (ow_NoName_NoName : PySem.W.kitOne K (.ref K_NoName) (.ref K_NoName) = some true)
    (ow_NoName_NoPath : PySem.W.kitOne K (.ref K_NoName) (.ref K_NoPath) = some false)
    (sa_NoName : PySem.W.findIn K (.ref K_NoName) "__setattr__" = some (some (.builtin "object.__setattr__")))
    (in_NoName : PySem.W.excInitIn K K_NoName [.type "KeyError", .type "LookupError", .type "Exception", .type "BaseException", .type "object"] "LookupError.__new__" = true)
    (ov_NoName : PySem.W.excOver K K_NoName [.type "KeyError", .type "LookupError", .type "Exception", .type "BaseException", .type "object"] = true)
    (ta_NoName_name : PySem.W.takerIn K K_NoName "name" = some none)
    (fi_NoName_name : PySem.W.findIn K (.ref K_NoName) "name" = some none)
    (kc_NoPath : PySem.W.keepIn K (.ref K_NoPath) = true)
    (ga_NoPath : PySem.W.findIn K (.ref K_NoPath) "__getattribute__" = some (some (.builtin "BaseException.__getattribute__")))
    (gg_NoPath : PySem.W.findIn K (.ref K_NoPath) "__getattr__" = some none)
    (ex_NoPath : PySem.W.subIn K (.ref K_NoPath) (.type "BaseException") = some true)
    (hd_NoPath : PySem.W.hasDictIn K K_NoPath = true)
    (ca_NoPath : PySem.W.findIn K (.ref K_NoPath) "__class__" = some (some (.builtin "object.__class__")))
    (cm_NoPath : PySem.W.mroIn K K_NoPath (.type "object") = some true)
    (ot_NoPath : PySem.W.kitAny K (.ref K_NoPath) [.type "IndexError", .type "TypeError"] = some false)
    (wi_NoPath : PySem.W.kitOne K (.ref K_NoPath) (.ref K_WireError) = some false)
    (va_NoPath : PySem.W.kitOne K (.ref K_NoPath) (.type "ValueError") = some false)
    (ke_NoPath : PySem.W.kitOne K (.ref K_NoPath) (.type "KeyError") = some true)
    (ow_NoPath_Fault : PySem.W.kitOne K (.ref K_NoPath) (.ref K_Fault) = some false)
    (ow_NoPath_Nested : PySem.W.kitOne K (.ref K_NoPath) (.ref K_Nested) = some false)
    (ow_NoPath_Ring : PySem.W.kitOne K (.ref K_NoPath) (.ref K_Ring) = some false)
    (ow_NoPath_NoRoom : PySem.W.kitOne K (.ref K_NoPath) (.ref K_NoRoom) = some false)
    (ow_NoPath_NoPaper : PySem.W.kitOne K (.ref K_NoPath) (.ref K_NoPaper) = some false)
    (ow_NoPath_Unlike : PySem.W.kitOne K (.ref K_NoPath) (.ref K_Unlike) = some false)
    (ow_NoPath_TooMany : PySem.W.kitOne K (.ref K_NoPath) (.ref K_TooMany) = some false)
    (ow_NoPath_NoText : PySem.W.kitOne K (.ref K_NoPath) (.ref K_NoText) = some false)
    (ow_NoPath_NoName : PySem.W.kitOne K (.ref K_NoPath) (.ref K_NoName) = some false)
    (ow_NoPath_NoPath : PySem.W.kitOne K (.ref K_NoPath) (.ref K_NoPath) = some true)
    (sa_NoPath : PySem.W.findIn K (.ref K_NoPath) "__setattr__" = some (some (.builtin "object.__setattr__")))
    (in_NoPath : PySem.W.excInitIn K K_NoPath [.type "KeyError", .type "LookupError", .type "Exception", .type "BaseException", .type "object"] "LookupError.__new__" = true)
    (ov_NoPath : PySem.W.excOver K K_NoPath [.type "KeyError", .type "LookupError", .type "Exception", .type "BaseException", .type "object"] = true)
    (ta_NoPath_path : PySem.W.takerIn K K_NoPath "path" = some none)
    (fi_NoPath_path : PySem.W.findIn K (.ref K_NoPath) "path" = some none)
    {f_Fault_init : Addr} {oc_Fault_init kV_Fault_init dc_Fault_init pm_Fault_init cd_Fault_init ct_Fault_init : Value} {od_Fault_init an_Fault_init : Option Addr} {sl_Fault_init : Array (Option Value)}
    (a_Fault_init : PySem.W.findIn K (.ref K_Fault) "__init__" = some (some (.ref f_Fault_init)))
    (i_Fault_init : PySem.W.isFn K (.ref f_Fault_init) = true)
    (l_Fault_init : K.lookup f_Fault_init = some ⟨oc_Fault_init, od_Fault_init, .func (PySem.W.fnOf "__init__" "Fault.__init__" (defArgs s_Fault_init) (defBody s_Fault_init) (defScope s_Fault_init) .none kV_Fault_init dc_Fault_init pm_Fault_init an_Fault_init cd_Fault_init ct_Fault_init), sl_Fault_init⟩)
    (c_Fault_init : PySem.W.codeIn K cd_Fault_init "Fault.__init__" = true)
    (k_Fault_init : PySem.W.keepIn K (.ref f_Fault_init) = true)
    {f_Nested_init : Addr} {oc_Nested_init kV_Nested_init dc_Nested_init pm_Nested_init cd_Nested_init ct_Nested_init : Value} {od_Nested_init an_Nested_init : Option Addr} {sl_Nested_init : Array (Option Value)}
    (a_Nested_init : PySem.W.findIn K (.ref K_Nested) "__init__" = some (some (.ref f_Nested_init)))
    (i_Nested_init : PySem.W.isFn K (.ref f_Nested_init) = true)
    (l_Nested_init : K.lookup f_Nested_init = some ⟨oc_Nested_init, od_Nested_init, .func (PySem.W.fnOf "__init__" "Nested.__init__" (defArgs s_Nested_init) (defBody s_Nested_init) (defScope s_Nested_init) .none kV_Nested_init dc_Nested_init pm_Nested_init an_Nested_init cd_Nested_init ct_Nested_init), sl_Nested_init⟩)
    (c_Nested_init : PySem.W.codeIn K cd_Nested_init "Nested.__init__" = true)
    (k_Nested_init : PySem.W.keepIn K (.ref f_Nested_init) = true)
    {f_Ring_init : Addr} {oc_Ring_init kV_Ring_init dc_Ring_init pm_Ring_init cd_Ring_init ct_Ring_init : Value} {od_Ring_init an_Ring_init : Option Addr} {sl_Ring_init : Array (Option Value)}
    (a_Ring_init : PySem.W.findIn K (.ref K_Ring) "__init__" = some (some (.ref f_Ring_init)))
    (i_Ring_init : PySem.W.isFn K (.ref f_Ring_init) = true)
    (l_Ring_init : K.lookup f_Ring_init = some ⟨oc_Ring_init, od_Ring_init, .func (PySem.W.fnOf "__init__" "Ring.__init__" (defArgs s_Ring_init) (defBody s_Ring_init) (defScope s_Ring_init) .none kV_Ring_init dc_Ring_init pm_Ring_init an_Ring_init cd_Ring_init ct_Ring_init), sl_Ring_init⟩)
    (c_Ring_init : PySem.W.codeIn K cd_Ring_init "Ring.__init__" = true)
    (k_Ring_init : PySem.W.keepIn K (.ref f_Ring_init) = true)
    {f_NoRoom_init : Addr} {oc_NoRoom_init kV_NoRoom_init dc_NoRoom_init pm_NoRoom_init cd_NoRoom_init ct_NoRoom_init : Value} {od_NoRoom_init an_NoRoom_init : Option Addr} {sl_NoRoom_init : Array (Option Value)}
    (a_NoRoom_init : PySem.W.findIn K (.ref K_NoRoom) "__init__" = some (some (.ref f_NoRoom_init)))
    (i_NoRoom_init : PySem.W.isFn K (.ref f_NoRoom_init) = true)
    (l_NoRoom_init : K.lookup f_NoRoom_init = some ⟨oc_NoRoom_init, od_NoRoom_init, .func (PySem.W.fnOf "__init__" "NoRoom.__init__" (defArgs s_NoRoom_init) (defBody s_NoRoom_init) (defScope s_NoRoom_init) .none kV_NoRoom_init dc_NoRoom_init pm_NoRoom_init an_NoRoom_init cd_NoRoom_init ct_NoRoom_init), sl_NoRoom_init⟩)
    (c_NoRoom_init : PySem.W.codeIn K cd_NoRoom_init "NoRoom.__init__" = true)
    (k_NoRoom_init : PySem.W.keepIn K (.ref f_NoRoom_init) = true)
    {f_TooMany_init : Addr} {oc_TooMany_init kV_TooMany_init dc_TooMany_init pm_TooMany_init cd_TooMany_init ct_TooMany_init : Value} {od_TooMany_init an_TooMany_init : Option Addr} {sl_TooMany_init : Array (Option Value)}
    (a_TooMany_init : PySem.W.findIn K (.ref K_TooMany) "__init__" = some (some (.ref f_TooMany_init)))
    (i_TooMany_init : PySem.W.isFn K (.ref f_TooMany_init) = true)
    (l_TooMany_init : K.lookup f_TooMany_init = some ⟨oc_TooMany_init, od_TooMany_init, .func (PySem.W.fnOf "__init__" "TooMany.__init__" (defArgs s_TooMany_init) (defBody s_TooMany_init) (defScope s_TooMany_init) .none kV_TooMany_init dc_TooMany_init pm_TooMany_init an_TooMany_init cd_TooMany_init ct_TooMany_init), sl_TooMany_init⟩)
    (c_TooMany_init : PySem.W.codeIn K cd_TooMany_init "TooMany.__init__" = true)
    (k_TooMany_init : PySem.W.keepIn K (.ref f_TooMany_init) = true)
    {f_NoText_init : Addr} {oc_NoText_init kV_NoText_init dc_NoText_init pm_NoText_init cd_NoText_init ct_NoText_init : Value} {od_NoText_init an_NoText_init : Option Addr} {sl_NoText_init : Array (Option Value)}
    (a_NoText_init : PySem.W.findIn K (.ref K_NoText) "__init__" = some (some (.ref f_NoText_init)))
    (i_NoText_init : PySem.W.isFn K (.ref f_NoText_init) = true)
    (l_NoText_init : K.lookup f_NoText_init = some ⟨oc_NoText_init, od_NoText_init, .func (PySem.W.fnOf "__init__" "NoText.__init__" (defArgs s_NoText_init) (defBody s_NoText_init) (defScope s_NoText_init) .none kV_NoText_init dc_NoText_init pm_NoText_init an_NoText_init cd_NoText_init ct_NoText_init), sl_NoText_init⟩)
    (c_NoText_init : PySem.W.codeIn K cd_NoText_init "NoText.__init__" = true)
    (k_NoText_init : PySem.W.keepIn K (.ref f_NoText_init) = true)
    {f_NoName_init : Addr} {oc_NoName_init kV_NoName_init dc_NoName_init pm_NoName_init cd_NoName_init ct_NoName_init : Value} {od_NoName_init an_NoName_init : Option Addr} {sl_NoName_init : Array (Option Value)}
    (a_NoName_init : PySem.W.findIn K (.ref K_NoName) "__init__" = some (some (.ref f_NoName_init)))
    (i_NoName_init : PySem.W.isFn K (.ref f_NoName_init) = true)
    (l_NoName_init : K.lookup f_NoName_init = some ⟨oc_NoName_init, od_NoName_init, .func (PySem.W.fnOf "__init__" "NoName.__init__" (defArgs s_NoName_init) (defBody s_NoName_init) (defScope s_NoName_init) .none kV_NoName_init dc_NoName_init pm_NoName_init an_NoName_init cd_NoName_init ct_NoName_init), sl_NoName_init⟩)
    (c_NoName_init : PySem.W.codeIn K cd_NoName_init "NoName.__init__" = true)
    (k_NoName_init : PySem.W.keepIn K (.ref f_NoName_init) = true)
    {f_NoPath_init : Addr} {oc_NoPath_init kV_NoPath_init dc_NoPath_init pm_NoPath_init cd_NoPath_init ct_NoPath_init : Value} {od_NoPath_init an_NoPath_init : Option Addr} {sl_NoPath_init : Array (Option Value)}
    (a_NoPath_init : PySem.W.findIn K (.ref K_NoPath) "__init__" = some (some (.ref f_NoPath_init)))
    (i_NoPath_init : PySem.W.isFn K (.ref f_NoPath_init) = true)
    (l_NoPath_init : K.lookup f_NoPath_init = some ⟨oc_NoPath_init, od_NoPath_init, .func (PySem.W.fnOf "__init__" "NoPath.__init__" (defArgs s_NoPath_init) (defBody s_NoPath_init) (defScope s_NoPath_init) .none kV_NoPath_init dc_NoPath_init pm_NoPath_init an_NoPath_init cd_NoPath_init ct_NoPath_init), sl_NoPath_init⟩)
    (c_NoPath_init : PySem.W.codeIn K cd_NoPath_init "NoPath.__init__" = true)
    (k_NoPath_init : PySem.W.keepIn K (.ref f_NoPath_init) = true)
    {f_l_deck : Addr} {oc_l_deck kV_l_deck dc_l_deck pm_l_deck cd_l_deck ct_l_deck : Value} {od_l_deck an_l_deck : Option Addr} {sl_l_deck : Array (Option Value)}
    (a_l_deck : PySem.W.nsIn K mainGlobals "_law_deck" = some (some (.ref f_l_deck)))
    (l_l_deck : K.lookup f_l_deck = some ⟨oc_l_deck, od_l_deck, .func (PySem.W.fnOf "_law_deck" "_law_deck" (defArgs s_l_deck) (defBody s_l_deck) (defScope s_l_deck) .none kV_l_deck dc_l_deck pm_l_deck an_l_deck cd_l_deck ct_l_deck), sl_l_deck⟩)
    (c_l_deck : PySem.W.codeIn K cd_l_deck "_law_deck" = true)
    (k_l_deck : PySem.W.keepIn K (.ref f_l_deck) = true)
    {f_l_draw : Addr} {oc_l_draw kV_l_draw dc_l_draw pm_l_draw cd_l_draw ct_l_draw : Value} {od_l_draw an_l_draw : Option Addr} {sl_l_draw : Array (Option Value)}
    (a_l_draw : PySem.W.nsIn K mainGlobals "_law_draw" = some (some (.ref f_l_draw)))
    (l_l_draw : K.lookup f_l_draw = some ⟨oc_l_draw, od_l_draw, .func (PySem.W.fnOf "_law_draw" "_law_draw" (defArgs s_l_draw) (defBody s_l_draw) (defScope s_l_draw) .none kV_l_draw dc_l_draw pm_l_draw an_l_draw cd_l_draw ct_l_draw), sl_l_draw⟩)
    (c_l_draw : PySem.W.codeIn K cd_l_draw "_law_draw" = true)
    (k_l_draw : PySem.W.keepIn K (.ref f_l_draw) = true)
    {f_l_pick : Addr} {oc_l_pick kV_l_pick dc_l_pick pm_l_pick cd_l_pick ct_l_pick : Value} {od_l_pick an_l_pick : Option Addr} {sl_l_pick : Array (Option Value)}
    (a_l_pick : PySem.W.nsIn K mainGlobals "_law_pick" = some (some (.ref f_l_pick)))
    (l_l_pick : K.lookup f_l_pick = some ⟨oc_l_pick, od_l_pick, .func (PySem.W.fnOf "_law_pick" "_law_pick" (defArgs s_l_pick) (defBody s_l_pick) (defScope s_l_pick) .none kV_l_pick dc_l_pick pm_l_pick an_l_pick cd_l_pick ct_l_pick), sl_l_pick⟩)
    (c_l_pick : PySem.W.codeIn K cd_l_pick "_law_pick" = true)
    (k_l_pick : PySem.W.keepIn K (.ref f_l_pick) = true)
    {f_l_families : Addr} {oc_l_families kV_l_families dc_l_families pm_l_families cd_l_families ct_l_families : Value} {od_l_families an_l_families : Option Addr} {sl_l_families : Array (Option Value)}
    (a_l_families : PySem.W.nsIn K mainGlobals "_law_families" = some (some (.ref f_l_families)))
    (l_l_families : K.lookup f_l_families = some ⟨oc_l_families, od_l_families, .func (PySem.W.fnOf "_law_families" "_law_families" (defArgs s_l_families) (defBody s_l_families) (defScope s_l_families) .none kV_l_families dc_l_families pm_l_families an_l_families cd_l_families ct_l_families), sl_l_families⟩)
    (c_l_families : PySem.W.codeIn K cd_l_families "_law_families" = true)
    (k_l_families : PySem.W.keepIn K (.ref f_l_families) = true)
    {f_l_all : Addr} {oc_l_all kV_l_all dc_l_all pm_l_all cd_l_all ct_l_all : Value} {od_l_all an_l_all : Option Addr} {sl_l_all : Array (Option Value)}
    (a_l_all : PySem.W.nsIn K mainGlobals "_law_all" = some (some (.ref f_l_all)))
    (l_l_all : K.lookup f_l_all = some ⟨oc_l_all, od_l_all, .func (PySem.W.fnOf "_law_all" "_law_all" (defArgs s_l_all) (defBody s_l_all) (defScope s_l_all) .none kV_l_all dc_l_all pm_l_all an_l_all cd_l_all ct_l_all), sl_l_all⟩)
    (c_l_all : PySem.W.codeIn K cd_l_all "_law_all" = true)
    (k_l_all : PySem.W.keepIn K (.ref f_l_all) = true)
    {f_law : Addr} {oc_law kV_law dc_law pm_law cd_law ct_law : Value} {od_law an_law : Option Addr} {sl_law : Array (Option Value)}
    (a_law : PySem.W.nsIn K mainGlobals "law" = some (some (.ref f_law)))
    (l_law : K.lookup f_law = some ⟨oc_law, od_law, .func (PySem.W.fnOf "law" "law" (defArgs s_law) (defBody s_law) (defScope s_law) .none kV_law dc_law pm_law an_law cd_law ct_law), sl_law⟩)
    (c_law : PySem.W.codeIn K cd_law "law" = true)
    (k_law : PySem.W.keepIn K (.ref f_law) = true)
    (z_isinstance : PySem.W.nsIn K mainGlobals "isinstance" = some none)
    (z_len : PySem.W.nsIn K mainGlobals "len" = some none)
    (z_list : PySem.W.nsIn K mainGlobals "list" = some none)
    (z_range : PySem.W.nsIn K mainGlobals "range" = some none)
    (z_repr : PySem.W.nsIn K mainGlobals "repr" = some none)
    (z_enumerate : PySem.W.nsIn K mainGlobals "enumerate" = some none)
    (z_ValueError : PySem.W.nsIn K mainGlobals "ValueError" = some none)
    (z_KeyError : PySem.W.nsIn K mainGlobals "KeyError" = some none)
    (z_IndexError : PySem.W.nsIn K mainGlobals "IndexError" = some none)
    (z_TypeError : PySem.W.nsIn K mainGlobals "TypeError" = some none)
    {tT tM : Tok} {cT cB cD : Addr} {d1 d2 d3 : Option Addr} {i1 i2 i3 : Array Value} {n1 n2 n3 : Nat} {s1 s2 s3 : Array (Option Value)}
    (t_T : PySem.W.nsIn K mainGlobals "TOP" = some (some (.str "top" tT)))
    (t_M : PySem.W.nsIn K mainGlobals "MOST" = some (some (.int 100 tM)))
    (t_1 : PySem.W.nsIn K mainGlobals "TURNS" = some (some (.ref cT)))
    (t_1a : K.lookup cT = some ⟨.type "tuple", d1, .seq i1 n1, s1⟩)
    (t_1b : Vals [.str "fold", .str "share", .str "drop"] i1.toList)
    (t_2 : PySem.W.nsIn K mainGlobals "TABLE" = some (some (.ref cB)))
    (t_2a : K.lookup cB = some ⟨.type "tuple", d2, .seq i2 n2, s2⟩)
    (t_2b : Vals [.int 20, .int 20] i2.toList)
    (t_3 : PySem.W.nsIn K mainGlobals "DELAYS" = some (some (.ref cD)))
    (t_3a : K.lookup cD = some ⟨.type "tuple", d3, .seq i3 n3, s3⟩)
    (t_3b : Vals [.int 1, .int 2, .int 3] i3.toList)
    : ∃ fd : FuncData, (∀ (s : Shared) (v : Value), BindsTo s fd ⟨[v], []⟩ [("_law_script", v)]) ∧ ∀ base : Heap, K.In base → base.Ns mainGlobals mg → FnG l.prog w K mg base L2.CX0 4 fa fd ["_law_script"] (spLaw K) := by
  have e := hfa.symm.trans (PySem.W.mg_of X G a_law)
  cases e
  have F_Fault_init := fun_mk (st := s_Fault_init) l_Fault_init c_Fault_init k_Fault_init
  have b_Fault_init := F_Fault_init.binds (ps := ["self", "stage", "module", "place"]) (fun _ _ _ _ _ _ us hl => match us, hl with | [_, _, _, _], _ => rfl)
  have F_Nested_init := fun_mk (st := s_Nested_init) l_Nested_init c_Nested_init k_Nested_init
  have b_Nested_init := F_Nested_init.binds (ps := ["self", "ring"]) (fun _ _ _ _ _ _ us hl => match us, hl with | [_, _], _ => rfl)
  have F_Ring_init := fun_mk (st := s_Ring_init) l_Ring_init c_Ring_init k_Ring_init
  have b_Ring_init := F_Ring_init.binds (ps := ["self", "ring"]) (fun _ _ _ _ _ _ us hl => match us, hl with | [_, _], _ => rfl)
  have F_NoRoom_init := fun_mk (st := s_NoRoom_init) l_NoRoom_init c_NoRoom_init k_NoRoom_init
  have b_NoRoom_init := F_NoRoom_init.binds (ps := ["self", "many"]) (fun _ _ _ _ _ _ us hl => match us, hl with | [_, _], _ => rfl)
  have F_TooMany_init := fun_mk (st := s_TooMany_init) l_TooMany_init c_TooMany_init k_TooMany_init
  have b_TooMany_init := F_TooMany_init.binds (ps := ["self", "most"]) (fun _ _ _ _ _ _ us hl => match us, hl with | [_, _], _ => rfl)
  have F_NoText_init := fun_mk (st := s_NoText_init) l_NoText_init c_NoText_init k_NoText_init
  have b_NoText_init := F_NoText_init.binds (ps := ["self", "place"]) (fun _ _ _ _ _ _ us hl => match us, hl with | [_, _], _ => rfl)
  have F_NoName_init := fun_mk (st := s_NoName_init) l_NoName_init c_NoName_init k_NoName_init
  have b_NoName_init := F_NoName_init.binds (ps := ["self", "name"]) (fun _ _ _ _ _ _ us hl => match us, hl with | [_, _], _ => rfl)
  have F_NoPath_init := fun_mk (st := s_NoPath_init) l_NoPath_init c_NoPath_init k_NoPath_init
  have b_NoPath_init := F_NoPath_init.binds (ps := ["self", "path"]) (fun _ _ _ _ _ _ us hl => match us, hl with | [_, _], _ => rfl)
  have D_l_deck := def_mk (ps := ["_law_script"]) (st := s_l_deck) X G a_l_deck l_l_deck c_l_deck k_l_deck (fun _ _ _ _ _ _ us hl => match us, hl with | [_], _ => rfl) (fun _ _ _ _ _ _ _ ws hl => match ws, hl with | [_], _ => rfl)
  have D_l_draw := def_mk (ps := ["_law_deck_here", "_law_sides"]) (st := s_l_draw) X G a_l_draw l_l_draw c_l_draw k_l_draw (fun _ _ _ _ _ _ us hl => match us, hl with | [_, _], _ => rfl) (fun _ _ _ _ _ _ _ ws hl => match ws, hl with | [_, _], _ => rfl)
  have D_l_pick := def_mk (ps := ["_law_deck_here", "_law_some"]) (st := s_l_pick) X G a_l_pick l_l_pick c_l_pick k_l_pick (fun _ _ _ _ _ _ us hl => match us, hl with | [_, _], _ => rfl) (fun _ _ _ _ _ _ _ ws hl => match ws, hl with | [_, _], _ => rfl)
  have D_l_families := def_mk (ps := ["_law_e"]) (st := s_l_families) X G a_l_families l_l_families c_l_families k_l_families (fun _ _ _ _ _ _ us hl => match us, hl with | [_], _ => rfl) (fun _ _ _ _ _ _ _ ws hl => match ws, hl with | [_], _ => rfl)
  have D_l_all := def_mk (ps := ["_law_deck_here"]) (st := s_l_all) X G a_l_all l_l_all c_l_all k_l_all (fun _ _ _ _ _ _ us hl => match us, hl with | [_], _ => rfl) (fun _ _ _ _ _ _ _ ws hl => match ws, hl with | [_], _ => rfl)
  have D_law := def_mk (ps := ["_law_script"]) (st := s_law) X G a_law l_law c_law k_law (fun _ _ _ _ _ _ us hl => match us, hl with | [_], _ => rfl) (fun _ _ _ _ _ _ _ ws hl => match ws, hl with | [_], _ => rfl)
  have M : Bi mg := ⟨PySem.W.mg_none_of X G z_isinstance, PySem.W.mg_none_of X G z_len, PySem.W.mg_none_of X G z_list, PySem.W.mg_none_of X G z_range, PySem.W.mg_none_of X G z_repr, PySem.W.mg_none_of X G z_enumerate, PySem.W.mg_none_of X G z_ValueError, PySem.W.mg_none_of X G z_KeyError, PySem.W.mg_none_of X G z_IndexError, PySem.W.mg_none_of X G z_TypeError⟩
  have x_Fault : ExK K K_Fault := ⟨⟨_, _, _, _, _, _, PySem.F.excBase_Exception, PySem.F.store_Exception, ⟨by decide +kernel, by decide +kernel, by decide +kernel⟩, in_Fault, ov_Fault⟩, sa_Fault, kc_Fault, ⟨ga_Fault, gg_Fault, ex_Fault, hd_Fault⟩⟩
  have y_Fault : ∀ base, ExMk l.prog w K mg base 1 "Fault" K_Fault ["stage", "module", "place"] ["place", "stage", "module"] (fun l => pm3 l) := fun base => ⟨x_Fault, PySem.W.mg_of X G a_Fault, ⟨f_Fault_init, _, a_Fault_init, beq_iff_eq.mp i_Fault_init, ok_i_Fault F_Fault_init x_Fault ta_Fault_stage ta_Fault_module ta_Fault_place,
      ⟨fun s us ws _ h1 h2 => match us, ws, h1, h2 with | [_, _, _, _], [], _, _ => .of_eq rfl, fun r _ => r⟩,
      ⟨fun s us ws _ h1 h2 => match us, ws, h1, h2 with | [_], [_, _, _], _, _ => .of_eq rfl, fun r rz => r.append (pm3_rel rz)⟩⟩,
    fun zs hz => match zs, hz with | [_, _, _], _ => rfl, by decide⟩
  have x_Nested : ExK K K_Nested := ⟨⟨_, _, _, _, _, _, PySem.F.excBase_Exception, PySem.F.store_Exception, ⟨by decide +kernel, by decide +kernel, by decide +kernel⟩, in_Nested, ov_Nested⟩, sa_Nested, kc_Nested, ⟨ga_Nested, gg_Nested, ex_Nested, hd_Nested⟩⟩
  have y_Nested : ∀ base, ExMk l.prog w K mg base 1 "Nested" K_Nested ["ring"] ["ring"] (fun l => pm1 l) := fun base => ⟨x_Nested, PySem.W.mg_of X G a_Nested, ⟨f_Nested_init, _, a_Nested_init, beq_iff_eq.mp i_Nested_init, ok_i_Nested F_Nested_init x_Nested ta_Nested_ring,
      ⟨fun s us ws _ h1 h2 => match us, ws, h1, h2 with | [_, _], [], _, _ => .of_eq rfl, fun r _ => r⟩,
      ⟨fun s us ws _ h1 h2 => match us, ws, h1, h2 with | [_], [_], _, _ => .of_eq rfl, fun r rz => r.append (pm1_rel rz)⟩⟩,
    fun zs hz => match zs, hz with | [_], _ => rfl, by decide⟩
  have x_Ring : ExK K K_Ring := ⟨⟨_, _, _, _, _, _, PySem.F.excBase_Exception, PySem.F.store_Exception, ⟨by decide +kernel, by decide +kernel, by decide +kernel⟩, in_Ring, ov_Ring⟩, sa_Ring, kc_Ring, ⟨ga_Ring, gg_Ring, ex_Ring, hd_Ring⟩⟩
  have y_Ring : ∀ base, ExMk l.prog w K mg base 1 "Ring" K_Ring ["ring"] ["ring"] (fun l => pm1 l) := fun base => ⟨x_Ring, PySem.W.mg_of X G a_Ring, ⟨f_Ring_init, _, a_Ring_init, beq_iff_eq.mp i_Ring_init, ok_i_Ring F_Ring_init x_Ring ta_Ring_ring,
      ⟨fun s us ws _ h1 h2 => match us, ws, h1, h2 with | [_, _], [], _, _ => .of_eq rfl, fun r _ => r⟩,
      ⟨fun s us ws _ h1 h2 => match us, ws, h1, h2 with | [_], [_], _, _ => .of_eq rfl, fun r rz => r.append (pm1_rel rz)⟩⟩,
    fun zs hz => match zs, hz with | [_], _ => rfl, by decide⟩
  have x_NoRoom : ExK K K_NoRoom := ⟨⟨_, _, _, _, _, _, PySem.F.excBase_Exception, PySem.F.store_Exception, ⟨by decide +kernel, by decide +kernel, by decide +kernel⟩, in_NoRoom, ov_NoRoom⟩, sa_NoRoom, kc_NoRoom, ⟨ga_NoRoom, gg_NoRoom, ex_NoRoom, hd_NoRoom⟩⟩
  have y_NoRoom : ∀ base, ExMk l.prog w K mg base 1 "NoRoom" K_NoRoom ["many"] ["many"] (fun l => pm1 l) := fun base => ⟨x_NoRoom, PySem.W.mg_of X G a_NoRoom, ⟨f_NoRoom_init, _, a_NoRoom_init, beq_iff_eq.mp i_NoRoom_init, ok_i_NoRoom F_NoRoom_init x_NoRoom ta_NoRoom_many,
      ⟨fun s us ws _ h1 h2 => match us, ws, h1, h2 with | [_, _], [], _, _ => .of_eq rfl, fun r _ => r⟩,
      ⟨fun s us ws _ h1 h2 => match us, ws, h1, h2 with | [_], [_], _, _ => .of_eq rfl, fun r rz => r.append (pm1_rel rz)⟩⟩,
    fun zs hz => match zs, hz with | [_], _ => rfl, by decide⟩
  have x_TooMany : ExK K K_TooMany := ⟨⟨_, _, _, _, _, _, PySem.F.excBase_Exception, PySem.F.store_Exception, ⟨by decide +kernel, by decide +kernel, by decide +kernel⟩, in_TooMany, ov_TooMany⟩, sa_TooMany, kc_TooMany, ⟨ga_TooMany, gg_TooMany, ex_TooMany, hd_TooMany⟩⟩
  have y_TooMany : ∀ base, ExMk l.prog w K mg base 1 "TooMany" K_TooMany ["most"] ["most"] (fun l => pm1 l) := fun base => ⟨x_TooMany, PySem.W.mg_of X G a_TooMany, ⟨f_TooMany_init, _, a_TooMany_init, beq_iff_eq.mp i_TooMany_init, ok_i_TooMany F_TooMany_init x_TooMany ta_TooMany_most,
      ⟨fun s us ws _ h1 h2 => match us, ws, h1, h2 with | [_, _], [], _, _ => .of_eq rfl, fun r _ => r⟩,
      ⟨fun s us ws _ h1 h2 => match us, ws, h1, h2 with | [_], [_], _, _ => .of_eq rfl, fun r rz => r.append (pm1_rel rz)⟩⟩,
    fun zs hz => match zs, hz with | [_], _ => rfl, by decide⟩
  have x_NoText : ExK K K_NoText := ⟨⟨_, _, _, _, _, _, PySem.F.excBase_ValueError, PySem.F.store_ValueError, ⟨by decide +kernel, by decide +kernel, by decide +kernel⟩, in_NoText, ov_NoText⟩, sa_NoText, kc_NoText, ⟨ga_NoText, gg_NoText, ex_NoText, hd_NoText⟩⟩
  have y_NoText : ∀ base, ExMk l.prog w K mg base 1 "NoText" K_NoText ["place"] ["place"] (fun l => pm1 l) := fun base => ⟨x_NoText, PySem.W.mg_of X G a_NoText, ⟨f_NoText_init, _, a_NoText_init, beq_iff_eq.mp i_NoText_init, ok_i_NoText F_NoText_init x_NoText ta_NoText_place,
      ⟨fun s us ws _ h1 h2 => match us, ws, h1, h2 with | [_, _], [], _, _ => .of_eq rfl, fun r _ => r⟩,
      ⟨fun s us ws _ h1 h2 => match us, ws, h1, h2 with | [_], [_], _, _ => .of_eq rfl, fun r rz => r.append (pm1_rel rz)⟩⟩,
    fun zs hz => match zs, hz with | [_], _ => rfl, by decide⟩
  have x_NoName : ExK K K_NoName := ⟨⟨_, _, _, _, _, _, PySem.F.excBase_LookupError, PySem.F.store_KeyError, ⟨by decide +kernel, by decide +kernel, by decide +kernel⟩, in_NoName, ov_NoName⟩, sa_NoName, kc_NoName, ⟨ga_NoName, gg_NoName, ex_NoName, hd_NoName⟩⟩
  have y_NoName : ∀ base, ExMk l.prog w K mg base 1 "NoName" K_NoName ["name"] ["name"] (fun l => pm1 l) := fun base => ⟨x_NoName, PySem.W.mg_of X G a_NoName, ⟨f_NoName_init, _, a_NoName_init, beq_iff_eq.mp i_NoName_init, ok_i_NoName F_NoName_init x_NoName ta_NoName_name,
      ⟨fun s us ws _ h1 h2 => match us, ws, h1, h2 with | [_, _], [], _, _ => .of_eq rfl, fun r _ => r⟩,
      ⟨fun s us ws _ h1 h2 => match us, ws, h1, h2 with | [_], [_], _, _ => .of_eq rfl, fun r rz => r.append (pm1_rel rz)⟩⟩,
    fun zs hz => match zs, hz with | [_], _ => rfl, by decide⟩
  have x_NoPath : ExK K K_NoPath := ⟨⟨_, _, _, _, _, _, PySem.F.excBase_LookupError, PySem.F.store_KeyError, ⟨by decide +kernel, by decide +kernel, by decide +kernel⟩, in_NoPath, ov_NoPath⟩, sa_NoPath, kc_NoPath, ⟨ga_NoPath, gg_NoPath, ex_NoPath, hd_NoPath⟩⟩
  have y_NoPath : ∀ base, ExMk l.prog w K mg base 1 "NoPath" K_NoPath ["path"] ["path"] (fun l => pm1 l) := fun base => ⟨x_NoPath, PySem.W.mg_of X G a_NoPath, ⟨f_NoPath_init, _, a_NoPath_init, beq_iff_eq.mp i_NoPath_init, ok_i_NoPath F_NoPath_init x_NoPath ta_NoPath_path,
      ⟨fun s us ws _ h1 h2 => match us, ws, h1, h2 with | [_, _], [], _, _ => .of_eq rfl, fun r _ => r⟩,
      ⟨fun s us ws _ h1 h2 => match us, ws, h1, h2 with | [_], [_], _, _ => .of_eq rfl, fun r rz => r.append (pm1_rel rz)⟩⟩,
    fun zs hz => match zs, hz with | [_], _ => rfl, by decide⟩
  have T : Opt K mg cT cB cD := ⟨⟨_, PySem.W.mg_of X G t_T, _, rfl⟩, ⟨_, PySem.W.mg_of X G t_1, rfl⟩, ⟨_, PySem.W.mg_of X G t_2, rfl⟩, ⟨_, PySem.W.mg_of X G t_3, rfl⟩, ⟨_, PySem.W.mg_of X G t_M, _, rfl⟩,
    fun H => .inr ⟨_, i1, n1, t_1a, rfl, rfl, vals_few t_1b (by decide), t_1b⟩, fun H => .inr ⟨_, i2, n2, t_2a, rfl, rfl, vals_few t_2b (by decide), t_2b⟩, fun H => .inr ⟨_, i3, n3, t_3a, rfl, rfl, vals_few t_3b (by decide), t_3b⟩⟩
  have z_Fault : Fam K 0 K_Fault [K_Fault, K_Nested, K_Ring, K_NoRoom, K_NoPaper, K_Unlike, K_TooMany, K_NoText, K_NoName, K_NoPath] K_WireError := ⟨⟨⟨ga_Fault, gg_Fault, ex_Fault, hd_Fault⟩, ca_Fault, x_cn, x_ct, cm_Fault⟩, (fun j c h => by
    match j, h with
    | 0, h => cases h; exact ow_Fault_Fault
    | 1, h => cases h; exact ow_Fault_Nested
    | 2, h => cases h; exact ow_Fault_Ring
    | 3, h => cases h; exact ow_Fault_NoRoom
    | 4, h => cases h; exact ow_Fault_NoPaper
    | 5, h => cases h; exact ow_Fault_Unlike
    | 6, h => cases h; exact ow_Fault_TooMany
    | 7, h => cases h; exact ow_Fault_NoText
    | 8, h => cases h; exact ow_Fault_NoName
    | 9, h => cases h; exact ow_Fault_NoPath
    | n + 10, h => cases h), wi_Fault, va_Fault, ke_Fault, ot_Fault⟩
  have z_Nested : Fam K 1 K_Nested [K_Fault, K_Nested, K_Ring, K_NoRoom, K_NoPaper, K_Unlike, K_TooMany, K_NoText, K_NoName, K_NoPath] K_WireError := ⟨⟨⟨ga_Nested, gg_Nested, ex_Nested, hd_Nested⟩, ca_Nested, x_cn, x_ct, cm_Nested⟩, (fun j c h => by
    match j, h with
    | 0, h => cases h; exact ow_Nested_Fault
    | 1, h => cases h; exact ow_Nested_Nested
    | 2, h => cases h; exact ow_Nested_Ring
    | 3, h => cases h; exact ow_Nested_NoRoom
    | 4, h => cases h; exact ow_Nested_NoPaper
    | 5, h => cases h; exact ow_Nested_Unlike
    | 6, h => cases h; exact ow_Nested_TooMany
    | 7, h => cases h; exact ow_Nested_NoText
    | 8, h => cases h; exact ow_Nested_NoName
    | 9, h => cases h; exact ow_Nested_NoPath
    | n + 10, h => cases h), wi_Nested, va_Nested, ke_Nested, ot_Nested⟩
  have z_Ring : Fam K 2 K_Ring [K_Fault, K_Nested, K_Ring, K_NoRoom, K_NoPaper, K_Unlike, K_TooMany, K_NoText, K_NoName, K_NoPath] K_WireError := ⟨⟨⟨ga_Ring, gg_Ring, ex_Ring, hd_Ring⟩, ca_Ring, x_cn, x_ct, cm_Ring⟩, (fun j c h => by
    match j, h with
    | 0, h => cases h; exact ow_Ring_Fault
    | 1, h => cases h; exact ow_Ring_Nested
    | 2, h => cases h; exact ow_Ring_Ring
    | 3, h => cases h; exact ow_Ring_NoRoom
    | 4, h => cases h; exact ow_Ring_NoPaper
    | 5, h => cases h; exact ow_Ring_Unlike
    | 6, h => cases h; exact ow_Ring_TooMany
    | 7, h => cases h; exact ow_Ring_NoText
    | 8, h => cases h; exact ow_Ring_NoName
    | 9, h => cases h; exact ow_Ring_NoPath
    | n + 10, h => cases h), wi_Ring, va_Ring, ke_Ring, ot_Ring⟩
  have z_NoRoom : Fam K 3 K_NoRoom [K_Fault, K_Nested, K_Ring, K_NoRoom, K_NoPaper, K_Unlike, K_TooMany, K_NoText, K_NoName, K_NoPath] K_WireError := ⟨⟨⟨ga_NoRoom, gg_NoRoom, ex_NoRoom, hd_NoRoom⟩, ca_NoRoom, x_cn, x_ct, cm_NoRoom⟩, (fun j c h => by
    match j, h with
    | 0, h => cases h; exact ow_NoRoom_Fault
    | 1, h => cases h; exact ow_NoRoom_Nested
    | 2, h => cases h; exact ow_NoRoom_Ring
    | 3, h => cases h; exact ow_NoRoom_NoRoom
    | 4, h => cases h; exact ow_NoRoom_NoPaper
    | 5, h => cases h; exact ow_NoRoom_Unlike
    | 6, h => cases h; exact ow_NoRoom_TooMany
    | 7, h => cases h; exact ow_NoRoom_NoText
    | 8, h => cases h; exact ow_NoRoom_NoName
    | 9, h => cases h; exact ow_NoRoom_NoPath
    | n + 10, h => cases h), wi_NoRoom, va_NoRoom, ke_NoRoom, ot_NoRoom⟩
  have z_NoPaper : Fam K 4 K_NoPaper [K_Fault, K_Nested, K_Ring, K_NoRoom, K_NoPaper, K_Unlike, K_TooMany, K_NoText, K_NoName, K_NoPath] K_WireError := ⟨⟨⟨ga_NoPaper, gg_NoPaper, ex_NoPaper, hd_NoPaper⟩, ca_NoPaper, x_cn, x_ct, cm_NoPaper⟩, (fun j c h => by
    match j, h with
    | 0, h => cases h; exact ow_NoPaper_Fault
    | 1, h => cases h; exact ow_NoPaper_Nested
    | 2, h => cases h; exact ow_NoPaper_Ring
    | 3, h => cases h; exact ow_NoPaper_NoRoom
    | 4, h => cases h; exact ow_NoPaper_NoPaper
    | 5, h => cases h; exact ow_NoPaper_Unlike
    | 6, h => cases h; exact ow_NoPaper_TooMany
    | 7, h => cases h; exact ow_NoPaper_NoText
    | 8, h => cases h; exact ow_NoPaper_NoName
    | 9, h => cases h; exact ow_NoPaper_NoPath
    | n + 10, h => cases h), wi_NoPaper, va_NoPaper, ke_NoPaper, ot_NoPaper⟩
  have z_Unlike : Fam K 5 K_Unlike [K_Fault, K_Nested, K_Ring, K_NoRoom, K_NoPaper, K_Unlike, K_TooMany, K_NoText, K_NoName, K_NoPath] K_WireError := ⟨⟨⟨ga_Unlike, gg_Unlike, ex_Unlike, hd_Unlike⟩, ca_Unlike, x_cn, x_ct, cm_Unlike⟩, (fun j c h => by
    match j, h with
    | 0, h => cases h; exact ow_Unlike_Fault
    | 1, h => cases h; exact ow_Unlike_Nested
    | 2, h => cases h; exact ow_Unlike_Ring
    | 3, h => cases h; exact ow_Unlike_NoRoom
    | 4, h => cases h; exact ow_Unlike_NoPaper
    | 5, h => cases h; exact ow_Unlike_Unlike
    | 6, h => cases h; exact ow_Unlike_TooMany
    | 7, h => cases h; exact ow_Unlike_NoText
    | 8, h => cases h; exact ow_Unlike_NoName
    | 9, h => cases h; exact ow_Unlike_NoPath
    | n + 10, h => cases h), wi_Unlike, va_Unlike, ke_Unlike, ot_Unlike⟩
  have z_TooMany : Fam K 6 K_TooMany [K_Fault, K_Nested, K_Ring, K_NoRoom, K_NoPaper, K_Unlike, K_TooMany, K_NoText, K_NoName, K_NoPath] K_WireError := ⟨⟨⟨ga_TooMany, gg_TooMany, ex_TooMany, hd_TooMany⟩, ca_TooMany, x_cn, x_ct, cm_TooMany⟩, (fun j c h => by
    match j, h with
    | 0, h => cases h; exact ow_TooMany_Fault
    | 1, h => cases h; exact ow_TooMany_Nested
    | 2, h => cases h; exact ow_TooMany_Ring
    | 3, h => cases h; exact ow_TooMany_NoRoom
    | 4, h => cases h; exact ow_TooMany_NoPaper
    | 5, h => cases h; exact ow_TooMany_Unlike
    | 6, h => cases h; exact ow_TooMany_TooMany
    | 7, h => cases h; exact ow_TooMany_NoText
    | 8, h => cases h; exact ow_TooMany_NoName
    | 9, h => cases h; exact ow_TooMany_NoPath
    | n + 10, h => cases h), wi_TooMany, va_TooMany, ke_TooMany, ot_TooMany⟩
  have z_NoText : Fam K 7 K_NoText [K_Fault, K_Nested, K_Ring, K_NoRoom, K_NoPaper, K_Unlike, K_TooMany, K_NoText, K_NoName, K_NoPath] K_WireError := ⟨⟨⟨ga_NoText, gg_NoText, ex_NoText, hd_NoText⟩, ca_NoText, x_cn, x_ct, cm_NoText⟩, (fun j c h => by
    match j, h with
    | 0, h => cases h; exact ow_NoText_Fault
    | 1, h => cases h; exact ow_NoText_Nested
    | 2, h => cases h; exact ow_NoText_Ring
    | 3, h => cases h; exact ow_NoText_NoRoom
    | 4, h => cases h; exact ow_NoText_NoPaper
    | 5, h => cases h; exact ow_NoText_Unlike
    | 6, h => cases h; exact ow_NoText_TooMany
    | 7, h => cases h; exact ow_NoText_NoText
    | 8, h => cases h; exact ow_NoText_NoName
    | 9, h => cases h; exact ow_NoText_NoPath
    | n + 10, h => cases h), wi_NoText, va_NoText, ke_NoText, ot_NoText⟩
  have z_NoName : Fam K 8 K_NoName [K_Fault, K_Nested, K_Ring, K_NoRoom, K_NoPaper, K_Unlike, K_TooMany, K_NoText, K_NoName, K_NoPath] K_WireError := ⟨⟨⟨ga_NoName, gg_NoName, ex_NoName, hd_NoName⟩, ca_NoName, x_cn, x_ct, cm_NoName⟩, (fun j c h => by
    match j, h with
    | 0, h => cases h; exact ow_NoName_Fault
    | 1, h => cases h; exact ow_NoName_Nested
    | 2, h => cases h; exact ow_NoName_Ring
    | 3, h => cases h; exact ow_NoName_NoRoom
    | 4, h => cases h; exact ow_NoName_NoPaper
    | 5, h => cases h; exact ow_NoName_Unlike
    | 6, h => cases h; exact ow_NoName_TooMany
    | 7, h => cases h; exact ow_NoName_NoText
    | 8, h => cases h; exact ow_NoName_NoName
    | 9, h => cases h; exact ow_NoName_NoPath
    | n + 10, h => cases h), wi_NoName, va_NoName, ke_NoName, ot_NoName⟩
  have z_NoPath : Fam K 9 K_NoPath [K_Fault, K_Nested, K_Ring, K_NoRoom, K_NoPaper, K_Unlike, K_TooMany, K_NoText, K_NoName, K_NoPath] K_WireError := ⟨⟨⟨ga_NoPath, gg_NoPath, ex_NoPath, hd_NoPath⟩, ca_NoPath, x_cn, x_ct, cm_NoPath⟩, (fun j c h => by
    match j, h with
    | 0, h => cases h; exact ow_NoPath_Fault
    | 1, h => cases h; exact ow_NoPath_Nested
    | 2, h => cases h; exact ow_NoPath_Ring
    | 3, h => cases h; exact ow_NoPath_NoRoom
    | 4, h => cases h; exact ow_NoPath_NoPaper
    | 5, h => cases h; exact ow_NoPath_Unlike
    | 6, h => cases h; exact ow_NoPath_TooMany
    | 7, h => cases h; exact ow_NoPath_NoText
    | 8, h => cases h; exact ow_NoPath_NoName
    | 9, h => cases h; exact ow_NoPath_NoPath
    | n + 10, h => cases h), wi_NoPath, va_NoPath, ke_NoPath, ot_NoPath⟩
  refine ⟨PySem.W.fnOf "law" "law" (defArgs s_law) (defBody s_law) (defScope s_law) .none kV_law dc_law pm_law an_law cd_law ct_law, fun s v => .of_eq rfl, fun base _ _ => ?_⟩
  · have Z : XX l.prog w K mg base K_Fault K_Nested K_Ring K_NoRoom K_NoPaper K_Unlike K_TooMany K_NoText K_NoName K_NoPath K_WireError := ⟨y_Fault base, fi_Fault_stage, fi_Fault_module, fi_Fault_place, y_Nested base, fi_Nested_ring, y_Ring base, fi_Ring_ring, y_NoRoom base, fi_NoRoom_many, ⟨xi_NoPaper, PySem.W.mg_of X G a_NoPaper, kc_NoPaper⟩, ⟨xi_Unlike, PySem.W.mg_of X G a_Unlike, kc_Unlike⟩, y_TooMany base, fi_TooMany_most, y_NoText base, fi_NoText_place, y_NoName base, fi_NoName_name, y_NoPath base, fi_NoPath_path, PySem.W.mg_of X G a_Fault, PySem.W.mg_of X G a_Nested, PySem.W.mg_of X G a_Ring, PySem.W.mg_of X G a_NoRoom, PySem.W.mg_of X G a_NoPaper, PySem.W.mg_of X G a_Unlike, PySem.W.mg_of X G a_TooMany, PySem.W.mg_of X G a_NoText, PySem.W.mg_of X G a_NoName, PySem.W.mg_of X G a_NoPath, PySem.W.mg_of X G a_WireError, z_Fault, z_Nested, z_Ring, z_NoRoom, z_NoPaper, z_Unlike, z_TooMany, z_NoText, z_NoName, z_NoPath⟩
    have C_l_draw := ok_draw (P := l.prog) (w := w) (base := base) D_l_draw
    have C_l_deck := ok_deck (P := l.prog) (w := w) (base := base) D_l_deck M
    have C_l_pick := ok_pick D_l_pick M C_l_draw
    have C_l_families := ok_fam D_l_families M Z
    have C_l_all := ok_all D_l_all M Z C_l_pick
    exact ok_law D_law M Z T C_l_deck C_l_all C_l_families
end K02
open PySem PySem.W PyProof.Rows
set_option maxRecDepth 100000 in
set_option maxHeartbeats 0 in
theorem PySem.Challenge.cw_wiretongue_k02_refusals_and_options_holds : PySem.Challenge.rw_wiretongue_k02_refusals_and_options.Holds := by
  w_on; o_law; k_head; (case hw => w_witness2)
  k_fill
  refine Kit.walk_ofG (l := PySem.Challenge.rw_wiretongue_k02_refusals_and_options) (n := 63) (k := 4) (x := "_law_script") (CX := fun _ => L2.CX0) (sp := fun w => K02.spLaw _) rfl (by decide) rfl ⟨rfl, by decide, by decide⟩ (fun w h Y => PySem.W.kIn_of Y) ?F (fun _ _ a ns hl hb _ hS => ⟨a, ns, rfl, hS, hl, hb, fun _ => rfl⟩) (fun _ _ _ _ _ h => h)
  case F =>
    intro w mg fa h KX G hmg
    refine' K02.all_mk KX G hmg ?x_cn ?x_ct ?a_WireError ?a_Fault ?a_Nested ?a_Ring ?a_NoRoom ?a_NoPaper ?a_Unlike ?a_TooMany ?a_NoText ?a_NoName ?a_NoPath ?kc_Fault ?ga_Fault ?gg_Fault ?ex_Fault ?hd_Fault ?ca_Fault ?cm_Fault ?ot_Fault ?wi_Fault ?va_Fault ?ke_Fault ?ow_Fault_Fault ?ow_Fault_Nested ?ow_Fault_Ring ?ow_Fault_NoRoom ?ow_Fault_NoPaper ?ow_Fault_Unlike ?ow_Fault_TooMany ?ow_Fault_NoText ?ow_Fault_NoName ?ow_Fault_NoPath ?sa_Fault ?in_Fault ?ov_Fault ?ta_Fault_stage ?fi_Fault_stage ?ta_Fault_module ?fi_Fault_module ?ta_Fault_place ?fi_Fault_place ?kc_Nested ?ga_Nested ?gg_Nested ?ex_Nested ?hd_Nested ?ca_Nested ?cm_Nested ?ot_Nested ?wi_Nested ?va_Nested ?ke_Nested ?ow_Nested_Fault ?ow_Nested_Nested ?ow_Nested_Ring ?ow_Nested_NoRoom ?ow_Nested_NoPaper ?ow_Nested_Unlike ?ow_Nested_TooMany ?ow_Nested_NoText ?ow_Nested_NoName ?ow_Nested_NoPath ?sa_Nested ?in_Nested ?ov_Nested ?ta_Nested_ring ?fi_Nested_ring ?kc_Ring ?ga_Ring ?gg_Ring ?ex_Ring ?hd_Ring ?ca_Ring ?cm_Ring ?ot_Ring ?wi_Ring ?va_Ring ?ke_Ring ?ow_Ring_Fault ?ow_Ring_Nested ?ow_Ring_Ring ?ow_Ring_NoRoom ?ow_Ring_NoPaper ?ow_Ring_Unlike ?ow_Ring_TooMany ?ow_Ring_NoText ?ow_Ring_NoName ?ow_Ring_NoPath ?sa_Ring ?in_Ring ?ov_Ring ?ta_Ring_ring ?fi_Ring_ring ?kc_NoRoom ?ga_NoRoom ?gg_NoRoom ?ex_NoRoom ?hd_NoRoom ?ca_NoRoom ?cm_NoRoom ?ot_NoRoom ?wi_NoRoom ?va_NoRoom ?ke_NoRoom ?ow_NoRoom_Fault ?ow_NoRoom_Nested ?ow_NoRoom_Ring ?ow_NoRoom_NoRoom ?ow_NoRoom_NoPaper ?ow_NoRoom_Unlike ?ow_NoRoom_TooMany ?ow_NoRoom_NoText ?ow_NoRoom_NoName ?ow_NoRoom_NoPath ?sa_NoRoom ?in_NoRoom ?ov_NoRoom ?ta_NoRoom_many ?fi_NoRoom_many ?kc_NoPaper ?ga_NoPaper ?gg_NoPaper ?ex_NoPaper ?hd_NoPaper ?ca_NoPaper ?cm_NoPaper ?ot_NoPaper ?wi_NoPaper ?va_NoPaper ?ke_NoPaper ?ow_NoPaper_Fault ?ow_NoPaper_Nested ?ow_NoPaper_Ring ?ow_NoPaper_NoRoom ?ow_NoPaper_NoPaper ?ow_NoPaper_Unlike ?ow_NoPaper_TooMany ?ow_NoPaper_NoText ?ow_NoPaper_NoName ?ow_NoPaper_NoPath ?xi_NoPaper ?kc_Unlike ?ga_Unlike ?gg_Unlike ?ex_Unlike ?hd_Unlike ?ca_Unlike ?cm_Unlike ?ot_Unlike ?wi_Unlike ?va_Unlike ?ke_Unlike ?ow_Unlike_Fault ?ow_Unlike_Nested ?ow_Unlike_Ring ?ow_Unlike_NoRoom ?ow_Unlike_NoPaper ?ow_Unlike_Unlike ?ow_Unlike_TooMany ?ow_Unlike_NoText ?ow_Unlike_NoName ?ow_Unlike_NoPath ?xi_Unlike ?kc_TooMany ?ga_TooMany ?gg_TooMany ?ex_TooMany ?hd_TooMany ?ca_TooMany ?cm_TooMany ?ot_TooMany ?wi_TooMany ?va_TooMany ?ke_TooMany ?ow_TooMany_Fault ?ow_TooMany_Nested ?ow_TooMany_Ring ?ow_TooMany_NoRoom ?ow_TooMany_NoPaper ?ow_TooMany_Unlike ?ow_TooMany_TooMany ?ow_TooMany_NoText ?ow_TooMany_NoName ?ow_TooMany_NoPath ?sa_TooMany ?in_TooMany ?ov_TooMany ?ta_TooMany_most ?fi_TooMany_most ?kc_NoText ?ga_NoText ?gg_NoText ?ex_NoText ?hd_NoText ?ca_NoText ?cm_NoText ?ot_NoText ?wi_NoText ?va_NoText ?ke_NoText ?ow_NoText_Fault ?ow_NoText_Nested ?ow_NoText_Ring ?ow_NoText_NoRoom ?ow_NoText_NoPaper ?ow_NoText_Unlike ?ow_NoText_TooMany ?ow_NoText_NoText ?ow_NoText_NoName ?ow_NoText_NoPath ?sa_NoText ?in_NoText ?ov_NoText ?ta_NoText_place ?fi_NoText_place ?kc_NoName ?ga_NoName ?gg_NoName ?ex_NoName ?hd_NoName ?ca_NoName ?cm_NoName ?ot_NoName ?wi_NoName ?va_NoName ?ke_NoName ?ow_NoName_Fault ?ow_NoName_Nested ?ow_NoName_Ring ?ow_NoName_NoRoom ?ow_NoName_NoPaper ?ow_NoName_Unlike ?ow_NoName_TooMany ?ow_NoName_NoText ?ow_NoName_NoName ?ow_NoName_NoPath ?sa_NoName ?in_NoName ?ov_NoName ?ta_NoName_name ?fi_NoName_name ?kc_NoPath ?ga_NoPath ?gg_NoPath ?ex_NoPath ?hd_NoPath ?ca_NoPath ?cm_NoPath ?ot_NoPath ?wi_NoPath ?va_NoPath ?ke_NoPath ?ow_NoPath_Fault ?ow_NoPath_Nested ?ow_NoPath_Ring ?ow_NoPath_NoRoom ?ow_NoPath_NoPaper ?ow_NoPath_Unlike ?ow_NoPath_TooMany ?ow_NoPath_NoText ?ow_NoPath_NoName ?ow_NoPath_NoPath ?sa_NoPath ?in_NoPath ?ov_NoPath ?ta_NoPath_path ?fi_NoPath_path ?a_Fault_init ?i_Fault_init ?l_Fault_init ?c_Fault_init ?k_Fault_init ?a_Nested_init ?i_Nested_init ?l_Nested_init ?c_Nested_init ?k_Nested_init ?a_Ring_init ?i_Ring_init ?l_Ring_init ?c_Ring_init ?k_Ring_init ?a_NoRoom_init ?i_NoRoom_init ?l_NoRoom_init ?c_NoRoom_init ?k_NoRoom_init ?a_TooMany_init ?i_TooMany_init ?l_TooMany_init ?c_TooMany_init ?k_TooMany_init ?a_NoText_init ?i_NoText_init ?l_NoText_init ?c_NoText_init ?k_NoText_init ?a_NoName_init ?i_NoName_init ?l_NoName_init ?c_NoName_init ?k_NoName_init ?a_NoPath_init ?i_NoPath_init ?l_NoPath_init ?c_NoPath_init ?k_NoPath_init ?a_l_deck ?l_l_deck ?c_l_deck ?k_l_deck ?a_l_draw ?l_l_draw ?c_l_draw ?k_l_draw ?a_l_pick ?l_l_pick ?c_l_pick ?k_l_pick ?a_l_families ?l_l_families ?c_l_families ?k_l_families ?a_l_all ?l_l_all ?c_l_all ?k_l_all ?a_law ?l_law ?c_law ?k_law ?z_isinstance ?z_len ?z_list ?z_range ?z_repr ?z_enumerate ?z_ValueError ?z_KeyError ?z_IndexError ?z_TypeError ?t_T ?t_M ?t_1 ?t_1a ?t_1b ?t_2 ?t_2a ?t_2b ?t_3 ?t_3a ?t_3b
    (case x_cn => k_is)
    (case x_ct => k_is)
    (case a_WireError => k_is)
    (case a_Fault => k_is)
    (case a_Nested => k_is)
    (case a_Ring => k_is)
    (case a_NoRoom => k_is)
    (case a_NoPaper => k_is)
    (case a_Unlike => k_is)
    (case a_TooMany => k_is)
    (case a_NoText => k_is)
    (case a_NoName => k_is)
    (case a_NoPath => k_is)
    (case kc_Fault => k_is)
    (case ga_Fault => k_is)
    (case gg_Fault => k_is)
    (case ex_Fault => k_is)
    (case hd_Fault => k_is)
    (case ca_Fault => k_is)
    (case cm_Fault => k_is)
    (case ot_Fault => kit_is)
    (case wi_Fault => kit_is)
    (case va_Fault => kit_is)
    (case ke_Fault => kit_is)
    (case ow_Fault_Fault => kit_is)
    (case ow_Fault_Nested => kit_is)
    (case ow_Fault_Ring => kit_is)
    (case ow_Fault_NoRoom => kit_is)
    (case ow_Fault_NoPaper => kit_is)
    (case ow_Fault_Unlike => kit_is)
    (case ow_Fault_TooMany => kit_is)
    (case ow_Fault_NoText => kit_is)
    (case ow_Fault_NoName => kit_is)
    (case ow_Fault_NoPath => kit_is)
    (case sa_Fault => k_is)
    (case in_Fault => kx_is)
    (case ov_Fault => kx_is)
    (case ta_Fault_stage => k_is)
    (case fi_Fault_stage => k_is)
    (case ta_Fault_module => k_is)
    (case fi_Fault_module => k_is)
    (case ta_Fault_place => k_is)
    (case fi_Fault_place => k_is)
    (case kc_Nested => k_is)
    (case ga_Nested => k_is)
    (case gg_Nested => k_is)
    (case ex_Nested => k_is)
    (case hd_Nested => k_is)
    (case ca_Nested => k_is)
    (case cm_Nested => k_is)
    (case ot_Nested => kit_is)
    (case wi_Nested => kit_is)
    (case va_Nested => kit_is)
    (case ke_Nested => kit_is)
    (case ow_Nested_Fault => kit_is)
    (case ow_Nested_Nested => kit_is)
    (case ow_Nested_Ring => kit_is)
    (case ow_Nested_NoRoom => kit_is)
    (case ow_Nested_NoPaper => kit_is)
    (case ow_Nested_Unlike => kit_is)
    (case ow_Nested_TooMany => kit_is)
    (case ow_Nested_NoText => kit_is)
    (case ow_Nested_NoName => kit_is)
    (case ow_Nested_NoPath => kit_is)
    (case sa_Nested => k_is)
    (case in_Nested => kx_is)
    (case ov_Nested => kx_is)
    (case ta_Nested_ring => k_is)
    (case fi_Nested_ring => k_is)
    (case kc_Ring => k_is)
    (case ga_Ring => k_is)
    (case gg_Ring => k_is)
    (case ex_Ring => k_is)
    (case hd_Ring => k_is)
    (case ca_Ring => k_is)
    (case cm_Ring => k_is)
    (case ot_Ring => kit_is)
    (case wi_Ring => kit_is)
    (case va_Ring => kit_is)
    (case ke_Ring => kit_is)
    (case ow_Ring_Fault => kit_is)
    (case ow_Ring_Nested => kit_is)
    (case ow_Ring_Ring => kit_is)
    (case ow_Ring_NoRoom => kit_is)
    (case ow_Ring_NoPaper => kit_is)
    (case ow_Ring_Unlike => kit_is)
    (case ow_Ring_TooMany => kit_is)
    (case ow_Ring_NoText => kit_is)
    (case ow_Ring_NoName => kit_is)
    (case ow_Ring_NoPath => kit_is)
    (case sa_Ring => k_is)
    (case in_Ring => kx_is)
    (case ov_Ring => kx_is)
    (case ta_Ring_ring => k_is)
    (case fi_Ring_ring => k_is)
    (case kc_NoRoom => k_is)
    (case ga_NoRoom => k_is)
    (case gg_NoRoom => k_is)
    (case ex_NoRoom => k_is)
    (case hd_NoRoom => k_is)
    (case ca_NoRoom => k_is)
    (case cm_NoRoom => k_is)
    (case ot_NoRoom => kit_is)
    (case wi_NoRoom => kit_is)
    (case va_NoRoom => kit_is)
    (case ke_NoRoom => kit_is)
    (case ow_NoRoom_Fault => kit_is)
    (case ow_NoRoom_Nested => kit_is)
    (case ow_NoRoom_Ring => kit_is)
    (case ow_NoRoom_NoRoom => kit_is)
    (case ow_NoRoom_NoPaper => kit_is)
    (case ow_NoRoom_Unlike => kit_is)
    (case ow_NoRoom_TooMany => kit_is)
    (case ow_NoRoom_NoText => kit_is)
    (case ow_NoRoom_NoName => kit_is)
    (case ow_NoRoom_NoPath => kit_is)
    (case sa_NoRoom => k_is)
    (case in_NoRoom => kx_is)
    (case ov_NoRoom => kx_is)
    (case ta_NoRoom_many => k_is)
    (case fi_NoRoom_many => k_is)
    (case kc_NoPaper => k_is)
    (case ga_NoPaper => k_is)
    (case gg_NoPaper => k_is)
    (case ex_NoPaper => k_is)
    (case hd_NoPaper => k_is)
    (case ca_NoPaper => k_is)
    (case cm_NoPaper => k_is)
    (case ot_NoPaper => kit_is)
    (case wi_NoPaper => kit_is)
    (case va_NoPaper => kit_is)
    (case ke_NoPaper => kit_is)
    (case ow_NoPaper_Fault => kit_is)
    (case ow_NoPaper_Nested => kit_is)
    (case ow_NoPaper_Ring => kit_is)
    (case ow_NoPaper_NoRoom => kit_is)
    (case ow_NoPaper_NoPaper => kit_is)
    (case ow_NoPaper_Unlike => kit_is)
    (case ow_NoPaper_TooMany => kit_is)
    (case ow_NoPaper_NoText => kit_is)
    (case ow_NoPaper_NoName => kit_is)
    (case ow_NoPaper_NoPath => kit_is)
    (case xi_NoPaper => k_exc)
    (case kc_Unlike => k_is)
    (case ga_Unlike => k_is)
    (case gg_Unlike => k_is)
    (case ex_Unlike => k_is)
    (case hd_Unlike => k_is)
    (case ca_Unlike => k_is)
    (case cm_Unlike => k_is)
    (case ot_Unlike => kit_is)
    (case wi_Unlike => kit_is)
    (case va_Unlike => kit_is)
    (case ke_Unlike => kit_is)
    (case ow_Unlike_Fault => kit_is)
    (case ow_Unlike_Nested => kit_is)
    (case ow_Unlike_Ring => kit_is)
    (case ow_Unlike_NoRoom => kit_is)
    (case ow_Unlike_NoPaper => kit_is)
    (case ow_Unlike_Unlike => kit_is)
    (case ow_Unlike_TooMany => kit_is)
    (case ow_Unlike_NoText => kit_is)
    (case ow_Unlike_NoName => kit_is)
    (case ow_Unlike_NoPath => kit_is)
    (case xi_Unlike => k_exc)
    (case kc_TooMany => k_is)
    (case ga_TooMany => k_is)
    (case gg_TooMany => k_is)
    (case ex_TooMany => k_is)
    (case hd_TooMany => k_is)
    (case ca_TooMany => k_is)
    (case cm_TooMany => k_is)
    (case ot_TooMany => kit_is)
    (case wi_TooMany => kit_is)
    (case va_TooMany => kit_is)
    (case ke_TooMany => kit_is)
    (case ow_TooMany_Fault => kit_is)
    (case ow_TooMany_Nested => kit_is)
    (case ow_TooMany_Ring => kit_is)
    (case ow_TooMany_NoRoom => kit_is)
    (case ow_TooMany_NoPaper => kit_is)
    (case ow_TooMany_Unlike => kit_is)
    (case ow_TooMany_TooMany => kit_is)
    (case ow_TooMany_NoText => kit_is)
    (case ow_TooMany_NoName => kit_is)
    (case ow_TooMany_NoPath => kit_is)
    (case sa_TooMany => k_is)
    (case in_TooMany => kx_is)
    (case ov_TooMany => kx_is)
    (case ta_TooMany_most => k_is)
    (case fi_TooMany_most => k_is)
    (case kc_NoText => k_is)
    (case ga_NoText => k_is)
    (case gg_NoText => k_is)
    (case ex_NoText => k_is)
    (case hd_NoText => k_is)
    (case ca_NoText => k_is)
    (case cm_NoText => k_is)
    (case ot_NoText => kit_is)
    (case wi_NoText => kit_is)
    (case va_NoText => kit_is)
    (case ke_NoText => kit_is)
    (case ow_NoText_Fault => kit_is)
    (case ow_NoText_Nested => kit_is)
    (case ow_NoText_Ring => kit_is)
    (case ow_NoText_NoRoom => kit_is)
    (case ow_NoText_NoPaper => kit_is)
    (case ow_NoText_Unlike => kit_is)
    (case ow_NoText_TooMany => kit_is)
    (case ow_NoText_NoText => kit_is)
    (case ow_NoText_NoName => kit_is)
    (case ow_NoText_NoPath => kit_is)
    (case sa_NoText => k_is)
    (case in_NoText => kx_is)
    (case ov_NoText => kx_is)
    (case ta_NoText_place => k_is)
    (case fi_NoText_place => k_is)
    (case kc_NoName => k_is)
    (case ga_NoName => k_is)
    (case gg_NoName => k_is)
    (case ex_NoName => k_is)
    (case hd_NoName => k_is)
    (case ca_NoName => k_is)
    (case cm_NoName => k_is)
    (case ot_NoName => kit_is)
    (case wi_NoName => kit_is)
    (case va_NoName => kit_is)
    (case ke_NoName => kit_is)
    (case ow_NoName_Fault => kit_is)
    (case ow_NoName_Nested => kit_is)
    (case ow_NoName_Ring => kit_is)
    (case ow_NoName_NoRoom => kit_is)
    (case ow_NoName_NoPaper => kit_is)
    (case ow_NoName_Unlike => kit_is)
    (case ow_NoName_TooMany => kit_is)
    (case ow_NoName_NoText => kit_is)
    (case ow_NoName_NoName => kit_is)
    (case ow_NoName_NoPath => kit_is)
    (case sa_NoName => k_is)
    (case in_NoName => kx_is)
    (case ov_NoName => kx_is)
    (case ta_NoName_name => k_is)
    (case fi_NoName_name => k_is)
    (case kc_NoPath => k_is)
    (case ga_NoPath => k_is)
    (case gg_NoPath => k_is)
    (case ex_NoPath => k_is)
    (case hd_NoPath => k_is)
    (case ca_NoPath => k_is)
    (case cm_NoPath => k_is)
    (case ot_NoPath => kit_is)
    (case wi_NoPath => kit_is)
    (case va_NoPath => kit_is)
    (case ke_NoPath => kit_is)
    (case ow_NoPath_Fault => kit_is)
    (case ow_NoPath_Nested => kit_is)
    (case ow_NoPath_Ring => kit_is)
    (case ow_NoPath_NoRoom => kit_is)
    (case ow_NoPath_NoPaper => kit_is)
    (case ow_NoPath_Unlike => kit_is)
    (case ow_NoPath_TooMany => kit_is)
    (case ow_NoPath_NoText => kit_is)
    (case ow_NoPath_NoName => kit_is)
    (case ow_NoPath_NoPath => kit_is)
    (case sa_NoPath => k_is)
    (case in_NoPath => kx_is)
    (case ov_NoPath => kx_is)
    (case ta_NoPath_path => k_is)
    (case fi_NoPath_path => k_is)
    (case a_Fault_init => k_is)
    (case i_Fault_init => k_is)
    (case l_Fault_init => k_is)
    (case c_Fault_init => k_is)
    (case k_Fault_init => k_is)
    (case a_Nested_init => k_is)
    (case i_Nested_init => k_is)
    (case l_Nested_init => k_is)
    (case c_Nested_init => k_is)
    (case k_Nested_init => k_is)
    (case a_Ring_init => k_is)
    (case i_Ring_init => k_is)
    (case l_Ring_init => k_is)
    (case c_Ring_init => k_is)
    (case k_Ring_init => k_is)
    (case a_NoRoom_init => k_is)
    (case i_NoRoom_init => k_is)
    (case l_NoRoom_init => k_is)
    (case c_NoRoom_init => k_is)
    (case k_NoRoom_init => k_is)
    (case a_TooMany_init => k_is)
    (case i_TooMany_init => k_is)
    (case l_TooMany_init => k_is)
    (case c_TooMany_init => k_is)
    (case k_TooMany_init => k_is)
    (case a_NoText_init => k_is)
    (case i_NoText_init => k_is)
    (case l_NoText_init => k_is)
    (case c_NoText_init => k_is)
    (case k_NoText_init => k_is)
    (case a_NoName_init => k_is)
    (case i_NoName_init => k_is)
    (case l_NoName_init => k_is)
    (case c_NoName_init => k_is)
    (case k_NoName_init => k_is)
    (case a_NoPath_init => k_is)
    (case i_NoPath_init => k_is)
    (case l_NoPath_init => k_is)
    (case c_NoPath_init => k_is)
    (case k_NoPath_init => k_is)
    (case a_l_deck => k_is)
    (case l_l_deck => k_is)
    (case c_l_deck => k_is)
    (case k_l_deck => k_is)
    (case a_l_draw => k_is)
    (case l_l_draw => k_is)
    (case c_l_draw => k_is)
    (case k_l_draw => k_is)
    (case a_l_pick => k_is)
    (case l_l_pick => k_is)
    (case c_l_pick => k_is)
    (case k_l_pick => k_is)
    (case a_l_families => k_is)
    (case l_l_families => k_is)
    (case c_l_families => k_is)
    (case k_l_families => k_is)
    (case a_l_all => k_is)
    (case l_l_all => k_is)
    (case c_l_all => k_is)
    (case k_l_all => k_is)
    (case a_law => k_is)
    (case l_law => k_is)
    (case c_law => k_is)
    (case k_law => k_is)
    (case z_isinstance => k_is)
    (case z_len => k_is)
    (case z_list => k_is)
    (case z_range => k_is)
    (case z_repr => k_is)
    (case z_enumerate => k_is)
    (case z_ValueError => k_is)
    (case z_KeyError => k_is)
    (case z_IndexError => k_is)
    (case z_TypeError => k_is)
    (case t_T => k_is)
    (case t_M => k_is)
    (case t_1 => k_is)
    (case t_1a => k_is)
    (case t_1b => (repeat (first | exact Paired.nil | refine Paired.cons ⟨_, rfl⟩ ?_)))
    (case t_2 => k_is)
    (case t_2a => k_is)
    (case t_2b => (repeat (first | exact Paired.nil | refine Paired.cons ⟨_, rfl⟩ ?_)))
    (case t_3 => k_is)
    (case t_3a => k_is)
    (case t_3b => (repeat (first | exact Paired.nil | refine Paired.cons ⟨_, rfl⟩ ?_)))

