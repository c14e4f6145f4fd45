import PyProof.Rows.All
import Wide.All
import OpenK.AllK
import Wide.FinOn
import HandS.ForMost
import HandS.Style
import HandS.IsInst
import HandS.EndBits
import HandS.MakeKwOnly
import KE.IntBitsLaws
import HandS.List
import HandS.Text
import HandS.TupMul
import KE.KRevSl
import HandS.Codes
import HandS.NoneIn
import HandS.Wide
import PyProof.ReprLen
import HandS.Walk
import PySem.Challenge.RW_wiretongue_k67_things_there_and_back
set_option Elab.async false
set_option linter.all false
set_option maxRecDepth 100000
set_option maxHeartbeats 4000000
/-! promises of defs that may show things: what runs around holds nothing that is being shown -/
namespace Kit
open PySem PySem.Spec PyProof.Rows L2

/-- nothing is being shown -/
abbrev Qt (A : Around) : Prop := A.guards = some []
theorem Qt.deeper {A : Around} (h : Qt A) (env : Env) : Qt (A.deeper env) := h

structure FnG (P : Program) (w : World) (K : PySem.W.Frag) (mg : Str → Option Value)
    (base : Heap) (CX : CXT) (k : Nat) (f : Addr) (fd : FuncData) (ps : List Str) (sp : Sp) : Prop where
  len : ∀ vs H Q E, sp vs H Q E → vs.length = ps.length
  run : ∀ (A : Around) (outer : List Env) (s : Shared) (H : Hp) (args : Args) (us : List Value)
    (vs : List V) (Q : VK) (E : XK), Qt A → Room k A → Env0 P w K mg base A outer s H →
    BindsTo s fd args (ps.zip us) → Vals vs us → sp vs H Q E →
    codeAny (model P w) A (.call (.ref f) args) (CR CX outer P w H s Q E) s

section
variable {P : Program} {w : World} {K : PySem.W.Frag} {mg : Str → Option Value} {base : Heap} {CX : CXT}

theorem FnG.of {k : Nat} {f : Addr} {fd : FuncData} {ps : List Str} {sp : Sp}
    (F : FnOk P w K mg base CX k f fd ps sp) : FnG P w K mg base CX k f fd ps sp :=
  ⟨F.len, fun A outer s H args us vs Q E _ => F.run A outer s H args us vs Q E⟩

/-- by its body -/
theorem fn_ofG {k : Nat} {f : Addr} {name qual : Str} {params : Arguments} {body : List Stmt} {scope : Scope}
    {dV kV doc pm cdv ct oc : Value} {an od : Option Addr} {osl : Array (Option Value)} {N ps : List Str} {sp : Sp}
    (lk : K.lookup f = some ⟨oc, od, .func (PySem.W.fnOf name qual params body scope dV kV doc pm an cdv ct), osl⟩)
    (hcd : PySem.W.codeIn K cdv qual = true) (S : FnScope N ps scope)
    (len : ∀ vs H Q E, sp vs H Q E → vs.length = ps.length)
    (hbody : ∀ (A : Around) (outer : List Env) (s : Shared) (H : Hp) (vs : List V) (Q : VK) (E : XK),
      Qt (A.deeper (envOfC qual scope s.heap.objs.size f cdv)) →
      Room k (A.deeper (envOfC qual scope s.heap.objs.size f cdv)) → sp vs H Q E →
      ∃ t, PSs (cxOf CX P w K mg base N qual scope f cdv A outer s H E) body t ∧
        t { nx := fun _ H' => Q .non H', rt := Q } (start N vs) H) :
    FnG P w K mg base CX (k + 1) f (PySem.W.fnOf name qual params body scope dV kV doc pm an cdv ct) ps sp := by
  refine ⟨len, ?_⟩
  intro A outer s H args us vs Q E hq hr e0 hb r hsp
  have hl := len _ _ _ _ hsp
  have kept : ∀ b o, base.get? b = some o → s.heap.get? b = some o := fun b o e => (e0.bs b o e).1
  have KX : K.In s.heap := e0.mod.kin.keeps kept
  have lim : s.heap.NoLimit := e0.mod.nolimit.keeps kept
  have hkind : ∀ y ∈ ps.zip us, scope.names.lookup y.1 = some .local ∨
      (scope.names.lookup y.1 = some .cell ∧
        ((cellsFrom (s.heap.objs.size + 1) scope.names []).lookup y.1).isSome = true) := by
    intro y hy
    rcases S.par y.1 (List.of_mem_zip (a := y.1) (b := y.2) hy).1 with q | q
    · exact .inl q
    · exact .inr ⟨q, PySem.W.cellsFrom_some _ _ _ (.inl q)⟩
  refine codeAny_call_function hr.depth (KX _ _ lk) rfl S.co S.gen rfl
    (PySem.W.codeRec_of KX hcd) (hb _ _ _ _ ?_)
  refine wpAny_newFunctionEnv_cells S.kind hkind fun env he s1 x => ?_
  subst he
  refine ⟨lim.keeps x.toInCall.keep, codeAny_func ?_⟩
  obtain ⟨t, ht, go⟩ := hbody A outer s H vs Q E (hq.deeper _) (hr.deeper _) hsp
  have I : Inv (cxOf CX P w K mg base N qual scope f cdv A outer s H E) [] (start N vs) H s1 :=
    inv_start S hr.hd e0 hl r x
  refine wpAny_mono (ht.run [] s1 (start N vs) H _ I go) (fun fl s' hs => ?_) fun e s' hs => hs
  cases fl with
  | ret u =>
    obtain ⟨v, σ', H', J, rv, q⟩ := hs
    exact ⟨v, H', J.os, J.bare, J.base, J.hok, rv, q⟩
  | next =>
    obtain ⟨σ', H', J, q⟩ := hs
    exact ⟨V.non, H', J.os, J.bare, J.base, J.hok, rfl, q⟩
  | brk => obtain ⟨_, _, _, q⟩ := hs; exact False.elim q
  | cont => obtain ⟨_, _, _, q⟩ := hs; exact False.elim q
end

section
variable {X : Cx} {CX : CXT} {k : Nat} {f : Addr} {fd : FuncData} {ps : List Str} {sp : Sp} {ds : List Value} {dvs : List V} {E : XK}

theorem run_fnG {pins : List (Addr × Obj)} {σ : L2.St} {H : Hp} {s : Shared} {Q : VK} {us ws : List Value} {vs zs : List V} {ks : List Str}
    {g : List Value → List Value → List Value} {gV : List V → List V → List V}
    (F : FnG X.prog X.w X.K X.mg X.base CX k f fd ps sp) (hq : Qt X.A) (hr : Room k X.A)
    (hb : KBinds X.K fd ps ks g gV) (hx : Passes CX X E) (I : Inv X pins σ H s) (r : Vals vs us) (rz : Vals zs ws)
    (h : sp (gV vs zs) H Q E) :
    wpAny (model X.prog X.w) X.A (call (.ref f) us (ks.zip ws)) (EP X pins σ Q) X.xe s := by
  have r2 := hb.rel r rz
  have hl : (g us ws).length = ps.length := by
    rw [← r2.length]
    exact F.len _ _ _ _ h
  have z := F.run X.A X.stack s H ⟨us, ks.zip ws⟩ (g us ws) (gV vs zs) Q E hq hr I.env0 (hb.to s us ws I.kIn hl) r2 h
  refine wpAny_call (codeAny_mono z ?_)
  intro o s' ho
  match o, ho with
  | .error e, ho => exact hx pins σ H s e s' I ho
  | .ok (.ret u), ho => exact I.after ho
  | .ok .next, ho => exact False.elim ho
  | .ok .brk, ho => exact False.elim ho
  | .ok .cont, ho => exact False.elim ho

/-- all by their names, or nothing -/
def gK {α : Type} : List α → List α → List α
  | [], ws => ws
  | _ :: _, _ => []

/-- a def of the module that may be called by its name, all parameters given -/
structure Cal (P : Program) (w : World) (K : PySem.W.Frag) (mg : Str → Option Value)
    (base : Heap) (CX : CXT) (k : Nat) (x : Str) (ps : List Str) (sp : Sp) : Prop where
  ex : ∃ (f : Addr) (fd : FuncData), FnG P w K mg base CX k f fd ps sp ∧ mg x = some (.ref f) ∧
    PySem.W.keepIn K (.ref f) = true ∧ Binds K fd ps [] ∧
    (ps ≠ [] → KBinds K fd ps ps gK gK)

variable {x : Str} {p pos : Pos} {e : Expr} {es : List Expr} {kws : List Keyword} {t tk : TA} {j : Nat}

theorem kb_of {fd : FuncData} (hb : Binds X.K fd ps []) : KBinds X.K fd ps [] (fun us _ => us) (fun vs _ => vs) :=
  ⟨fun s us ws hK hl => by
    have z := hb s us hK (by rw [List.append_nil]; exact hl)
    rw [List.append_nil] at z
    exact z, fun r _ => r⟩

theorem pe_c (c : Cal X.prog X.w X.K X.mg X.base CX k x ps sp) (hx : Passes CX X E) (hq : Qt X.A) (hr : Room j X.A) (hk : k ≤ j)
    (hg : Gl X x) (ha : PA X (e :: es) t) (hdb : (x == ("__debug__" : Str)) = false := by decide)
    (he : starEach (e :: es) X.env = (false, eval e X.env) :: starEach es X.env := by rfl)
    (hpl : (backTo pos (starEach es X.env)).any (·.1) = false := by rfl) :
    PE X (.Call (.Name x p) (e :: es) [] pos) (tCall sp [] E t) := by
  obtain ⟨f, fd, F, hm, hkp, hb, _⟩ := c.ex
  constructor
  intro pins s σ H Q I h
  refine wpAny_Call_Name_kw (ld_glob I hg hm ?_ hdb)
  refine PySem.W.callWith_K (h₀ := X.base) I.ok.mod.kin hkp ?_ he hpl
  refine thn (ha.run pos pins s σ H _ I h) ?_
  rintro us s1 ⟨vs, H1, I1, r, q⟩
  rw [List.append_nil] at q
  exact ⟨I1.kIn, run_fnG (ks := []) (ws := []) F hq (hr.mono hk) (kb_of hb) hx I1 r .nil q⟩

theorem pe_c0 (c : Cal X.prog X.w X.K X.mg X.base CX k x ps sp) (hx : Passes CX X E) (hq : Qt X.A) (hr : Room j X.A) (hk : k ≤ j)
    (hg : Gl X x) (hdb : (x == ("__debug__" : Str)) = false := by decide) :
    PE X (.Call (.Name x p) [] [] pos) (tCall sp [] E tNil) := by
  obtain ⟨f, fd, F, hm, hkp, hb, _⟩ := c.ex
  constructor
  intro pins s σ H Q I h
  refine wpAny_Call_Name_kw (ld_glob I hg hm ?_ hdb)
  exact PySem.W.callWith_K0 I.kIn hkp (run_fnG (ks := []) (us := []) (ws := []) F hq (hr.mono hk) (kb_of hb) hx I .nil .nil h)

/-- all by their names, in the parameters' order -/
theorem pe_cK (c : Cal X.prog X.w X.K X.mg X.base CX k x ps sp) (hx : Passes CX X E) (hq : Qt X.A) (hr : Room j X.A) (hk : k ≤ j)
    (hg : Gl X x) (h0 : ps ≠ []) (hkw : PK X kws tk)
    (hall : (backToKw pos (keywordEach kws X.env)).all (·.1.isSome) = true := by rfl)
    (hks : (backToKw pos (keywordEach kws X.env)).filterMap (·.1) = ps := by rfl)
    (hdb : (x == ("__debug__" : Str)) = false := by decide)
    (hpl : ((backTo pos (starEach [] X.env)).any (·.1) || (backToKw pos (keywordEach kws X.env)).any (·.1.isNone)) = false := by rfl) :
    PE X (.Call (.Name x p) [] kws pos) (tCall sp [] E tk) := by
  obtain ⟨f, fd, F, hm, hkp, _, hb⟩ := c.ex
  constructor
  intro pins s σ H Q I h
  refine wpAny_Call_Name_kw (ld_glob I hg hm ?_ hdb)
  refine PySem.W.callWith_KW0 (h₀ := X.base) I.ok.mod.kin hkp hall ?_ hpl
  refine thn (hkw.run pos pins s σ H _ I h) ?_
  rintro ws s1 ⟨zs, H1, I1, r, q⟩
  rw [List.append_nil] at q
  refine ⟨I1.kIn, ?_⟩
  rw [hks]
  exact run_fnG (us := []) (vs := []) F hq (hr.mono hk) (hb h0) hx I1 .nil r q
end

section
variable {P : Program} {w : World} {K : PySem.W.Frag} {mg : Str → Option Value} {base : Heap}
theorem kb_all {fd : FuncData} {ps : List Str} (h0 : ps ≠ [])
    (h : ∀ ws : List Value, ws.length = ps.length → bindArgs fd ⟨[], ps.zip ws⟩ = pure (ps.zip ws)) : KBinds K fd ps ps gK gK where
  to := fun s us ws _ hl => by
    cases us with
    | nil => exact .of_eq (h ws hl)
    | cons u us =>
      exfalso
      cases ps with
      | nil => exact h0 rfl
      | cons y ps => cases hl
  rel := fun {vs us zs ws} r rz => by
    cases r with
    | nil => exact rz
    | cons _ _ => exact .nil
/-- a def by its body; nothing leaves it by a raise -/
theorem fng_of {x0 x : Str} {st : Stmt} {f : Addr} {fd : FuncData} {N ps : List Str} {k : Nat} {sp : Sp}
    (F : L2.Fun K x0 x st f fd)
    (S : FnScope N ps (defScope st)) (len : ∀ vs H Q E, sp vs H Q E → vs.length = ps.length)
    (hbody : ∀ (cdv : Value) (A : Around) (outer : List Env) (s : Shared) (H : Hp) (vs : List V) (Q : VK) (E : XK),
      Qt (A.deeper (envOfC x (defScope st) s.heap.objs.size f cdv)) →
      Room k (A.deeper (envOfC x (defScope st) s.heap.objs.size f cdv)) → sp vs H Q E →
      ∃ t, PSs (cxOf L2.CX0 P w K mg base N x (defScope st) f cdv A outer s H E).nox (defBody st) t ∧
        t { nx := fun _ H' => Q .non H', rt := Q } (start N vs) H) :
    FnG P w K mg base L2.CX0 (k + 1) f fd ps sp := by
  obtain ⟨oc, od, kV, doc, pm, an, cdv, ct, osl, rfl, lk, hcd⟩ := F.ex
  refine fn_ofG lk hcd S len ?_
  intro A outer s H vs Q E hq hr hsp
  obtain ⟨t, h, q⟩ := hbody cdv A outer s H vs Q E hq hr hsp
  exact ⟨t, h.nox, q⟩
theorem cal_of {x : Str} {st : Stmt} {f : Addr} {fd : FuncData} {N ps : List Str} {k : Nat} {sp : Sp}
    (F : L2.Fun K x x st f fd) (hm : mg x = some (.ref f)) (hb : Binds K fd ps []) (hkb : ps ≠ [] → KBinds K fd ps ps gK gK)
    (S : FnScope N ps (defScope st)) (len : ∀ vs H Q E, sp vs H Q E → vs.length = ps.length)
    (hbody : ∀ (cdv : Value) (A : Around) (outer : List Env) (s : Shared) (H : Hp) (vs : List V) (Q : VK) (E : XK),
      Qt (A.deeper (envOfC x (defScope st) s.heap.objs.size f cdv)) →
      Room k (A.deeper (envOfC x (defScope st) s.heap.objs.size f cdv)) → sp vs H Q E →
      ∃ t, PSs (cxOf L2.CX0 P w K mg base N x (defScope st) f cdv A outer s H E).nox (defBody st) t ∧
        t { nx := fun _ H' => Q .non H', rt := Q } (start N vs) H) :
    Cal P w K mg base L2.CX0 (k + 1) x ps sp :=
  ⟨f, fd, fng_of F S len hbody, hm, F.kp, hb, hkb⟩

/-- the law's call, from the world outside -/
theorem law_callG {mb : Str → Option Value} {CX : CXT} {k : Nat} {fa a : Addr} {fd : FuncData} {x : Str} {sp : Sp}
    {s₁ : Shared} {vs : List Value} {ns : List Int}
    (KX : K.In s₁.heap) (hns : s₁.heap.Ns mainGlobals mg) (hb : s₁.heap.Ns builtinsNs mb)
    (hbb : ∀ x : Str, x ≠ "__name__" → mb x = bootBuiltins x) (hlim : s₁.heap.NoLimit) (hg : s₁.gens = #[])
    (ha : s₁.heap.get? a = some { cls := .type "list", data := .seq vs.toArray }) (hi : IntsAre vs ns)
    (hl : ns.length ≤ sizeLine) (hr : Room k callerA)
    (F : ∀ base : Heap, K.In base → base.Ns mainGlobals mg → FnG P w K mg base CX k fa fd [x] sp)
    (hbind : ∀ (s : Shared) (u : Value), BindsTo s fd ⟨[u], []⟩ [(x, u)])
    (hsp : ∀ H : Hp, Only H → SqL K H a (ns.map V.int) → sp [.ref a] H (fun v _ => v = .bl true) fun _ _ _ => False)
    (hCX : ∀ H e s', CX [] H s₁ (fun _ _ _ => False) e s' → False) :
    codeAny (model P w) callerA (.call (.ref fa) ⟨[.ref a], []⟩)
      (fun r s' => r = .ok (.ret (.bool true)) ∧ OldK s₁.heap s'.heap ∧ s'.os = s₁.os ∧ AllBare s'.gens) s₁ := by
  have rv := vals_ints hi
  have lenV := hi.length
  -- over any abstract heap that tracks the script at most
  have inner : ∀ H : Hp, Only H → SqL K H a (ns.map V.int) → HOk P w H s₁.heap → (∀ b, H b ≠ none → b = a) →
      (H a ≠ none → K.lookup a = none) →
      codeAny (model P w) callerA (.call (.ref fa) ⟨[.ref a], []⟩)
        (fun r s' => r = .ok (.ret (.bool true)) ∧ OldK s₁.heap s'.heap ∧ s'.os = s₁.os ∧ AllBare s'.gens) s₁ := by
    intro H hO hS hok hA hK
    have one : ∀ {b : Addr} {u : HO}, H b = some u → b = a := fun {b u} z => hA b (by rw [z]; simp)
    have noD : ∀ {b : Addr} {o : Obj} {es : Array DictEntry} {ep : Nat},
        s₁.heap.get? b = some o → o.data = .dict es ep → H b = none := by
      intro b o es ep e d
      cases q : H b with
      | none => rfl
      | some u =>
        obtain rfl := one q
        rw [ha] at e
        cases e
        have d' : Data.seq vs.toArray _ = Data.dict es ep := d
        cases d'
    have nsK : ∀ {b : Addr} {m : Str → Option Value}, s₁.heap.Ns b m → (hidT s₁.heap H).Ns b m := by
      rintro b m ⟨o, es, ep, e, d, r⟩
      exact ⟨o, es, ep, hidT_get e (noD e d), d, r⟩
    have hKb : K.In (hidT s₁.heap H) := by
      intro b o e
      refine hidT_get (KX b o e) ?_
      cases q : H b with
      | none => rfl
      | some u =>
        obtain rfl := one q
        rw [hK (by rw [q]; simp)] at e
        cases e
    obtain ⟨mc, l1, l2⟩ := hlim
    have hM : Mod K mg (hidT s₁.heap H) := ⟨hKb, nsK hns, ⟨mb, nsK hb, hbb⟩, mc, nsK l1, l2⟩
    have no0 : ∀ b : Addr, b ∈ ([] : List Addr) → False := fun b z => by simp at z
    have e0 : Env0 P w K mg (hidT s₁.heap H) callerA [] s₁ H :=
      ⟨rfl, hM, fun b o e => of_hidT e, Nat.le_of_eq (hidT_size _ _), trivial, fun b z => (no0 b z).elim, hok, .of_eq hg⟩
    have go := (F _ hKb (nsK hns)).run callerA [] s₁ H ⟨[.ref a], []⟩ [.ref a] [.ref a] _ _ rfl hr e0
      (hbind s₁ (.ref a)) (.cons rfl .nil) (hsp H hO hS)
    refine codeAny_mono go ?_
    intro r s' h
    match r, h with
    | .error e, h => exact (hCX H e s' h).elim
    | .ok .next, h => exact False.elim h
    | .ok .brk, h => exact False.elim h
    | .ok .cont, h => exact False.elim h
    | .ok (.ret u), h =>
      obtain ⟨v, H', os, bare, un, hok', r', q⟩ := h
      have q' : v = .bl true := q
      subst q'
      obtain rfl : u = Value.bool true := r'
      refine ⟨rfl, OldK.of_keep ?_, os, bare⟩
      intro b o e
      cases q : H b with
      | none => exact un.keep b o e q (no0 b) (by simp)
      | some u =>
        rcases hO b with z | ⟨ob, xs, z⟩
        · rw [q] at z
          cases z
        · obtain ⟨e1, _⟩ := hok b _ z
          obtain ⟨e2, _⟩ := hok' b _ (un.frzs b ob _ z)
          rw [e] at e1
          cases e1
          exact e2
  cases hk : K.lookup a with
  | some o =>
    have e := KX a o hk
    rw [ha] at e
    cases e
    have sz : vs.toArray.size ≤ sizeLine := by
      rw [List.size_toArray, lenV]
      exact hl
    refine inner (fun _ => none) (fun _ => .inl rfl) (.inr ⟨_, vs.toArray, _, hk, rfl, rfl, rfl, sz, by simpa using rv⟩) ?_ ?_ ?_
    · intro b u z
      have z' : (none : Option HO) = some u := z
      cases z'
    · exact fun b z => absurd rfl z
    · exact fun z => absurd rfl z
  | none =>
    let u : HO := .frz { cls := .type "list", data := .seq vs.toArray } (.lst (ns.map V.int))
    have yes : ∀ {b : Addr}, b = a → (if b = a then some u else none) = some u := fun h => if_pos h
    have no : ∀ {b : Addr}, ¬ b = a → (if b = a then some u else none) = none := fun h => if_neg h
    refine inner (fun b => if b = a then some u else none) ?_ (.inl (.inr ⟨_, yes rfl⟩)) ?_ ?_ fun _ => hk
    · intro b
      by_cases hb : b = a
      · exact .inr ⟨_, _, yes hb⟩
      · exact .inl (no hb)
    · intro b v z
      by_cases hb : b = a
      · have z' := (yes hb).symm.trans z
        cases z'
        subst hb
        refine ⟨ha, ?_, vs, _, rv, ha⟩
        rw [List.length_map]
        exact hl
      · have z' := (no hb).symm.trans z
        cases z'
    · intro b z
      by_cases hb : b = a
      · exact hb
      · exact absurd (no hb) z
end

/-- the goal of the head, from the law's promise -/
theorem walk_ofG {l : PySem.W.OpenLaw} {n k : Nat} {q : Program} {loose : List Str} {XP : (Str → Option Value) → Heap → Prop}
    {YP : World → Heap → Prop} {d : DefRec} {K : Params → PySem.W.Frag} {CX : World → CXT} {sp : World → Sp} {x : Str}
    (hn : l.most = some n) (hn2 : n ≤ sizeLine) (hdf : d.params.defaults = []) (hr : Room k callerA)
    (hY : ∀ (w : World) (h : Heap), YP w h → (K w.params).In h)
    (F : ∀ (w : World) (mg : Str → Option Value) (fa : Addr) (h : Heap), (K w.params).In h → h.Ns mainGlobals mg →
      mg d.name = some (.ref fa) →
      ∃ fd : FuncData, (∀ (s : Shared) (u : Value), BindsTo s fd ⟨[u], []⟩ [(x, u)]) ∧
        ∀ base : Heap, (K w.params).In base → base.Ns mainGlobals mg → FnG l.prog w (K w.params) mg base (CX w) k fa fd [x] (sp w))
    (hsp : ∀ (w : World) (H : Hp) (a : Addr) (ns : List Int), ns.length ≤ n →
      (∀ z ∈ ns, Builtin.Int.intBits z ≤ 1048576) → Only H → SqL (K w.params) H a (ns.map V.int) →
      sp w [.ref a] H (fun v _ => v = .bl true) fun _ _ _ => False)
    (hCX : ∀ (w : World) (H : Hp) (s : Shared) (e : Value) (s' : Shared), CX w [] H s (fun _ _ _ => False) e s' → False) :
    PySem.W.WalkO q loose XP YP l.row.toRowW d [] (fun f vs => PySem.call f vs) := by
  refine Att.attach_callB hn hdf ?_
  intro w s₀ s₁ mg mb fa o pm cd doc a vs ns G Y ho hd hcd hmg hobj hints hlen hbits hg
  have KX := hY w _ Y
  obtain ⟨fd, hb, hF⟩ := F w mg fa _ KX G.T.g hmg
  exact law_callG KX G.T.g G.T.b G.T.builtins G.T.nolimit hg hobj hints (Nat.le_trans hlen hn2) hr hF hb
    (fun H hO hS => hsp w H a ns hlen hbits hO hS) fun H e s' => hCX w H s₁ e s'
end Kit

namespace Kit
open PySem PySem.Spec PyProof.Rows L2
section
variable {X : Cx}
/-- * of whole numbers, as great as the machine lets -/
theorem op_mulB : OpR X (binaryOp .Mult) (rI IntMulOk fun i j => .int (i * j)) :=
  opI fun i j t u s Q E hc q => mul_int q hc

/-- a text times a number -/
def rRepS : R2 := fun x y H Q => ∃ (z : Str) (k : Int), x = .str z ∧ y = .int k ∧ z.length ≤ 1000 ∧ 0 ≤ k ∧ k ≤ 1000 ∧ Q (.str (Txt.mul z k)) H
theorem op_repS : OpR X (binaryOp .Mult) rRepS := by
  intro pins s σ H x y v u Q I rx ry h
  obtain ⟨z, k, rfl, rfl, hz, h0, hk, q⟩ := h
  obtain ⟨t, rfl⟩ := rx
  obtain ⟨t', rfl⟩ := ry
  exact SB.mul (mulOk_of 1000 1000 hz hk (by omega) (by decide) (by decide)) fun t' k => ⟨.str _, H, I.tok _, ⟨_, rfl⟩, q⟩

/-- repr of lists and tuples of data -/
def rReprD (K : PySem.W.Frag) : List V → Hp → VK → Prop := fun xs H Q => ∃ (a : Addr) (d : PyData), xs = [.ref a] ∧ Dp K H (.ref a) d ∧
  d.showable = true ∧ d.hasDict = false ∧ d.depth ≤ 150 ∧ d.shown.length ≤ sizeLine ∧ Q (.str d.shown) H
theorem call_reprD (hq : Qt X.A) (hu : X.A.units + 200 < cLine) : CallR X (.builtin "repr") (rReprD X.K) := by
  intro pins s σ H xs us Q I r h
  obtain ⟨a, d, rfl, hd, hs, hn, hp, hz, q⟩ := h
  obtain ⟨u, rfl, ru⟩ := vals1 r
  obtain ⟨as, rd⟩ := Dp.reads I d _ _ hd ru
  obtain rfl : u = Value.ref a := ru
  refine repr_of_reads' rd hs (PyData.noDict_hsm hn) hq (by omega) (fun _ _ e => e) (fun h' u tk hk => ?_) hz
  exact ⟨.str _, H, I.kept hk, ⟨_, rfl⟩, q⟩

/-- a list of anything beside one without items -/
def rEqNil (K : PySem.W.Frag) : R2 := fun x y H Q => ∃ (a b : Addr) (xs : List V), x = .ref a ∧ y = .ref b ∧ SqL K H a xs ∧ SqL K H b [] ∧ Q (.bl xs.isEmpty) H
def rNeNil (K : PySem.W.Frag) : R2 := fun x y H Q => ∃ (a b : Addr) (xs : List V), x = .ref a ∧ y = .ref b ∧ SqL K H a xs ∧ SqL K H b [] ∧ Q (.bl (!xs.isEmpty)) H
theorem op_eqNil (hu : X.A.units + 200 < cLine) : OpR X (compareOp .Eq) (rEqNil X.K) := by
  intro pins s σ H x y v u Q I rx ry h
  obtain ⟨a, b, xs, rfl, rfl, ha, hb, q⟩ := h
  cases rx
  cases ry
  obtain ⟨its, r1, p1, _⟩ := I.list ha
  obtain ⟨its2, r2, p2, _⟩ := I.list hb
  cases r2
  cases xs with
  | nil =>
    cases r1
    exact SeqAt.eq_listAt (e := fun _ => true) p1.isList p2.isList rfl (by omega) (fun j h1 _ => absurd h1 (Nat.not_lt_zero j)) ⟨.bl true, H, I, rfl, q⟩
  | cons z zs =>
    cases r1
    exact SeqAt.eq_list_lengthsAt p1.isList p2.isList (by simp) (by omega) ⟨.bl false, H, I, rfl, q⟩
theorem op_neNil (hu : X.A.units + 200 < cLine) : OpR X (compareOp .NotEq) (rNeNil X.K) := by
  intro pins s σ H x y v u Q I rx ry h
  obtain ⟨a, b, xs, rfl, rfl, ha, hb, q⟩ := h
  cases rx
  cases ry
  obtain ⟨its, r1, p1, _⟩ := I.list ha
  obtain ⟨its2, r2, p2, _⟩ := I.list hb
  cases r2
  cases xs with
  | nil =>
    cases r1
    exact SeqAt.RcNeAt.lists (e := fun _ => true) p1.isList p2.isList rfl (by omega) (fun j h1 _ => absurd h1 (Nat.not_lt_zero j)) _ _ _ _ ⟨.bl false, H, I, rfl, q⟩
  | cons z zs =>
    cases r1
    exact SeqAt.RcNeAt.lists_lengths p1.isList p2.isList (by simp) (by omega) _ _ _ _ ⟨.bl true, H, I, rfl, q⟩

/-- a text from behind: what of it is told is its length -/
def tRevS (te : TE) : TE := fun σ H Q => te σ H fun x H1 => ∃ z : Str, x = .str z ∧ z.length ≤ sizeLine ∧ ∀ y : Str, y.length ≤ z.length → Q (.str y) H1
theorem pe_revS {e : Expr} {te : TE} {k : Nat} {p1 p2 p3 pos : Pos} (he : PE X e te)
    (hlt : ∀ (z : Str) (t : Tok) r, letTemporaryGo e (.str z t) r = pure () := by intro _ _ _; with_unfolding_all rfl) :
    PE X (.Subscript e (.Slice none none (some (.UnaryOp .USub (.Constant (.int 1) k p1) p2)) p3) pos) (tRevS te) := by
  constructor
  intro pins s σ H Q I h
  refine Subscript_ (thn (he.run pins s σ H _ I h) ?_)
  rintro v s1 ⟨x, H1, I1, r1, z, rfl, hz, q⟩
  obtain ⟨t, rfl⟩ := r1
  have hst : PO X (some (.UnaryOp .USub (.Constant (.int 1) k p1) p2)) (tPart (tUn (rU fun i => .int (-i)) (tC (.int 1)))) :=
    po_some (pe_un un_neg pe_int)
  refine wpAny_Slice (thn (po_none.run pins s1 σ H1 (fun o H2 => o = none ∧ H2 = H1) I1 ⟨rfl, rfl⟩) ?_)
  rintro vl s2 ⟨l, H2, I2, pl, rfl, rfl⟩
  refine thn (po_none.run pins s2 σ H2 (fun o H3 => o = none ∧ H3 = H2) I2 ⟨rfl, rfl⟩) ?_
  rintro vu s3 ⟨u, H3, I3, pu, rfl, rfl⟩
  refine thn (hst.run pins s3 σ H3 (fun o H4 => o = some (-1) ∧ H4 = H3) I3 ⟨1, rfl, -1, rfl, rfl, rfl⟩) ?_
  rintro vs s4 ⟨o, H4, I4, ps, rfl, rfl⟩
  cases pl
  cases pu
  cases ps with
  | int _ uk =>
    refine tail_of_ItemOn (ops := [.ref s4.heap.objs.size, .str z t]) ⟨"str", _, F.slot_str_getitem.lookup, typeIs_str _ _ _,
      wpAny_getItem_str_slice (l := none) (u := none) (st := some (-1, uk)) ⟨_, Heap.get?_push_size _ rfl, rfl, rfl⟩ rfl
        (post_val_or_str ⟨?_, ?_⟩)⟩ (by with_unfolding_all rfl) (hlt z t)
    · exact Nat.le_trans (Txt.sliceBy_le z none none (-1, uk) (by show (-1 : Int) ≠ 0; decide)) hz
    · intro t' c
      exact ⟨.str _, H4, I4.kept (fun b u e => Heap.get?_push_of_some _ e), ⟨_, rfl⟩, q _ (Txt.sliceBy_le z none none (-1, uk) (by show (-1 : Int) ≠ 0; decide))⟩

/-- the signs of a text, a text each -/
def sgV (z : Str) : List V := z.cps.toList.map fun c => .str ⟨#[c]⟩
theorem sgV_len (z : Str) : (sgV z).length = z.length := by
  unfold sgV
  rw [List.length_map, Array.length_toList]
  rfl
theorem vals_signs : ∀ (cs : List Nat) (us : List Value), us.length = cs.length → (∀ (j : Nat) (v : Value), us[j]? = some v → ∃ c t, cs[j]? = some c ∧ v = Value.str ⟨#[c]⟩ t) →
    Vals (cs.map fun c => V.str ⟨#[c]⟩) us
  | [], [], _, _ => .nil
  | [], _ :: _, h, _ => by cases h
  | _ :: _, [], h, _ => by cases h
  | c :: cs, u :: us, hl, h => by
    obtain ⟨c', t, e1, e2⟩ := h 0 u rfl
    have e1' : c = c' := Option.some.inj e1
    subst e1'
    exact .cons ⟨t, e2⟩ (vals_signs cs us (by simpa using hl) fun j v e => h (j + 1) v (by simpa using e))
/-- list(a text) -/
theorem call_listS (hc : X.calm = true) : CallR X (.type "list") (fun xs H Q => ∃ z : Str, xs = [.str z] ∧ z.length ≤ sizeLine ∧ ∀ l, H l = none → Q (.ref l) (upd H l (.lst (sgV z)))) := by
  intro pins s σ H xs us Q I r h
  obtain ⟨z, rfl, hz, q⟩ := h
  obtain ⟨u, rfl, t, rfl⟩ := vals1 r
  refine PySem.call_list_str (I.ok.hd hc) z t (fun h' tk acc c' kp e ia => ?_) hz
  have hv : Vals (sgV z) acc.toList := vals_signs _ _ (by rw [Array.length_toList, Array.length_toList]; exact ia.1) fun j v e => by
    obtain ⟨c, u, h1, h2⟩ := ia.2 j v (by rw [← Array.getElem?_toList]; exact e)
    exact ⟨c, u, by rw [Array.getElem?_toList]; exact h1, h2⟩
  exact ⟨.ref s.heap.objs.size, _, I.laid (t' := tk) kp (Nat.le_refl _)
    (show ObjOk X.prog X.w _ h' _ (.lst (sgV z)) from ⟨by rw [sgV_len]; exact hz, acc.toList, c', hv, by rw [Array.toArray_toList]; exact e⟩), rfl, q _ (I.hok.fresh (Nat.le_refl _))⟩
end

/-! ### a comprehension over the signs of a text -/
theorem lc_str {x : Str} {g : TG} {tt : TT} {te : TE} {vs : List Nat} {σ : L2.St} {H1 : Hp} {D : Addr} {Qd : Hp → Prop} (Pv : Nat → Hp → Prop)
    (h0 : Pv 0 (upd H1 D (.lst [])))
    (hs : ∀ i c H, x.cps.toList[i]? = some c → Pv i H → g (.str ⟨#[c]⟩) (wipe σ vs) H fun σ2 H2 => wipe σ2 vs = wipe σ vs ∧ tt σ2 H2 fun b H3 =>
      if b = true then te σ2 H3 fun y H4 => ∃ acc, H4 D = some (.lst acc) ∧ acc.length < sizeLine ∧ Pv (i + 1) (upd H4 D (.lst (acc ++ [y])))
      else Pv (i + 1) H3)
    (hd : ∀ H, Pv x.cps.size H → Qd H) :
    ∃ W : Nat → Nat → Hp → Prop, (∃ m, W 0 m (upd H1 D (.lst []))) ∧ ∀ i m H, W i m H →
      ((Its x).stop i H ∧ Qd H) ∨ ((Its x).go i H ∧ ∃ Nx : Hp → Prop, (∀ H', Nx H' → ∃ m', m' < m ∧ W (i + 1) m' H') ∧
        ∀ v H', (Its x).yld i H v H' → g v (wipe σ vs) H' fun σ2 H2 => wipe σ2 vs = wipe σ vs ∧ tt σ2 H2 fun b H3 =>
          if b = true then te σ2 H3 fun y H4 => ∃ acc, H4 D = some (.lst acc) ∧ acc.length < sizeLine ∧ Nx (upd H4 D (.lst (acc ++ [y]))) else Nx H3) := by
  refine ⟨fun i m H => m = x.cps.size - i ∧ i ≤ x.cps.size ∧ Pv i H, ⟨x.cps.size, rfl, Nat.zero_le _, h0⟩, ?_⟩
  rintro i m H ⟨rfl, hi, p⟩
  by_cases hlt : i < x.cps.size
  · refine .inr ⟨hlt, Pv (i + 1), fun H' q => ⟨x.cps.size - (i + 1), by omega, rfl, by omega, q⟩, ?_⟩
    rintro v H' ⟨rfl, c, e, rfl⟩
    exact hs i c H' (by rw [Array.getElem?_toList]; exact e) p
  · have e : i = x.cps.size := by omega
    subst e
    exact .inl ⟨Nat.le_refl _, hd H p⟩

theorem sgV_get {z : Str} {j : Nat} {x : V} (h : (sgV z)[j]? = some x) : ∃ k, x = .str ⟨#[k]⟩ ∧ z.cps.toList[j]? = some k := by
  unfold sgV at h
  rw [List.getElem?_map] at h
  cases q : z.cps.toList[j]? with
  | none =>
    rw [q] at h
    cases h
  | some k =>
    rw [q] at h
    exact ⟨k, (Option.some.inj h).symm, rfl⟩
/-! ### what may be drawn from: a list, a tuple, a text -/
inductive Sq (K : PySem.W.Frag) (H : Hp) : V → List V → Prop
  | lst {a : Addr} {xs : List V} (h : SqL K H a xs) : Sq K H (.ref a) xs
  | tup {a : Addr} {xs : List V} (h : SqT K H a xs) : Sq K H (.ref a) xs
  | str {z : Str} (h : z.length ≤ sizeLine) : Sq K H (.str z) (sgV z)
theorem atI_lt {α : Type} {xs : List α} {i : Int} {n : Nat} (h0 : 0 ≤ i) (h1 : i < (n : Int)) (hn : n = xs.length) : ∃ v, atI xs i = some v ∧ xs[i.toNat]? = some v := by
  subst hn
  obtain ⟨k, rfl⟩ := Int.eq_ofNat_of_zero_le h0
  have h2 : k < xs.length := by omega
  exact ⟨xs[k], atI_nat (List.getElem?_eq_getElem h2), List.getElem?_eq_getElem h2⟩

/-- a def of the module, as it stands behind the top -/
structure DefAt (K : PySem.W.Frag) (mg : Str → Option Value) (x : Str) (ps : List Str) (st : Stmt) (f : Addr) (fd : FuncData) : Prop where
  fn : L2.Fun K x x st f fd
  mgf : mg x = some (.ref f)
  bs : L2.Binds K fd ps []
  kbs : ps ≠ [] → KBinds K fd ps ps gK gK


theorem def_mk {K : PySem.W.Frag} {mg : Str → Option Value} {h : Heap} {x : Str} {ps : List Str} {st : Stmt} {f : Addr} {oc : Value} {od an : Option Addr} {osl : Array (Option Value)}
    {kV doc pm cdv ct : Value} (X : K.In h) (G : h.Ns mainGlobals mg) (a : PySem.W.nsIn K mainGlobals x = some (some (.ref f)))
    (l : K.lookup f = some ⟨oc, od, .func (PySem.W.fnOf x x (defArgs st) (defBody st) (defScope st) .none kV doc pm an cdv ct), osl⟩)
    (c : PySem.W.codeIn K cdv x = true) (k : PySem.W.keepIn K (.ref f) = true)
    (hb : ∀ (kV doc pm : Value) (an : Option Addr) (cdv ct : Value) (us : List Value), us.length = ps.length →
      bindArgs (PySem.W.fnOf x x (defArgs st) (defBody st) (defScope st) .none kV doc pm an cdv ct) ⟨us, []⟩ = pure (ps.zip us))
    (hk : ps ≠ [] → ∀ (kV doc pm : Value) (an : Option Addr) (cdv ct : Value) (ws : List Value), ws.length = ps.length →
      bindArgs (PySem.W.fnOf x x (defArgs st) (defBody st) (defScope st) .none kV doc pm an cdv ct) ⟨[], ps.zip ws⟩ = pure (ps.zip ws)) :
    DefAt K mg x ps st f (PySem.W.fnOf x x (defArgs st) (defBody st) (defScope st) .none kV doc pm an cdv ct) := by
  have F := fun_mk (st := st) l c k
  exact ⟨F, PySem.W.mg_of X G a, F.binds hb, fun h0 => kb_all h0 fun ws hl => hk h0 kV doc pm an cdv ct ws hl⟩

theorem room200 {A : Around} {k : Nat} (hr : Room k A) : A.units + 200 < cLine := by
  have h := hr.un
  omega

/-! ### heaps -/
theorem same_new {H : Hp} {p : Addr} {o : HO} (h : H p = none) : Same H (upd H p o) := fun b x e => by
  rw [upd_ne (ne_of_none e h)]
  exact e
theorem same_mut {H H' : Hp} {p : Addr} {o : HO} (s : Same H H') (h : H p = none) : Same H (upd H' p o) := fun b x e => by
  rw [upd_ne (ne_of_none e h)]
  exact s b x e
/-- all but two is as it was -/
def But (d c : Addr) (H H' : Hp) : Prop := ∀ b o, b ≠ d → b ≠ c → H b = some o → H' b = some o
theorem But.refl (d c : Addr) (H : Hp) : But d c H H := fun _ _ _ _ e => e
theorem But.trans {d c : Addr} {H H1 H2 : Hp} (a : But d c H H1) (b : But d c H1 H2) : But d c H H2 := fun x o h1 h2 e => b x o h1 h2 (a x o h1 h2 e)
theorem But.same {d c : Addr} {H H1 H2 : Hp} (a : But d c H H1) (b : Same H1 H2) : But d c H H2 := fun x o h1 h2 e => b x o (a x o h1 h2 e)
theorem But.of {d c : Addr} {H H1 : Hp} (b : Same H H1) : But d c H H1 := fun x o _ _ e => b x o e
theorem But.mut {d c p : Addr} {o : HO} {H H1 : Hp} (a : But d c H H1) (h : H p = none) : But d c H (upd H1 p o) := fun x u h1 h2 e => by
  rw [upd_ne (ne_of_none e h)]
  exact a x u h1 h2 e
theorem But.sql {K : PySem.W.Frag} {d c a : Addr} {H H1 : Hp} {xs : List V} (h : But d c H H1) (h1 : a ≠ d) (h2 : a ≠ c) (e : SqL K H a xs) : SqL K H1 a xs := by
  rcases e with (e | ⟨o, e⟩) | e
  · exact .inl (.inl (h _ _ h1 h2 e))
  · exact .inl (.inr ⟨o, h _ _ h1 h2 e⟩)
  · exact .inr e
theorem But.sqt {K : PySem.W.Frag} {d c a : Addr} {H H1 : Hp} {xs : List V} (h : But d c H H1) (h1 : a ≠ d) (h2 : a ≠ c) (e : SqT K H a xs) : SqT K H1 a xs := by
  rcases e with (e | ⟨o, e⟩) | e
  · exact .inl (.inl (h _ _ h1 h2 e))
  · exact .inl (.inr ⟨o, h _ _ h1 h2 e⟩)
  · exact .inr e
theorem But.sq {K : PySem.W.Frag} {d c : Addr} {H H1 : Hp} {v : V} {xs : List V} (h : But d c H H1) (h1 : v ≠ .ref d) (h2 : v ≠ .ref c) (e : Sq K H v xs) : Sq K H1 v xs := by
  cases e with
  | lst e => exact .lst (h.sql (fun z => h1 (by rw [z])) (fun z => h2 (by rw [z])) e)
  | tup e => exact .tup (h.sqt (fun z => h1 (by rw [z])) (fun z => h2 (by rw [z])) e)
  | str e => exact .str e
theorem Sq.lenV {K : PySem.W.Frag} {H : Hp} {v : V} {xs : List V} (h : Sq K H v xs) : LenV K v H xs.length := by
  cases h with
  | lst e => exact .inl ⟨_, e, rfl⟩
  | tup e => exact .inr ⟨_, e, rfl⟩
  | str e => exact ⟨e, sgV_len _⟩
/-- an item of it -/
theorem Sq.item {K : PySem.W.Frag} {H : Hp} {v y : V} {xs : List V} {i : Int} {Q : VK} (h : Sq K H v xs) (e : atI xs i = some y) (q : Q y H) : rIx K v (.int i) H Q := by
  cases h with
  | lst h => exact .inl ⟨_, _, _, _, rfl, rfl, h, e, q⟩
  | tup h => exact .inr (.inl ⟨_, _, _, _, rfl, rfl, h, e, q⟩)
  | @str z hz =>
    have e2 : (ixN (sgV z).length i).bind (fun j => (sgV z)[j]?) = some y := e
    have e3 : ∃ c, atI z.cps.toList i = some c ∧ y = .str ⟨#[c]⟩ := by
      unfold sgV at e2
      rw [List.length_map] at e2
      show ∃ c, (ixN z.cps.toList.length i).bind (fun j => z.cps.toList[j]?) = some c ∧ _
      cases q : ixN z.cps.toList.length i with
      | none =>
        rw [q] at e2
        cases e2
      | some j =>
        rw [q] at e2
        have e4 : (z.cps.toList.map fun c => V.str ⟨#[c]⟩)[j]? = some y := e2
        rw [List.getElem?_map] at e4
        show ∃ c, z.cps.toList[j]? = some c ∧ _
        cases q2 : z.cps.toList[j]? with
        | none =>
          rw [q2] at e4
          cases e4
        | some c =>
          rw [q2] at e4
          exact ⟨c, rfl, (Option.some.inj e4).symm⟩
    obtain ⟨c, h1, rfl⟩ := e3
    exact .inr (.inr ⟨z, i, c, rfl, rfl, hz, h1, q⟩)
end Kit

/-! methods over promises of the quiet kind; data made of tuples -/
namespace Kit
open PySem PySem.Spec PyProof.Rows L2
section
variable {X : Cx} {CX : CXT} {k j : Nat} {C : Addr} {m : Str} {ps : List Str} {sp : Sp} {E : XK} {o e : Expr} {es : List Expr} {ta : TE} {t : TA} {pos apos : Pos}
/-- a method of the class at C -/
structure Met (P : Program) (w : World) (K : PySem.W.Frag) (mg : Str → Option Value) (base : Heap) (CX : CXT) (k : Nat) (C : Addr) (m : Str) (ps : List Str) (sp : Sp) : Prop where
  cl : Cls K C
  ex : ∃ (f : Addr) (fd : FuncData), Meth K C m f ∧ FnG P w K mg base CX k f fd ps sp ∧ Binds K fd ps []
theorem pe_m {pl : Sem Bool} (c : Met X.prog X.w X.K X.mg X.base CX k C m ps sp) (hx : Passes CX X E) (hq : Qt X.A) (hr : Room j X.A) (hk : k ≤ j)
    (he : PE X o ta) (ha : PA X (e :: es) t)
    (hst : starEach (e :: es) X.env = (false, eval e X.env) :: starEach es X.env := by rfl)
    (hpl : (backTo pos (starEach es X.env)).any (·.1) = false := by rfl)
    (ht : eval (.Call (.Attribute o m apos) (e :: es) [] pos) X.env = (eval o X.env >>= fun ov => standAt apos.atName >>= fun _ =>
      holding [ov] (getMethod ov m pl) >>= fun q =>
        callWith pos q.1 q.2 (backTo pos (starEach (e :: es) X.env)) (backToKw pos (keywordEach [] X.env))) := by rfl) :
    PE X (.Call (.Attribute o m apos) (e :: es) [] pos) (tMeth C m sp [] E ta t) := by
  obtain ⟨f, fd, hm, F, hb⟩ := c.ex
  constructor
  intro pins s σ H Q I h
  refine PySem.W.methodCall_KW (pl := pl) (thn (he.run pins s σ H _ I h) ?_) ht
  rintro u s1 ⟨x, H1, I1, rx, a, dx, fs, rfl, ea, l, q⟩
  obtain rfl : u = Value.ref a := rx
  refine getmeth_ok I1 ea c.cl hm l ?_
  refine PySem.W.callWith_K (first := [.ref a]) (h₀ := X.base) I.ok.mod.kin hm.kp (thn (ha.run pos pins s1 σ H1 _ I1 q) ?_) hst hpl
  rintro us s2 ⟨vs, H2, I2, r, q2⟩
  rw [List.append_nil] at q2
  exact ⟨I2.kIn, run_fnG (ks := []) (ws := []) (us := .ref a :: us) (vs := .ref a :: vs) F hq (hr.mono hk) (kb_of hb) hx I2 (.cons rfl r) .nil q2⟩
theorem pe_m0 {pl : Sem Bool} (c : Met X.prog X.w X.K X.mg X.base CX k C m ps sp) (hx : Passes CX X E) (hq : Qt X.A) (hr : Room j X.A) (hk : k ≤ j)
    (he : PE X o ta)
    (ht : eval (.Call (.Attribute o m apos) [] [] pos) X.env = (eval o X.env >>= fun ov => standAt apos.atName >>= fun _ =>
      holding [ov] (getMethod ov m pl) >>= fun q =>
        callWith pos q.1 q.2 (backTo pos (starEach [] X.env)) (backToKw pos (keywordEach [] X.env))) := by rfl) :
    PE X (.Call (.Attribute o m apos) [] [] pos) (tMeth C m sp [] E ta tNil) := by
  obtain ⟨f, fd, hm, F, hb⟩ := c.ex
  constructor
  intro pins s σ H Q I h
  refine PySem.W.methodCall_KW (pl := pl) (thn (he.run pins s σ H _ I h) ?_) ht
  rintro u s1 ⟨x, H1, I1, rx, a, dx, fs, rfl, ea, l, q⟩
  obtain rfl : u = Value.ref a := rx
  refine getmeth_ok I1 ea c.cl hm l ?_
  exact PySem.W.callWith_K0 (first := [.ref a]) I1.kIn hm.kp (run_fnG (ks := []) (ws := []) (us := [.ref a]) (vs := [.ref a]) F hq (hr.mono hk) (kb_of hb) hx I1 (.cons rfl .nil) .nil q)
end
end Kit

/-! a tuple from behind; a tuple times nought or one -/
namespace X7
open PySem PySem.Spec PyProof.Rows L2 Kit HT
section
variable {prog : Program} {w : World} {A : Around} {E : Value → Shared → Prop} {s : Shared}
theorem adjust_rev (n : Nat) : Builtin.Slice.sliceAdjust none none (-1) (n : Int) = ((n : Int) - 1, -1) := by
  unfold Builtin.Slice.sliceAdjust
  rfl
theorem places_rev (n : Nat) : Builtin.Slice.slicePlaces ((n : Int) - 1) (-1) (-1) = n := by
  unfold Builtin.Slice.slicePlaces
  have h1 : ¬ ((-1 : Int) > 0) := by omega
  have e1 : (- -1 : Int) = 1 := by decide
  simp only [h1, if_false, e1, Int.ediv_one]
  split <;> omega
theorem pick_rev (xs : Array Value) : ((List.range xs.size).filterMap fun (m : Nat) => xs[(((xs.size : Int) - 1) + (m : Int) * -1).toNat]?).toArray = xs.toList.reverse.toArray := by
  have e : (fun (m : Nat) => xs[(((xs.size : Int) - 1) + (m : Int) * -1).toNat]?) = (fun i => xs[i]?) ∘ fun m => xs.size - 1 - m := by
    funext m
    show xs[(((xs.size : Int) - 1) + (m : Int) * -1).toNat]? = xs[xs.size - 1 - m]?
    congr 1
    omega
  rw [e, ← List.filterMap_map, PySem.W.krv_range, List.filterMap_reverse, PySem.W.krv_all]
theorem sliceApplied_rev {sl : Addr} {vs : Value} {n : Nat} {Q : Int × Int × Nat → Shared → Prop} (hs : s.heap.IsSliceOf sl .none .none vs) (ps : IsPart vs (some (-1)))
    (h : Q ((n : Int) - 1, -1, n) s) : wpAny (model prog w) A (Builtin.Slice.sliceApplied (.ref sl) (pure (n : Int))) Q E s := by
  obtain ⟨os, hos, hcs, hds⟩ := id hs
  unfold Builtin.Slice.sliceApplied Builtin.Slice.sliceFields
  refine wpAny_bind (wpAny_bind (wpAny_field hos hds (x := .none) rfl (wpAny_bind (wpAny_field hos hds (x := .none) rfl (wpAny_bind (wpAny_field hos hds (x := vs) rfl (wpAny_pure ?_)))))))
  refine wpAny_bind (slicePart_ ps ?_)
  show wpAny _ _ (if ((-1 : Int) == 0) = true then _ else _) _ _ s
  rw [if_neg (by decide)]
  refine wpAny_bind (slicePart_none (wpAny_bind (slicePart_none (wpAny_bind (wpAny_pure ?_)))))
  show wpAny _ _ (match Builtin.Slice.sliceAdjust none none (-1) (n : Int) with | (lo, hi) => pure (lo, (-1 : Int), Builtin.Slice.slicePlaces lo hi (-1))) _ _ s
  rw [adjust_rev n]
  show wpAny _ _ (pure ((n : Int) - 1, (-1 : Int), Builtin.Slice.slicePlaces ((n : Int) - 1) (-1) (-1))) _ _ s
  rw [places_rev]
  exact wpAny_pure h
theorem getItem_tuple_rev {t sl : Addr} {items : Array Value} {vs : Value} {Q : Value → Shared → Prop} (ht : IsTup s.heap t items) (hs : s.heap.IsSliceOf sl .none .none vs) (ps : IsPart vs (some (-1)))
    (h : Q (.ref s.heap.objs.size) { s with heap := s.heap.push { cls := .type "tuple", data := .seq items.toList.reverse.toArray } })
    (hsz : items.size ≤ sizeLine) : wpAny (model prog w) A (getItem (.ref t) (.ref sl)) Q E s := by
  have htake : sizeOk (.seq items.toList.reverse.toArray) := by
    show items.toList.reverse.toArray.size ≤ sizeLine
    rw [List.size_toArray, List.length_reverse, Array.length_toList]
    exact hsz
  obtain ⟨os, hos, hcs, hds⟩ := id hs
  have hTs : s.TypeIs (.ref sl) "slice" := ⟨os, hos, hcs⟩
  unfold getItem
  try with_reducible refine wpAny_holding ?_
  first | refine wpAny_bind (wpAny_pure ?_) | skip
  refine wpAny_bind (wpAny_sequenceKey ht.typeIs (by decide) ?_)
  refine wpAny_bind (wpAny_callSpecial?_slot (name := Str.ofString "__getitem__") ht.typeIs PyProof.Rows.slot_tuple_getitem
    (wpAny_call_entry PyProof.Rows.slot_tuple_getitem ht.typeIs entry_tuple_getitem ?_ (args_tuple_getitem _ _)))
  show wpAny _ _ (Builtin.Tuple.tupleItemsOf (.ref t) >>= _) _ _ s
  refine wpAny_bind (tupleItemsOf_ ht ?_)
  refine wpAny_bind (wpAny_typeOf hTs ?_)
  rw [if_pos (by decide)]
  refine wpAny_bind (sliceApplied_rev hs ps ?_)
  have hno : ¬ ((((items.size : Int) - 1) == 0 && (-1 : Int) == 1 && items.size == items.size) = true) := by
    intro q
    rw [Bool.and_eq_true, Bool.and_eq_true] at q
    exact absurd (eq_of_beq q.1.2) (by decide)
  show wpAny _ _ (if (((items.size : Int) - 1) == 0 && (-1 : Int) == 1 && items.size == items.size) = true then _ else _) _ _ s
  rw [if_neg hno, pick_rev]
  first
    | exact wpAny_bind (m := Builtin.Tuple.tupleExact _) (wpAny_newObj_type (wpAny_pure ⟨_, rfl, wpAny_pure h⟩) htake)
    | exact wpAny_bind (m := Builtin.Tuple.tupleExact _) (wpAny_newObj_type (wpAny_bind (wpAny_pure (wpAny_pure ⟨_, rfl, wpAny_pure h⟩))) htake)
    | exact wpAny_bind (wpAny_bind (m := Builtin.Tuple.tupleExact _) (wpAny_newObj_type (wpAny_pure (wpAny_pure ⟨_, rfl, wpAny_pure h⟩)) htake))
    | exact wpAny_bind (wpAny_bind (m := Builtin.Tuple.tupleExact _) (wpAny_newObj_type (wpAny_pure ⟨_, rfl, wpAny_pure h⟩) htake))
end
section
variable {X : Cx}
def tRevT (K : PySem.W.Frag) (te : TE) : TE := fun σ H Q => te σ H fun x H1 => ∃ a xs, x = .ref a ∧ SqT K H1 a xs ∧ ∀ p, H1 p = none → Q (.ref p) (upd H1 p (.tup xs.reverse))
theorem pe_revT {e : Expr} {te : TE} {k : Nat} {p1 p2 p3 pos : Pos} (he : PE X e te) : PE X (.Subscript e (.Slice none none (some (.UnaryOp .USub (.Constant (.int 1) k p1) p2)) p3) pos) (tRevT X.K te) := by
  refine ⟨fun pins s σ H Q I h => ?_⟩
  refine Subscript_ (thn (he.run pins s σ H _ I h) fun v s1 ⟨x, H1, I1, r1, q1⟩ => ?_)
  obtain ⟨a, xs, ex, hx, q⟩ := q1
  subst ex
  cases r1
  have hst : PO X (some (.UnaryOp .USub (.Constant (.int 1) k p1) p2)) (tPart (tUn (rU fun i => .int (-i)) (tC (.int 1)))) := po_some (pe_un un_neg pe_int)
  refine wpAny_Slice (thn (po_none.run pins s1 σ H1 (fun o H2 => o = none ∧ H2 = H1) I1 ⟨rfl, rfl⟩) fun vl s2 ⟨l, H2, I2, pl, el, e2⟩ => ?_)
  subst el e2
  refine thn (po_none.run pins s2 σ H2 (fun o H3 => o = none ∧ H3 = H2) I2 ⟨rfl, rfl⟩) fun vu s3 ⟨u, H3, I3, pu, eu, e3⟩ => ?_
  subst eu e3
  refine thn (hst.run pins s3 σ H3 (fun o H4 => o = some (-1) ∧ H4 = H3) I3 ⟨1, rfl, -1, rfl, rfl, rfl⟩) fun vs s4 ⟨o, H4, I4, ps, eo, e4⟩ => ?_
  subst eo e4
  have I5 : Inv X pins σ H4 { s4 with heap := s4.heap.push { cls := .type "slice", data := .fields #[vl, vu, vs] } } := I4.kept (t' := s4.toks) fun b ob q => Heap.get?_push_of_some _ q
  obtain ⟨its, r, ht, hz⟩ := I5.tuple hx
  have hlen : its.toArray.size = xs.length := by rw [List.size_toArray]; exact r.length.symm
  cases pl
  cases pu
  show wpAny (model X.prog X.w) X.A (subscriptTail e (.Slice none none (some (.UnaryOp .USub (.Constant (.int 1) k p1) p2)) p3) (.ref a) (.ref s4.heap.objs.size)) (EP X pins σ Q) X.xe { s4 with heap := s4.heap.push { cls := .type "slice", data := .fields #[.none, .none, vs] } }
  refine tail_any (ops := [.ref a, .ref s4.heap.objs.size]) ht.typeIs (PyProof.Rows.slot_tuple_getitem.lookup) ?_ (by with_unfolding_all rfl)
  refine getItem_tuple_rev ht (Heap.IsSliceOf.new _ .none .none vs) ps ?_ (by rw [hlen]; exact hz)
  refine ⟨.ref _, _, I5.laid (t' := s4.toks) (o := .tup xs.reverse) (fun b ob q => Heap.get?_push_of_some _ q) (Nat.le_refl _) ?_, rfl, q _ (I5.hok.fresh (Nat.le_refl _))⟩
  exact ⟨by rw [List.length_reverse]; exact hz, _, r.reverse, IsTup.new _ _⟩
end
end X7

namespace X7
open PySem PySem.Spec PyProof.Rows L2 Kit HT
theorem tuple_mul1 (l : Addr) (items : Array Value) (n : Nat) (dd : Option Addr) (sl : Array (Option Value)) (u : Tok) :
    Meets (Builtin.«tuple.__mul__» ⟨[.ref l, .int 1 u], []⟩) (fun _ R s => s.heap.get? l = some { cls := .type "tuple", dict := dd, data := .seq items n, slots := sl } ∧
      R (.ok (.ret (Value.ref l))) s) :=
  .of_wp fun prog w A R s h => by
    obtain ⟨hp, g, d, tk, os⟩ := s
    obtain ⟨hl, h⟩ := h
    have f1 := AutoSeq1.idx_int
    have c1 : (items.isEmpty || (1 : Int) == 1) = true := by simp
    wp_walk using wpAny_loadPart' hl
    repeat (first
      | (refine wpAny_ite_false (decide_eq_false (by decide)) ?_; wp_walk using wpAny_loadPart' hl)
      | (refine wpAny_ite_true (decide_eq_true (by rw [c1])) ?_; wp_walk using wpAny_loadPart' hl))
    exact ⟨_, rfl, h⟩
theorem tuple_mul0 (l : Addr) (items : Array Value) (n : Nat) (dd : Option Addr) (sl : Array (Option Value)) (u : Tok) (hi : items.isEmpty = false) :
    Meets (Builtin.«tuple.__mul__» ⟨[.ref l, .int 0 u], []⟩) (fun _ R s => s.heap.get? l = some { cls := .type "tuple", dict := dd, data := .seq items n, slots := sl } ∧
      R (.ok (.ret (Value.ref s.heap.objs.size))) { s with heap := s.heap.push { cls := Value.type "tuple", data := Data.seq #[] }, toks := s.toks }) :=
  .of_wp fun prog w A R s h => by
    obtain ⟨hp, g, d, tk, os⟩ := s
    obtain ⟨hl, h⟩ := h
    have f1 := AutoSeq1.idx_int
    have c1 : ¬ ((items.isEmpty || (0 : Int) == 1) = true) := by rw [hi]; decide
    have c2 : (decide ((0 : Int) ≤ 0) || items.isEmpty) = true := by simp
    wp_walk using wpAny_loadPart' hl
    repeat (first
      | (refine wpAny_ite_false (decide_eq_false c1) ?_; wp_walk using wpAny_loadPart' hl)
      | (refine wpAny_ite_false (decide_eq_false (by decide)) ?_; wp_walk using wpAny_loadPart' hl)
      | (refine wpAny_ite_true (decide_eq_true c2) ?_; wp_walk using wpAny_loadPart' hl))
    exact ⟨_, rfl, h⟩
def rRepT01 (K : PySem.W.Frag) : R2 := fun x y H Q => ∃ l k xs, x = .ref l ∧ y = .int k ∧ SqT K H l xs ∧ xs ≠ [] ∧ (k = 1 ∨ k = 0) ∧ (k = 1 → Q (.ref l) H) ∧ (k = 0 → ∀ p, H p = none → Q (.ref p) (upd H p (.tup [])))
theorem op_repT01 {X : Cx} : OpR X (binaryOp .Mult) (rRepT01 X.K) := by
  intro pins s σ H x y v u Q I rx ry h
  obtain ⟨l, k, xs, rfl, rfl, hT, hne, hk, q1, q0⟩ := h
  cases rx
  obtain ⟨t, rfl⟩ := ry
  obtain ⟨its, r, ⟨⟨cls, dd, data, sl⟩, ho, hc, n, hd⟩, hs⟩ := I.tuple hT
  simp only at hc hd
  subst hc hd
  have hle : its.length = xs.length := r.length.symm
  have hn : its ≠ [] := fun e => hne (by
    rw [e] at hle
    exact List.eq_nil_of_length_eq_zero hle.symm)
  have hi : its.toArray.isEmpty = false := by
    cases its with
    | nil => exact absurd rfl hn
    | cons a b => rfl
  rcases hk with rfl | rfl
  · exact wpAny_binaryOp_repeat_ref (T := "tuple") (U := "int") (by decide) ⟨_, ho, rfl⟩ (fun s' => typeIs_int s' 1 t) noFill_tuple_mul F.fills_int_mul F.slot_int_rmul repeat_tuple F.slot_int_index.lookup
      (call_meets F.slot_int_rmul (typeIs_int s 1 t) F.entry_int_rmul (F.args_int_rmul_2 _ _) (int_rmul_tuple 1 t l its.toArray n dd sl)
        ⟨ho, rfl, ⟨_, ho, rfl⟩, call_meets F.slot_tuple_mul ⟨_, ho, rfl⟩ F.entry_tuple_mul (F.args_tuple_mul_2 _ _) (tuple_mul1 l its.toArray n dd sl t) ⟨ho, ⟨.ref l, H, I, rfl, q1 rfl⟩⟩⟩)
  · refine wpAny_binaryOp_repeat_ref (T := "tuple") (U := "int") (by decide) ⟨_, ho, rfl⟩ (fun s' => typeIs_int s' 0 t) noFill_tuple_mul F.fills_int_mul F.slot_int_rmul repeat_tuple F.slot_int_index.lookup
      (call_meets F.slot_int_rmul (typeIs_int s 0 t) F.entry_int_rmul (F.args_int_rmul_2 _ _) (int_rmul_tuple 0 t l its.toArray n dd sl)
        ⟨ho, rfl, ⟨_, ho, rfl⟩, call_meets F.slot_tuple_mul ⟨_, ho, rfl⟩ F.entry_tuple_mul (F.args_tuple_mul_2 _ _) (tuple_mul0 l its.toArray n dd sl t hi) ⟨ho, ?_⟩⟩)
    refine ⟨.ref s.heap.objs.size, _, I.laid (t' := s.toks) (o := .tup []) (fun b ob q => Heap.get?_push_of_some _ q) (Nat.le_refl _) ?_, rfl, q0 rfl _ (I.hok.fresh (Nat.le_refl _))⟩
    exact ⟨by decide, _, .nil, IsTup.new _ _⟩
end X7

namespace K67
open PySem PySem.Spec PyProof.Rows L2 Kit
def topS (i : Nat) : Stmt := PySem.Challenge.pw_wiretongue_k67_things_there_and_back.main.body.getD i (.Pass ⟨0, 0, 0, 0⟩)
abbrev s_word_of : Stmt := topS 5
abbrev N_word_of : List Str := ["part"]
theorem S_word_of : FnScope N_word_of ["part"] (defScope s_word_of) := ⟨rfl, rfl, rfl, by decide +kernel, rfl, by decide +kernel, by decide +kernel⟩
abbrev s_show_thing : Stmt := topS 6
abbrev N_show_thing : List Str := ["thing", "words", "coming", "part", "is_word", "inner"]
theorem S_show_thing : FnScope N_show_thing ["thing"] (defScope s_show_thing) := ⟨rfl, rfl, rfl, by decide +kernel, rfl, by decide +kernel, by decide +kernel⟩
abbrev s_is_shown_number : Stmt := topS 7
abbrev N_is_shown_number : List Str := ["word", "figures", "sign"]
theorem S_is_shown_number : FnScope N_is_shown_number ["word"] (defScope s_is_shown_number) := ⟨rfl, rfl, rfl, by decide +kernel, rfl, by decide +kernel, by decide +kernel⟩
abbrev s_is_shown_text : Stmt := topS 8
abbrev N_is_shown_text : List Str := ["word", "sign"]
theorem S_is_shown_text : FnScope N_is_shown_text ["word"] (defScope s_is_shown_text) := ⟨rfl, rfl, rfl, by decide +kernel, rfl, by decide +kernel, by decide +kernel⟩
abbrev s_read_word : Stmt := topS 9
abbrev N_read_word : List Str := ["word", "k"]
theorem S_read_word : FnScope N_read_word ["word", "k"] (defScope s_read_word) := ⟨rfl, rfl, rfl, by decide +kernel, rfl, by decide +kernel, by decide +kernel⟩
abbrev s_read_thing : Stmt := topS 10
abbrev N_read_thing : List Str := ["text", "words", "parts", "k", "word", "told"]
theorem S_read_thing : FnScope N_read_thing ["text"] (defScope s_read_thing) := ⟨rfl, rfl, rfl, by decide +kernel, rfl, by decide +kernel, by decide +kernel⟩
abbrev s_l_deck : Stmt := topS 12
abbrev N_l_deck : List Str := ["_law_script", "_law_cells", "_law_seed", "_law_cell"]
theorem S_l_deck : FnScope N_l_deck ["_law_script"] (defScope s_l_deck) := ⟨rfl, rfl, rfl, by decide +kernel, rfl, by decide +kernel, by decide +kernel⟩
abbrev s_l_draw : Stmt := topS 13
abbrev N_l_draw : List Str := ["_law_deck_here", "_law_sides", "_law_at", "_law_number", "_law_cell"]
theorem S_l_draw : FnScope N_l_draw ["_law_deck_here", "_law_sides"] (defScope s_l_draw) := ⟨rfl, rfl, rfl, by decide +kernel, rfl, by decide +kernel, by decide +kernel⟩
abbrev s_l_thing : Stmt := topS 14
abbrev N_l_thing : List Str := ["_law_deck_here", "_law_deep", "_law_way", "_law_k", "_law_signs", "_law_some"]
theorem S_l_thing : FnScope N_l_thing ["_law_deck_here", "_law_deep"] (defScope s_l_thing) := ⟨rfl, rfl, rfl, by decide +kernel, rfl, by decide +kernel, by decide +kernel⟩
abbrev s_l_words_of : Stmt := topS 15
abbrev N_l_words_of : List Str := ["_law_one", "_law_found", "_law_part"]
theorem S_l_words_of : FnScope N_l_words_of ["_law_one"] (defScope s_l_words_of) := ⟨rfl, rfl, rfl, by decide +kernel, rfl, by decide +kernel, by decide +kernel⟩
abbrev s_law : Stmt := topS 16
abbrev N_law : List Str := ["_law_script", "_law_deck_here", "_law_deep", "_law_some", "_law_k", "_law_nested", "_law_one", "_law_kept", "_law_line", "_law_found"]
theorem S_law : FnScope N_law ["_law_script"] (defScope s_law) := ⟨rfl, rfl, rfl, by decide +kernel, rfl, by decide +kernel, by decide +kernel⟩
structure Bi (mg : Str → Option Value) : Prop where
  isinstance_ : mg "isinstance" = none
  len_ : mg "len" = none
  list_ : mg "list" = none
  range_ : mg "range" = none
  repr_ : mg "repr" = none
  enumerate_ : mg "enumerate" = none
  tuple_ : mg "tuple" = none
  int_ : mg "int" = none
  str_ : mg "str" = none
  all_ : mg "all" = none
/-! ### the deck -/
abbrev big : Int := 170141183460469231731687303715884105727
def deckKv (c : Addr) (sd : Int) (t : Nat) : List (L2.Key × V) := [(.inr "cells", .ref c), (.inr "seed", .int sd), (.inr "at", .int (t : Int))]
structure Deck (H : Hp) (d c : Addr) (t : Nat) : Prop where
  ex : ∃ (cs : List Int) (sd : Int), H d = some (.dK (deckKv c sd t)) ∧ H c = some (.lst (cs.map V.int)) ∧ 0 ≤ sd ∧ sd < big ∧ cs.length ≤ 63 ∧
    ∀ z ∈ cs, Builtin.Int.intBits z ≤ 1048576


theorem put_at (c : Addr) (sd : Int) (t : Nat) (v : V) : putK (deckKv c sd t) (Sum.inr "at") v = [(.inr "cells", .ref c), (.inr "seed", .int sd), (.inr "at", v)] := by
  rfl
theorem get_at (c : Addr) (sd : Int) (t : Nat) : valV (deckKv c sd t) (Sum.inr "at") = some (.int (t : Int)) := rfl
theorem get_seed (c : Addr) (sd : Int) (t : Nat) : valV (deckKv c sd t) (Sum.inr "seed") = some (.int sd) := rfl
theorem get_cells (c : Addr) (sd : Int) (t : Nat) : valV (deckKv c sd t) (Sum.inr "cells") = some (.ref c) := rfl
theorem sl3 (c : Addr) (sd : Int) (t : Nat) : (deckKv c sd t).length < sizeLine := by
  show 3 < sizeLine
  decide

/-- what the draw makes of it is small again -/
theorem bits_lt {x : Int} {n : Nat} (h0 : 0 ≤ x) (h : x < 2 ^ n) : Builtin.Int.intBits x ≤ n := by
  refine PySem.intBits_le_iff.mpr ?_
  have e : ((2 ^ n : Nat) : Int) = (2 : Int) ^ n := by rw [Int.natCast_pow]; rfl
  have h2 : x < ((2 ^ n : Nat) : Int) := by rw [e]; exact h
  omega
theorem bits_add {x y : Int} {n : Nat} (hx : Builtin.Int.intBits x ≤ n) (hy : Builtin.Int.intBits y ≤ n) : Builtin.Int.intBits (x + y) ≤ n + 1 := by
  have h1 := PySem.intBits_le_iff.mp hx
  have h2 := PySem.intBits_le_iff.mp hy
  refine PySem.intBits_le_iff.mpr ?_
  have e : 2 ^ (n + 1) = 2 ^ n + 2 ^ n := by rw [Nat.pow_succ]; omega
  rw [e]
  omega

theorem snoc {α : Type} (cs : List α) : cs = [] ∨ ∃ l x, cs = l ++ [x] := by
  rcases List.eq_nil_or_concat cs with h | ⟨l, x, h⟩
  · exact .inl h
  · exact .inr ⟨l, x, by rw [h, List.concat_eq_append]⟩
theorem pos_big : (0 : Int) < 170141183460469231731687303715884105727 := by decide
theorem dp_ints {K : PySem.W.Frag} {H : Hp} : ∀ ns : List Int, DpAll K H (ns.map V.int) (ns.map PyData.int)
  | [] => .nil
  | n :: ns => .cons (.int n) (dp_ints ns)
def spDraw : Sp := fun vs H Q _ => ∃ (d c : Addr) (n : Int) (t : Nat), vs = [.ref d, .int n] ∧ 1 ≤ n ∧ n < 2000000000000 ∧ Deck H d c t ∧ t < 1000000000000 ∧
  ∀ (r : Int) (H' : Hp), 0 ≤ r → r < n → But d c H H' → Deck H' d c (t + 1) → Q (.int r) H'

/-! ### heaps and the deck -/
theorem Deck.ne {H : Hp} {d c : Addr} {t : Nat} (h : Deck H d c t) : d ≠ c := by
  obtain ⟨cs, sd, h1, h2, _⟩ := h.ex
  exact ne_of h1 h2 (by intro z; cases z)
theorem Deck.keep {H H' : Hp} {d c : Addr} {t : Nat} (h : Deck H d c t) (hd : ∀ o, H d = some o → H' d = some o) (hc : ∀ o, H c = some o → H' c = some o) : Deck H' d c t := by
  obtain ⟨cs, sd, h1, h2, h3⟩ := h.ex
  exact ⟨cs, sd, hd _ h1, hc _ h2, h3⟩
theorem Deck.same {H H' : Hp} {d c : Addr} {t : Nat} (h : Deck H d c t) (s : Same H H') : Deck H' d c t := h.keep (fun o e => s _ o e) (fun o e => s _ o e)
theorem Deck.here {H : Hp} {d c : Addr} {t : Nat} (h : Deck H d c t) : H d ≠ none ∧ H c ≠ none := by
  obtain ⟨cs, sd, h1, h2, _⟩ := h.ex
  rw [h1, h2]
  exact ⟨fun z => (by cases z), fun z => (by cases z)⟩
theorem Deck.mut {H : Hp} {d c p : Addr} {o : HO} {t : Nat} (h : Deck H d c t) (n1 : d ≠ p) (n2 : c ≠ p) : Deck (upd H p o) d c t :=
  h.keep (fun o e => by rw [upd_ne n1]; exact e) (fun o e => by rw [upd_ne n2]; exact e)
theorem Deck.new {H : Hp} {d c p : Addr} {o : HO} {t : Nat} (h : Deck H d c t) (n : H p = none) : Deck (upd H p o) d c t := h.same (same_new n)
theorem Deck.free {H : Hp} {d c p : Addr} {t : Nat} (h : Deck H d c t) (n : H p = none) : p ≠ d ∧ p ≠ c :=
  ⟨fun z => h.here.1 (by rw [← z]; exact n), fun z => h.here.2 (by rw [← z]; exact n)⟩

/-! ### promises -/
def spDeck (K : PySem.W.Frag) : Sp := fun vs H Q _ => ∃ (a : Addr) (ns : List Int), vs = [.ref a] ∧ SqL K H a (ns.map V.int) ∧ ns.length ≤ 63 ∧
  (∀ z ∈ ns, Builtin.Int.intBits z ≤ 1048576) ∧ ∀ (d c : Addr) (H' : Hp), Same H H' → H d = none → H c = none → Deck H' d c 0 → Q (.ref d) H'
def spPick (K : PySem.W.Frag) : Sp := fun vs H Q _ => ∃ (d c : Addr) (t : Nat) (v : V) (xs : List V), vs = [.ref d, v] ∧ Sq K H v xs ∧ 1 ≤ xs.length ∧ xs.length < 1000000000 ∧
  v ≠ .ref d ∧ v ≠ .ref c ∧ Deck H d c t ∧ t < 1000000000000 ∧
  ∀ (i : Nat) (x : V) (H' : Hp), xs[i]? = some x → But d c H H' → Deck H' d c (t + 1) → Q x H'
section
variable {P : Program} {w : World} {K : PySem.W.Frag} {mg : Str → Option Value} {base : Heap}
theorem ok_draw {f : Addr} {fd : FuncData} (D : DefAt K mg "_law_draw" ["_law_deck_here", "_law_sides"] s_l_draw f fd) :
    Cal P w K mg base L2.CX0 1 "_law_draw" ["_law_deck_here", "_law_sides"] spDraw := by
  have S := S_l_draw
  refine cal_of D.fn D.mgf D.bs D.kbs S (fun vs H Q E h => ?_) (fun cdv A outer s H vs Q E hq hr h => ?_)
  · obtain ⟨d, c, n, t, rfl, _⟩ := h
    rfl
  · obtain ⟨d, c, n, t, rfl, hn1, hn2, ⟨cs, sd, hd, hc, hs0, hs1, hl, hz⟩, ht, q⟩ := h
    refine ⟨_, (pss_cons (ps_dput (hu_of hr) (pv 0) pe_str (pe_op op_add (pe_dget (hu_of hr) (pv 0) pe_str (fun _ _ => rfl)) pe_int) rfl)
 (pss_cons (ps_set (i := 2) S.nd rfl (.inl rfl) (pe_dget (hu_of hr) (pv 0) pe_str (fun _ _ => rfl)))
 (pss_cons (ps_set (i := 3) S.nd rfl (.inl rfl) (pe_op op_add (pe_dget (hu_of hr) (pv 0) pe_str (fun _ _ => rfl)) (pe_op op_mulB (pe_op op_mulB pe_int (pv 2)) (pv 2))))
 (C8.pss_cut (ps_if (pt_cmpR (op_neNil (room200 hr)) (pe_dget (hu_of hr) (pv 0) pe_str (fun _ _ => rfl)) (pe_lst pa_nil) (nomark _))
  (pss_cons (ps_set (i := 4) S.nd rfl (.inl rfl) (pe_bm0 PySem.F.plainAttrs_list PySem.F.slot_list_pop PySem.F.type_list_pop (mt_pop) (pe_dget (hu_of hr) (pv 0) pe_str (fun _ _ => rfl))))
 (pss_cons (ps_if (pt_cmpR op_ge (pv 4) (pe_op op_pow pe_int pe_int) (nomark _))
  (pss_cons (ps_expr (pe_bm PySem.F.plainAttrs_list PySem.F.slot_list_append PySem.F.type_list_append mt_append (pe_dget (hu_of hr) (pv 0) pe_str (fun _ _ => rfl)) (pa_cons (pe_op op_fdivW (pv 4) (pv 1)) pa_nil)))
 (pss_one (ps_ret (pe_op op_mod (pv 4) (pv 1)))))
  pss_nil)
 (pss_one (ps_set (i := 3) S.nd rfl (.inl rfl) (pe_op op_add (pv 3) (pe_op op_mulB pe_int (pv 4)))))))
  pss_nil)
 (pss_cons (ps_set (i := 3) S.nd rfl (.inl rfl) (pe_op op_mod (pe_op op_mulB (pv 3) (pe_op op_add (pv 3) (pe_op op_mulB pe_int (pv 2)))) pe_int))
 (pss_cons (ps_set (i := 3) S.nd rfl (.inl rfl) (pe_op op_mod (pe_op op_add (pe_op op_mulB (pv 3) (pv 3)) (pe_op op_mulB pe_int (pv 2))) pe_int))
 (pss_one (ps_ret (pe_op op_mod (pe_op op_fdivN (pv 3) pe_int) (pv 1)))))))))), ?_⟩
    have ndc : c ≠ d := ne_of hc hd (by intro z; cases z)
    have g1 : DGet H d (.str "at") (some (.int (t : Int))) := DGet.k (k := Sum.inr "at") hd
    refine ⟨.ref d, rfl, d, _, rfl, g1, t, 1, rfl, rfl, .ref d, rfl, d, _, rfl, DPut.k (k := Sum.inr "at") hd (sl3 c sd t), ?_⟩
    rw [put_at]
    have hd1 : (upd H d (.dK (deckKv c sd (t + 1)))) d = some (.dK (deckKv c sd (t + 1))) := upd_same
    have hc1 : (upd H d (.dK (deckKv c sd (t + 1)))) c = some (.lst (cs.map V.int)) := by
      rw [upd_ne ndc]
      exact hc
    have bt1 : But d c H (upd H d (.dK (deckKv c sd (t + 1)))) := fun b o h1 h2 e => by
      rw [upd_ne h1]
      exact e
    revert hd1 hc1 bt1
    show _ → _ → _ → tSeq _ _ _ _ (upd H d (.dK (deckKv c sd (t + 1))))
    generalize upd H d (.dK (deckKv c sd (t + 1))) = H1
    intro hd1 hc1 bt1
    have g2 : DGet H1 d (.str "at") (some (.int ((t + 1 : Nat) : Int))) := DGet.k (k := Sum.inr "at") hd1
    have g3 : DGet H1 d (.str "seed") (some (.int sd)) := DGet.k (k := Sum.inr "seed") hd1
    have g4 : DGet H1 d (.str "cells") (some (.ref c)) := DGet.k (k := Sum.inr "cells") hd1
    refine ⟨.ref d, rfl, d, _, rfl, g2, ?_⟩
    refine ⟨.ref d, rfl, d, _, rfl, g3, ?_⟩
    refine ⟨.int ((t + 1 : Nat) : Int), rfl, 7919, ((t + 1 : Nat) : Int), rfl, rfl, ?_, .int ((t + 1 : Nat) : Int), rfl, 7919 * ((t + 1 : Nat) : Int), ((t + 1 : Nat) : Int), rfl, rfl, ?_, sd, _, rfl, rfl, ?_⟩
    · exact IntMulOk.of_left (by decide)
    · exact IntMulOk.of_right (intBits_le_64 (by omega) (by omega))
    have T1 : (0 : Int) ≤ ((t + 1 : Nat) : Int) ∧ ((t + 1 : Nat) : Int) < 2 ^ 41 := by omega
    have T2 : (0 : Int) ≤ 7919 * ((t + 1 : Nat) : Int) * ((t + 1 : Nat) : Int) ∧ 7919 * ((t + 1 : Nat) : Int) * ((t + 1 : Nat) : Int) < 2 ^ 100 := by
      generalize ((t + 1 : Nat) : Int) = k at T1
      have h1 : (0 : Int) ≤ 7919 * k := by omega
      refine ⟨Int.mul_nonneg h1 T1.1, ?_⟩
      have h3 : 7919 * k * k ≤ 7919 * k * 2 ^ 41 := Int.mul_le_mul_of_nonneg_left (by omega) h1
      omega
    refine ⟨fun σ' H3 => ∃ (m : Int) (x4 : Option V), σ' = [some (.ref d), some (.int n), some (.int ((t + 1 : Nat) : Int)), some (.int m), x4] ∧ Builtin.Int.intBits m ≤ 1048700 ∧
      But d c H H3 ∧ Deck H3 d c (t + 1), ?_, ?_⟩
    · refine ⟨.ref d, rfl, d, _, rfl, g4, ?_⟩
      refine ⟨Nat.zero_le _, fun p np => ?_⟩
      have npc : c ≠ p := ne_of_none hc1 np
      have hcp : (upd H1 p (.lst [])) c = some (.lst (cs.map V.int)) := by
        rw [upd_ne npc]
        exact hc1
      have npd : d ≠ p := ne_of_none hd1 np
      have hdp : (upd H1 p (.lst [])) d = some (.dK (deckKv c sd (t + 1))) := by
        rw [upd_ne npd]
        exact hd1
      have btp : But d c H (upd H1 p (.lst [])) := fun b o h1 h2 e => by
        have e1 := bt1 b o h1 h2 e
        rw [upd_ne (ne_of_none e1 np)]
        exact e1
      refine ⟨c, p, _, rfl, rfl, .inl (.inl hcp), .inl (.inl upd_same), _, rfl, ?_⟩
      revert hcp hdp btp
      generalize upd H1 p (.lst []) = H2
      intro hc2 hd2 bt2
      have bm : Builtin.Int.intBits (sd + 7919 * ((t + 1 : Nat) : Int) * ((t + 1 : Nat) : Int)) ≤ 200 := by
        have hb : big < 2 ^ 127 := by decide
        exact bits_lt (by omega) (by omega)
      rcases snoc cs with rfl | ⟨l, x, rfl⟩
      · exact iteF ⟨_, _, rfl, Nat.le_trans bm (by decide), bt2, ⟨[], sd, hd2, hc2, hs0, hs1, hl, hz⟩⟩
      · have ne0 : ((l ++ [x]).map V.int).isEmpty = false := by
          cases l <;> rfl
        rw [ne0]
        refine iteT ?_
        have g5 : DGet H2 d (.str "cells") (some (.ref c)) := DGet.k (k := Sum.inr "cells") hd2
        have hx : Builtin.Int.intBits x ≤ 1048576 := hz x (List.mem_append_right _ (List.mem_singleton.mpr rfl))
        have hl' : l.length < 63 := by
          have e := hl
          rw [List.length_append, List.length_singleton] at e
          omega
        have hz' : ∀ z ∈ l, Builtin.Int.intBits z ≤ 1048576 := fun z hm => hz z (List.mem_append_left _ hm)
        have lst1 : ((l ++ [x]).map V.int)[((l ++ [x]).map V.int).length - 1]? = some (.int x) := by
          rw [List.map_append, List.length_append, List.length_map]
          show (l.map V.int ++ [V.int x])[l.length + 1 - 1]? = _
          rw [Nat.add_sub_cancel, List.getElem?_append_right (by rw [List.length_map]; exact Nat.le_refl _), List.length_map, Nat.sub_self]
          rfl
        have drop1 : ((l ++ [x]).map V.int).dropLast = l.map V.int := by
          rw [List.map_append]
          exact List.dropLast_concat
        -- the last cell is taken
        refine ⟨.ref d, rfl, d, _, rfl, g5, .inl ⟨rfl, _, .inl (.inl hc2)⟩, c, _, _, rfl, rfl, hc2, lst1, ?_⟩
        rw [drop1]
        have hd3 : (upd H2 c (.lst (l.map V.int))) d = some (.dK (deckKv c sd (t + 1))) := by
          rw [upd_ne ndc.symm]
          exact hd2
        have hc3 : (upd H2 c (.lst (l.map V.int))) c = some (.lst (l.map V.int)) := upd_same
        have bt3 : But d c H (upd H2 c (.lst (l.map V.int))) := fun b o h1 h2 e => by
          rw [upd_ne h2]
          exact bt2 b o h1 h2 e
        revert hd3 hc3 bt3
        show _ → _ → _ → tSeq _ _ _ _ (upd H2 c (.lst (l.map V.int)))
        generalize upd H2 c (.lst (l.map V.int)) = H3
        intro hd3 hc3 bt3
        refine ⟨.int x, rfl, 10, 18, rfl, rfl, ⟨by decide, by decide, by decide⟩, x, _, rfl, rfl, _, rfl, ite2 (fun _ => ?_) (fun _ => ?_)⟩
        · -- a digit of it
          have g6 : DGet H3 d (.str "cells") (some (.ref c)) := DGet.k (k := Sum.inr "cells") hd3
          refine ⟨.ref d, rfl, d, _, rfl, g6, .inl ⟨rfl, _, .inl (.inl hc3)⟩, .int x, rfl, .int n, rfl, x, n, rfl, rfl, wide_div (b := 41) (by omega) (by omega) (by decide) (by decide), c, _, _, rfl, rfl, hc3, ?_, ?_⟩
          · rw [List.length_map]
            exact Nat.lt_of_lt_of_le hl' (by decide)
          refine ⟨.int x, rfl, .int n, rfl, x, n, rfl, rfl, by omega, ?_⟩
          refine q _ _ (Int.emod_nonneg _ (by omega)) (Int.emod_lt_of_pos _ (by omega)) (fun b o h1 h2 e => ?_) ⟨l ++ [x / n], sd, ?_, ?_, hs0, hs1, ?_, ?_⟩
          · rw [upd_ne h2]
            exact bt3 b o h1 h2 e
          · rw [upd_ne ndc.symm]
            exact hd3
          · rw [upd_same, List.map_append]
            rfl
          · rw [List.length_append]
            exact hl'
          · intro z hm
            rcases List.mem_append.mp hm with h1 | h1
            · exact hz' z h1
            · rw [List.mem_singleton.mp h1]
              rw [← Int.fdiv_eq_ediv_of_nonneg _ (by omega : (0 : Int) ≤ n)]
              exact PySem.intBits_fdiv_le hx
        · refine ⟨_, rfl, .int x, rfl, 69621, x, rfl, rfl, .of_left (by decide), _, _, rfl, rfl, ?_⟩
          refine ⟨_, _, rfl, ?_, bt3, ⟨l, sd, hd3, hc3, hs0, hs1, by omega, hz'⟩⟩
          have b1 : Builtin.Int.intBits (69621 * x) ≤ 1048650 := Nat.le_trans (PySem.intBits_mul_le (bits_lt (n := 20) (by decide) (by decide)) hx) (by decide)
          exact Nat.le_trans (bits_add (Nat.le_trans bm (by decide)) b1) (by decide)
    · rintro σ' H3 ⟨m, x4, rfl, hm, bt, dk⟩
      have T3 : Builtin.Int.intBits (48271 * ((t + 1 : Nat) : Int)) ≤ 100 := bits_lt (by omega) (by omega)
      have T4 : Builtin.Int.intBits (m + 48271 * ((t + 1 : Nat) : Int)) ≤ 1048701 := bits_add hm (Nat.le_trans T3 (by decide))
      refine ⟨.int m, rfl, .int m, rfl, .int ((t + 1 : Nat) : Int), rfl, 48271, ((t + 1 : Nat) : Int), rfl, rfl, .of_left (by decide), ?_⟩
      refine ⟨m, _, rfl, rfl, m, m + 48271 * ((t + 1 : Nat) : Int), rfl, rfl, .of_le hm T4 (by decide), _, _, rfl, rfl, pos_big, ?_⟩
      have b1 : (0 : Int) ≤ m * (m + 48271 * ((t + 1 : Nat) : Int)) % big := Int.emod_nonneg _ (by decide)
      have b2 : m * (m + 48271 * ((t + 1 : Nat) : Int)) % big < big := Int.emod_lt_of_pos _ (by decide)
      show tSeq _ _ _ [some (.ref d), some (.int n), some (.int ((t + 1 : Nat) : Int)), some (.int (m * (m + 48271 * ((t + 1 : Nat) : Int)) % big)), x4] _
      generalize m * (m + 48271 * ((t + 1 : Nat) : Int)) % big = r at b1 b2
      have b3 : Builtin.Int.intBits r ≤ 127 := bits_lt b1 (Int.lt_of_lt_of_le b2 (by decide))
      refine ⟨.int r, rfl, .int r, rfl, r, r, rfl, rfl, .of_le b3 b3 (by decide), .int ((t + 1 : Nat) : Int), rfl, 104729, ((t + 1 : Nat) : Int), rfl, rfl, .of_left (by decide), _, _, rfl, rfl, _, _, rfl, rfl, pos_big, ?_⟩
      refine ⟨_, rfl, _, 1048576, rfl, rfl, ⟨by decide, by decide⟩, .int n, rfl, _, n, rfl, rfl, by omega, ?_⟩
      exact q _ _ (Int.emod_nonneg _ (by omega)) (Int.emod_lt_of_pos _ (by omega)) bt dk

theorem ok_deck {f : Addr} {fd : FuncData} (D : DefAt K mg "_law_deck" ["_law_script"] s_l_deck f fd) (M : Bi mg) :
    Cal P w K mg base L2.CX0 1 "_law_deck" ["_law_script"] (spDeck K) := by
  have S := S_l_deck
  refine cal_of D.fn D.mgf D.bs D.kbs S (fun vs H Q E h => ?_) (fun cdv A outer s H vs Q E hq hr h => ?_)
  · obtain ⟨a, ns, rfl, _⟩ := h
    rfl
  · obtain ⟨a, ns, rfl, hs, hl, hb, q⟩ := h
    refine ⟨_, (pss_cons (ps_set (i := 1) S.nd rfl (.inl rfl) (pe_callTy call_list_of (by rfl) M.list_ (by decide +kernel) (pa_cons (pe_slice sl_list (pv 0) po_none (po_some pe_int)) pa_nil)))
 (pss_cons (ps_set (i := 2) S.nd rfl (.inl rfl) (pe_op op_add pe_int (pe_callB call_len_seq (by rfl) M.len_ (by decide +kernel) (pa_cons (pv 1) pa_nil))))
 (pss_cons (ps_for PassesOwn.never rfl (pi_list (pv 1)) (pg_name (i := 3) S.nd rfl (.inl rfl))
  (pss_one (ps_set (i := 2) S.nd rfl (.inl rfl) (pe_op op_mod (pe_op op_add (pe_op op_mulB (pv 2) pe_int) (pv 3)) pe_int))))
 (pss_one (ps_ret (pe_disp (pps_cons pe_str (pe_revL (pv 1)) (pps_cons pe_str (pv 2) (pps_cons pe_str pe_int pps_nil))) (by rfl) (by rfl) (fun z => by cases z) (by decide))))))), ?_⟩
    -- list(script[:63])
    refine ⟨.ref a, rfl, 63, rfl, a, _, rfl, hs, fun p np => ?_⟩
    have e63 : cutV (ns.map V.int) none (some 63) = ns.map V.int := by
      unfold cutV
      rw [HT.sIx_none, show HT.sIx (ns.map V.int).length (ns.map V.int).length (some 63) = min 63 (ns.map V.int).length from HT.sIx_nat _ _ 63]
      rw [List.length_map, Nat.min_eq_right hl]
      exact List.take_of_length_le (by rw [List.drop_zero, List.length_map]; exact Nat.le_refl _)
    rw [e63]
    refine ⟨p, _, rfl, .inl (.inl (.inl upd_same)), fun l nl => ?_⟩
    have s1 := same_new (o := .lst (ns.map V.int)) np
    have s2 := s1.trans (same_new (o := .lst (ns.map V.int)) nl)
    have el : (upd (upd H p (.lst (ns.map V.int))) l (.lst (ns.map V.int))) l = some (.lst (ns.map V.int)) := upd_same
    have fl : H l = none := s1.free nl
    revert s2 el
    show _ → _ → tSeq _ _ _ _ (upd (upd H p (.lst (ns.map V.int))) l (.lst (ns.map V.int)))
    generalize upd (upd H p (.lst (ns.map V.int))) l (.lst (ns.map V.int)) = H1
    intro s2 el
    -- the seed
    refine ⟨.ref l, rfl, l, _, rfl, .inl (.inl (.inl el)), 104729, _, rfl, rfl, ?_⟩
    have hlen : (ns.map V.int).length = ns.length := List.length_map _
    rw [hlen]
    refine ⟨.ref l, rfl, l, rfl, ⟨_, .inl (.inl el)⟩, for_list (xs := ns.map V.int)
      (fun i σ H' => H' = H1 ∧ ∃ (sd : Int) (x : Option V), σ = [some (.ref a), some (.ref l), some (.int sd), x] ∧ 0 ≤ sd ∧ sd < big) ?_ ?_ ?_ ?_⟩
    · exact ⟨rfl, 104729 + (ns.length : Int), none, rfl, by omega, by
        show (104729 : Int) + _ < 170141183460469231731687303715884105727
        omega⟩
    · rintro i σ H' _ ⟨rfl, _⟩
      exact .inl (.inl el)
    · rintro i x σ H' hx ⟨rfl, sd, y, rfl, h0, h1⟩
      rw [List.getElem?_map] at hx
      cases hz : ns[i]? with
      | none =>
        rw [hz] at hx
        cases hx
      | some z =>
        rw [hz] at hx
        obtain rfl : V.int z = x := Option.some.inj hx
        have bz := hb z (List.mem_of_getElem? hz)
        refine ⟨_, rfl, sd, 1000003, rfl, rfl, .of_right (by decide), _, rfl, _, _, rfl, rfl, _, _, rfl, rfl, pos_big, rfl, _, _, rfl, ?_, ?_⟩
        · exact Int.emod_nonneg _ (by decide)
        · exact Int.emod_lt_of_pos _ (by decide)
    · rintro σ H' ⟨rfl, sd, y, rfl, h0, h1⟩
      -- the dict
      intro r nr
      have npr : l ≠ r := ne_of_none el nr
      have el2 : (upd H' r (.dK [])) l = some (.lst (ns.map V.int)) := by
        rw [upd_ne npr]
        exact el
      refine ⟨.ref l, rfl, l, _, rfl, .inl (.inl el2), fun c nc => ?_⟩
      have ncr : r ≠ c := fun z => by
        rw [← z, upd_same] at nc
        cases nc
      refine ⟨_, rfl, ?_⟩
      refine ⟨by rw [upd_ne ncr, upd_same], deckKv c sd 0, rfl, by show 3 ≤ 15; decide, ?_⟩
      have fc : H' c = none := by
        rw [upd_ne (fun z => ncr z.symm)] at nc
        exact nc
      have fr : H r = none := s2.free nr
      have fc2 : H c = none := s2.free fc
      refine q r c _ ?_ fr fc2 ⟨ns.reverse, sd, ?_, ?_, h0, h1, ?_, ?_⟩
      · exact same_mut (same_mut (same_mut s2 fr) fc2) fr
      · exact upd_same
      · rw [upd_ne ncr.symm, upd_same, List.map_reverse]
      · rw [List.length_reverse]
        exact hl
      · intro z hz
        exact hb z (List.mem_reverse.mp hz)

end
/-! ### data of tuples; the reader as a function -/
inductive Td
  | non
  | str (z : Str)
  | int (i : Int)
  | tup (xs : List Td)
inductive TdR (H : Hp) : Td → V → Prop
  | non : TdR H .non .non
  | str (z : Str) : TdR H (.str z) (.str z)
  | int (i : Int) : TdR H (.int i) (.int i)
  | tup {p : Addr} {xs : List Td} {vs : List V} (h : H p = some (.tup vs)) (hl : xs.length = vs.length)
      (ha : ∀ (i : Nat) x v, xs[i]? = some x → vs[i]? = some v → TdR H x v) : TdR H (.tup xs) (.ref p)
theorem TdR.keep {H H' : Hp} {t : Td} {v : V} (h : TdR H t v) (k : ∀ p vs, H p = some (.tup vs) → H' p = some (.tup vs)) : TdR H' t v := by
  induction h with
  | non => exact .non
  | str z => exact .str z
  | int i => exact .int i
  | tup e hl ha ih => exact .tup (k _ _ e) hl ih
def All2 (H : Hp) (ts : List Td) (vs : List V) : Prop := ts.length = vs.length ∧ ∀ (i : Nat) x v, ts[i]? = some x → vs[i]? = some v → TdR H x v
theorem All2.nil {H : Hp} : All2 H [] [] := ⟨rfl, fun i x v h => by cases h⟩
theorem All2.cons {H : Hp} {t : Td} {v : V} {ts : List Td} {vs : List V} (h : TdR H t v) (hs : All2 H ts vs) : All2 H (t :: ts) (v :: vs) := by
  refine ⟨by rw [List.length_cons, List.length_cons, hs.1], fun i x u h1 h2 => ?_⟩
  cases i with
  | zero =>
    cases h1
    cases h2
    exact h
  | succ i => exact hs.2 i x u h1 h2
theorem All2.snoc {H : Hp} {t : Td} {v : V} : ∀ {ts : List Td} {vs : List V}, All2 H ts vs → TdR H t v → All2 H (ts ++ [t]) (vs ++ [v])
  | [], [], _, h => .cons h .nil
  | [], _ :: _, hs, _ => absurd hs.1 (by simp)
  | _ :: _, [], hs, _ => absurd hs.1 (by simp)
  | a :: ts, b :: vs, hs, h => .cons (hs.2 0 _ _ rfl rfl) (All2.snoc ⟨Nat.succ.inj hs.1, fun i x u h1 h2 => hs.2 (i + 1) x u h1 h2⟩ h)
theorem All2.keep {H H' : Hp} {ts : List Td} {vs : List V} (h : All2 H ts vs) (k : ∀ p vs, H p = some (.tup vs) → H' p = some (.tup vs)) : All2 H' ts vs :=
  ⟨h.1, fun i x v h1 h2 => (h.2 i x v h1 h2).keep k⟩
theorem TdR.mk {H : Hp} {p : Addr} {ts : List Td} {vs : List V} (h : H p = some (.tup vs)) (a : All2 H ts vs) : TdR H (.tup ts) (.ref p) := .tup h a.1 a.2
theorem TdR.inv_tup {H : Hp} {ts : List Td} {v : V} (h : TdR H (.tup ts) v) : ∃ a vs, v = .ref a ∧ H a = some (.tup vs) ∧ All2 H ts vs := by
  cases h with
  | tup e hl ha => exact ⟨_, _, rfl, e, hl, ha⟩
theorem TdR.inv_str {H : Hp} {z : Str} {v : V} (h : TdR H (.str z) v) : v = .str z := by
  cases h
  rfl
theorem TdR.inv_int {H : Hp} {i : Int} {v : V} (h : TdR H (.int i) v) : v = .int i := by
  cases h
  rfl
theorem TdR.inv_non {H : Hp} {v : V} (h : TdR H .non v) : v = .non := by
  cases h
  rfl
theorem All2.inv_cons {H : Hp} {t : Td} {ts : List Td} {vs : List V} (h : All2 H (t :: ts) vs) : ∃ v vs', vs = v :: vs' ∧ TdR H t v ∧ All2 H ts vs' := by
  cases vs with
  | nil => exact absurd h.1 (by simp)
  | cons v vs => exact ⟨v, vs, rfl, h.2 0 _ _ rfl rfl, Nat.succ.inj h.1, fun i x u h1 h2 => h.2 (i + 1) x u h1 h2⟩
theorem All2.inv_nil {H : Hp} {vs : List V} (h : All2 H [] vs) : vs = [] := by
  cases vs with
  | nil => rfl
  | cons v vs => exact absurd h.1 (by simp)
theorem All2.same {H H' : Hp} {ts : List Td} {vs : List V} (h : All2 H ts vs) (s : Same H H') : All2 H' ts vs := h.keep fun p vs e => s p _ e
theorem TdR.same {H H' : Hp} {t : Td} {v : V} (h : TdR H t v) (s : Same H H') : TdR H' t v := h.keep fun p vs e => s p _ e
mutual
def pd : Td → PyData
  | .non => .none
  | .str z => .str z
  | .int i => .int i
  | .tup xs => .tuple (pdL xs)
def pdL : List Td → List PyData
  | [] => []
  | x :: xs => pd x :: pdL xs
end
theorem dpall {K : PySem.W.Frag} {H : Hp} : ∀ (xs : List Td) (vs : List V), xs.length = vs.length → (∀ (i : Nat) x v, xs[i]? = some x → vs[i]? = some v → Dp K H v (pd x)) → DpAll K H vs (pdL xs)
  | [], [], _, _ => by
    rw [pdL]
    exact .nil
  | [], _ :: _, h, _ => by cases h
  | _ :: _, [], h, _ => by cases h
  | x :: xs, v :: vs, h, ha => by
    rw [pdL]
    exact .cons (ha 0 x v rfl rfl) (dpall xs vs (Nat.succ.inj h) fun i y u h1 h2 => ha (i + 1) y u h1 h2)
theorem dp_of {K : PySem.W.Frag} {H : Hp} {t : Td} {v : V} (h : TdR H t v) : Dp K H v (pd t) := by
  induction h with
  | non =>
    rw [pd]
    exact .non
  | str z =>
    rw [pd]
    exact .str z
  | int i =>
    rw [pd]
    exact .int i
  | tup e hl ha ih =>
    rw [pd]
    exact .tup (.inl (.inl e)) (dpall _ _ hl ih)

end K67

namespace K67
open PySem PySem.Spec PyProof.Rows L2 Kit
/-! ### words of things -/
def istr (i : Int) : Str := Str.ofString (toString i)
mutual
def wordsT : Td → List Str
  | .non => ["none"]
  | .str z => ["'" ++ z]
  | .int i => [istr i]
  | .tup xs => ("(" : Str) :: (wordsL xs ++ [(")" : Str)])
def wordsL : List Td → List Str
  | [] => []
  | x :: xs => wordsT x ++ wordsL xs
end
def goodZ (z : Str) : Prop := 1 ≤ z.length ∧ z.length ≤ 20 ∧ ∀ c ∈ z.cps.toList, 33 ≤ c ∧ c ≤ 126
def goodI (i : Int) : Prop := i.natAbs < 10 ^ 41
mutual
def wfT : Td → Prop
  | .non => True
  | .str z => goodZ z
  | .int i => goodI i
  | .tup xs => wfL xs
def wfL : List Td → Prop
  | [] => True
  | x :: xs => wfT x ∧ wfL xs
end
mutual
def depT : Td → Nat
  | .tup xs => depL xs + 1
  | _ => 0
def depL : List Td → Nat
  | [] => 0
  | x :: xs => max (depT x) (depL xs)
end
def okW (w : Str) : Prop := 1 ≤ w.length ∧ w.length ≤ 50 ∧ ∀ c ∈ w.cps.toList, 33 ≤ c ∧ c ≤ 126
theorem okW_dec {z : Str} (h : (decide (1 ≤ z.length ∧ z.length ≤ 50) && z.cps.toList.all fun c => decide (33 ≤ c ∧ c ≤ 126)) = true) : okW z := by
  rw [Bool.and_eq_true, decide_eq_true_eq, List.all_eq_true] at h
  exact ⟨h.1.1, h.1.2, fun c hc => of_decide_eq_true (h.2 c hc)⟩
theorem len_cps (z : Str) : z.cps.toList.length = z.length := Array.length_toList
theorem cps_app (a b : Str) : (a ++ b).cps.toList = a.cps.toList ++ b.cps.toList := by
  show (a.cps ++ b.cps).toList = _
  rw [Array.toList_append]
theorem str_ext {a b : Str} (h : a.cps.toList = b.cps.toList) : a = b := by
  cases a with
  | mk x =>
    cases b with
    | mk y =>
      congr 1
      exact Array.toList_inj.mp h
theorem dch (n : Nat) (h : n < 10) : Char.toNat (Nat.digitChar n) = 48 + n := by
  match n, h with
  | 0, _ => rfl
  | 1, _ => rfl
  | 2, _ => rfl
  | 3, _ => rfl
  | 4, _ => rfl
  | 5, _ => rfl
  | 6, _ => rfl
  | 7, _ => rfl
  | 8, _ => rfl
  | 9, _ => rfl
  | n + 10, h => omega
abbrev dgs (i : Nat) : List Nat := (Nat.toDigits 10 i).map Char.toNat
theorem digs (i : Nat) : NumText.digitsVal (dgs i) = i ∧ (∀ c ∈ dgs i, 48 ≤ c ∧ c ≤ 57) ∧ (i = 0 ∨ ∃ c r, dgs i = c :: r ∧ 49 ≤ c) := by
  unfold dgs
  induction i using Nat.strongRecOn with
  | _ i ih =>
    by_cases h : i < 10
    · rw [Nat.toDigits_of_lt_base h]
      refine ⟨?_, ?_, ?_⟩
      · show 0 * 10 + (Char.toNat (Nat.digitChar i) - 48) = i
        rw [dch i h]
        omega
      · intro c hc
        rw [List.map_cons, List.map_nil, List.mem_singleton] at hc
        rw [hc, dch i h]
        omega
      · rcases Nat.eq_zero_or_pos i with e | e
        · exact .inl e
        · refine .inr ⟨_, _, rfl, ?_⟩
          rw [dch i h]
          omega
    · obtain ⟨h1, h2, h3⟩ := ih (i / 10) (by omega)
      rw [Nat.toDigits_of_base_le (by decide) (by omega), List.map_append]
      have hm : i % 10 < 10 := Nat.mod_lt _ (by decide)
      refine ⟨?_, ?_, .inr ?_⟩
      · rw [List.map_cons, List.map_nil, NumText.digitsVal_snoc, h1, dch _ hm]
        omega
      · intro c hc
        rcases List.mem_append.mp hc with hc | hc
        · exact h2 c hc
        · rw [List.map_cons, List.map_nil, List.mem_singleton] at hc
          rw [hc, dch _ hm]
          omega
      · rcases h3 with h3 | ⟨c, r, e, hc⟩
        · omega
        · rw [e]
          exact ⟨c, _, rfl, hc⟩
theorem digs_len : ∀ (k i : Nat), i < 10 ^ (k + 1) → (Nat.toDigits 10 i).length ≤ k + 1 ∧ 1 ≤ (Nat.toDigits 10 i).length
  | 0, i, h => by
    rw [Nat.toDigits_of_lt_base (by omega)]
    exact ⟨Nat.le_refl _, Nat.le_refl _⟩
  | k + 1, i, h => by
    by_cases h1 : i < 10
    · rw [Nat.toDigits_of_lt_base h1]
      exact ⟨by show 1 ≤ _; omega, Nat.le_refl _⟩
    · obtain ⟨a, b⟩ := digs_len k (i / 10) (by rw [Nat.pow_succ] at h; omega)
      rw [Nat.toDigits_of_base_le (by decide) (by omega), List.length_append]
      exact ⟨by show _ + 1 ≤ _; omega, by omega⟩
theorem istr_pos (n : Nat) : (istr (n : Int)).cps.toList = dgs n := by
  unfold istr dgs
  rw [signs_ofString]
  show (Nat.repr n).toList.map Char.toNat = _
  rw [Nat.repr_eq_ofList_toDigits, String.toList_ofList]
theorem istr_neg (n : Nat) : (istr (Int.negSucc n)).cps.toList = 45 :: dgs (n + 1) := by
  unfold istr dgs
  rw [signs_ofString]
  show ("-" ++ Nat.repr (n + 1)).toList.map Char.toNat = _
  rw [String.toList_append, List.map_append, Nat.repr_eq_ofList_toDigits]
  rw [String.toList_ofList, String.toList_ofList]
  rfl
theorem istr_form (i : Int) : (∃ n : Nat, i = (n : Int) ∧ (istr i).cps.toList = dgs n) ∨ ∃ n : Nat, i = -((n + 1 : Nat) : Int) ∧ (istr i).cps.toList = 45 :: dgs (n + 1) := by
  cases i with
  | ofNat n => exact .inl ⟨n, rfl, istr_pos n⟩
  | negSucc n => exact .inr ⟨n, rfl, istr_neg n⟩
theorem dgs_len {i : Nat} (h : i < 10 ^ 41) : (dgs i).length ≤ 41 ∧ 1 ≤ (dgs i).length := by
  have := digs_len 40 i h
  rw [List.length_map]
  omega
theorem istr_ok {i : Int} (h : goodI i) : okW (istr i) := by
  unfold goodI at h
  rcases istr_form i with ⟨n, rfl, e⟩ | ⟨n, rfl, e⟩
  · have hl := dgs_len (i := n) (by omega)
    have hd := (digs n).2.1
    refine ⟨by rw [← len_cps, e]; omega, by rw [← len_cps, e]; omega, fun c hc => ?_⟩
    rw [e] at hc
    have := hd c hc
    omega
  · have hl := dgs_len (i := n + 1) (by omega)
    have hd := (digs (n + 1)).2.1
    refine ⟨by rw [← len_cps, e, List.length_cons]; omega, by rw [← len_cps, e, List.length_cons]; omega, fun c hc => ?_⟩
    rw [e] at hc
    rcases List.mem_cons.mp hc with rfl | hc
    · decide
    · have := hd c hc
      omega
theorem quote_cps : ("'" : Str).cps.toList = [39] := by decide +kernel
theorem quote_ok {z : Str} (h : goodZ z) : okW ("'" ++ z) := by
  have e : ("'" ++ z : Str).cps.toList = 39 :: z.cps.toList := by rw [cps_app, quote_cps]; rfl
  obtain ⟨h1, h2, h3⟩ := h
  refine ⟨by rw [← len_cps, e, List.length_cons]; omega, by rw [← len_cps, e, List.length_cons, len_cps]; omega, fun c hc => ?_⟩
  rw [e] at hc
  rcases List.mem_cons.mp hc with rfl | hc
  · decide
  · exact h3 c hc
mutual
theorem words_ok : ∀ (t : Td), wfT t → ∀ w ∈ wordsT t, okW w
  | .non, _, w, hw => by
    rw [wordsT, List.mem_singleton] at hw
    rw [hw]
    exact okW_dec (by decide +kernel)
  | .str z, h, w, hw => by
    rw [wordsT, List.mem_singleton] at hw
    rw [wfT] at h
    rw [hw]
    exact quote_ok h
  | .int i, h, w, hw => by
    rw [wordsT, List.mem_singleton] at hw
    rw [wfT] at h
    rw [hw]
    exact istr_ok h
  | .tup xs, h, w, hw => by
    rw [wordsT] at hw
    rw [wfT] at h
    rcases List.mem_cons.mp hw with rfl | hw
    · exact okW_dec (by decide +kernel)
    · rcases List.mem_append.mp hw with hw | hw
      · exact words_okL xs h w hw
      · rw [List.mem_singleton.mp hw]
        exact okW_dec (by decide +kernel)
theorem words_okL : ∀ (ts : List Td), wfL ts → ∀ w ∈ wordsL ts, okW w
  | [], _, w, hw => by
    rw [wordsL] at hw
    exact absurd hw List.not_mem_nil
  | x :: xs, h, w, hw => by
    rw [wordsL] at hw
    rw [wfL] at h
    rcases List.mem_append.mp hw with hw | hw
    · exact words_ok x h.1 w hw
    · exact words_okL xs h.2 w hw
end
theorem words_ne (t : Td) : wordsT t ≠ [] := by cases t <;> simp [wordsT]
def lineT (t : Td) : Str := Txt.join " " (wordsT t)
theorem line_split {t : Td} (h : wfT t) : Txt.split (lineT t) " " = wordsT t :=
  TL.split_join (s := 32) (S := []) (by decide +kernel) (by decide +kernel) (words_ne t) fun p hp hc => by
    have := (words_ok t h p hp).2.2 32 hc
    omega
/-! ### what a word tells -/
theorem starts1 (w : Str) (k : Nat) : Txt.startswith w ⟨#[k]⟩ = decide (w.cps.toList.head? = some k) := by
  obtain ⟨⟨l⟩⟩ := w
  unfold Txt.startswith Builtin.Str.subAt
  show (decide (0 + 1 ≤ l.length) && (Array.mk l).extract 0 (0 + 1) == #[k]) = decide (l.head? = some k)
  cases l with
  | nil => rfl
  | cons c l =>
    have e1 : (Array.mk (c :: l)).extract 0 (0 + 1) = #[c] := by
      apply Array.toList_inj.mp
      rw [Array.toList_extract]
      simp
    rw [e1]
    have e2 : decide (0 + 1 ≤ (c :: l).length) = true := decide_eq_true (by rw [List.length_cons]; omega)
    rw [e2, Bool.true_and]
    by_cases h : c = k
    · subst h
      simp
    · have : ¬ (some c = some k) := fun z => h (Option.some.inj z)
      simp [h]
def dig (c : Nat) : Bool := decide (c ∈ ("0123456789" : Str).cps.toList)
theorem dig_iff (c : Nat) : dig c = true ↔ 48 ≤ c ∧ c ≤ 57 := by
  have e : ("0123456789" : Str).cps.toList = [48, 49, 50, 51, 52, 53, 54, 55, 56, 57] := by decide +kernel
  unfold dig
  rw [e, decide_eq_true_eq]
  simp only [List.mem_cons, List.not_mem_nil, or_false]
  omega
def vis (c : Nat) : Bool := decide (33 ≤ c ∧ c ≤ 126)
def isTxtW (w : Str) : Bool := decide (w.cps.toList.head? = some 39) && (decide (1 < w.length) && w.cps.toList.all vis)
def figW (w : Str) : Str := if w.cps.toList.head? = some 45 then cutS w (some 1) none else w
def isNumW (w : Str) : Bool := (decide (1 ≤ (figW w).length ∧ (figW w).length ≤ 4000) && (figW w).cps.toList.all dig) && (decide ((figW w).cps.toList.head? ≠ some 48) || decide (w = "0"))
def rdW (w : Str) : Option Td := if w = "none" then some .non else if isTxtW w = true then some (.str (cutS w (some 1) none)) else if isNumW w = true then (intText? w).map Td.int else none
theorem cut1 {w : Str} {c : Nat} {r : List Nat} (h : w.cps.toList = c :: r) : (cutS w (some 1) none).cps.toList = r := by
  unfold cutS
  have hl : w.length = r.length + 1 := by rw [← len_cps, h, List.length_cons]
  have e1 : HT.sIx w.length 0 (some 1) = 1 := by
    rw [show (some (1 : Int)) = some ((1 : Nat) : Int) from rfl, HT.sIx_nat, hl]
    omega
  have e2 : HT.sIx w.length w.length none = w.length := rfl
  rw [e1, e2, h, hl]
  show List.take _ r = r
  exact List.take_of_length_le (by omega)
theorem none_cps : ("none" : Str).cps.toList = [110, 111, 110, 101] := by decide +kernel
theorem zero_cps : ("0" : Str).cps.toList = [48] := by decide +kernel
theorem rd_non : rdW "none" = some .non := by
  unfold rdW
  rw [if_pos rfl]
theorem rd_str {z : Str} (h : goodZ z) : rdW ("'" ++ z) = some (.str z) := by
  have e : ("'" ++ z : Str).cps.toList = 39 :: z.cps.toList := by rw [cps_app, quote_cps]; rfl
  unfold rdW
  rw [if_neg fun q => by rw [q, none_cps] at e; cases e]
  have e2 : isTxtW ("'" ++ z) = true := by
    unfold isTxtW
    rw [e, Bool.and_eq_true, Bool.and_eq_true, decide_eq_true_eq, decide_eq_true_eq, List.all_eq_true]
    refine ⟨rfl, ?_, fun c hc => ?_⟩
    · rw [← len_cps, e, List.length_cons, len_cps]
      have := h.1
      omega
    · rcases List.mem_cons.mp hc with rfl | hc
      · rfl
      · exact decide_eq_true (h.2.2 c hc)
  rw [if_pos e2]
  congr 2
  exact str_ext (cut1 e)
theorem istr_num {i : Int} (h : goodI i) : istr i ≠ "none" ∧ isTxtW (istr i) = false ∧ isNumW (istr i) = true ∧ intText? (istr i) = some i := by
  unfold goodI at h
  rcases istr_form i with ⟨n, rfl, e⟩ | ⟨n, rfl, e⟩
  · have hl := dgs_len (i := n) (by omega)
    obtain ⟨d1, d2, d3⟩ := digs n
    have hn : dgs n ≠ [] := fun z => by rw [z] at hl; exact absurd hl.2 (by decide)
    obtain ⟨c0, r0, e0⟩ : ∃ c r, dgs n = c :: r := by
      cases q : dgs n with
      | nil => exact absurd q hn
      | cons c r => exact ⟨c, r, rfl⟩
    have hc0 := d2 c0 (by rw [e0]; exact List.mem_cons_self)
    have ef : figW (istr n) = istr n := by
      unfold figW
      rw [e, e0, if_neg]
      intro z
      cases z
      omega
    refine ⟨fun q => ?_, ?_, ?_, ?_⟩
    · rw [q, none_cps] at e
      rw [← e] at e0
      cases e0
      omega
    · unfold isTxtW
      rw [e, e0]
      have : decide ((c0 :: r0).head? = some 39) = false := decide_eq_false fun z => by
        cases z
        omega
      rw [this]
      rfl
    · unfold isNumW
      rw [ef, e, Bool.and_eq_true, Bool.and_eq_true, decide_eq_true_eq, List.all_eq_true, Bool.or_eq_true, decide_eq_true_eq, decide_eq_true_eq]
      refine ⟨⟨by rw [← len_cps, e]; omega, fun c hc => (dig_iff c).mpr (d2 c hc)⟩, ?_⟩
      rcases d3 with rfl | ⟨c, r, ec, hc⟩
      · exact .inr (by decide +kernel)
      · refine .inl fun z => ?_
        rw [ec] at z
        cases z
        omega
    · rw [intText_digits (x := istr n) (by rw [e]; exact d2) (by rw [e]; exact hn) (by rw [← len_cps, e]; omega), e, d1]
  · have hl := dgs_len (i := n + 1) (by omega)
    obtain ⟨d1, d2, d3⟩ := digs (n + 1)
    have hn : dgs (n + 1) ≠ [] := fun z => by rw [z] at hl; exact absurd hl.2 (by decide)
    generalize ei : istr (-((n + 1 : Nat) : Int)) = w at *
    have ef : (figW w).cps.toList = dgs (n + 1) := by
      unfold figW
      rw [e, if_pos (by rfl)]
      exact cut1 e
    refine ⟨fun q => ?_, ?_, ?_, ?_⟩
    · rw [q, none_cps] at e
      cases e
    · unfold isTxtW
      rw [e]
      rfl
    · unfold isNumW
      rw [ef, Bool.and_eq_true, Bool.and_eq_true, decide_eq_true_eq, List.all_eq_true, Bool.or_eq_true, decide_eq_true_eq]
      refine ⟨⟨by rw [← len_cps, ef]; omega, fun c hc => (dig_iff c).mpr (d2 c hc)⟩, .inl fun z => ?_⟩
      rcases d3 with h0 | ⟨c, r, ec, hc⟩
      · omega
      · rw [ec] at z
        cases z
        omega
    · rw [intText_neg e d2 hn (by rw [← len_cps, e, List.length_cons]; omega), d1]
theorem rd_int {i : Int} (h : goodI i) : rdW (istr i) = some (.int i) := by
  obtain ⟨h1, h2, h3, h4⟩ := istr_num h
  unfold rdW
  rw [if_neg h1, if_neg (by rw [h2]; exact Bool.false_ne_true), if_pos h3, h4]
  rfl
theorem par_ne : rdW "(" = none ∧ rdW ")" = none := by
  constructor
  · unfold rdW
    rw [if_neg (by decide +kernel), if_neg (by decide +kernel), if_neg (by decide +kernel)]
  · unfold rdW
    rw [if_neg (by decide +kernel), if_neg (by decide +kernel), if_neg (by decide +kernel)]
theorem rd_not {w : Str} {t : Td} (h : rdW w = some t) : w ≠ "(" ∧ w ≠ ")" := by
  constructor
  · rintro rfl
    rw [par_ne.1] at h
    cases h
  · rintro rfl
    rw [par_ne.2] at h
    cases h
/-! ### a stack of parts, the top first -/
def okS (s : List (List Td)) : Bool := match s.getLast? with
  | some [] => true
  | _ => false
def stepP (s : List (List Td)) (w : Str) : Option (List (List Td)) :=
  if okS s = true then
    (if w = "(" then some ([] :: s)
    else if w = ")" then (match s with
      | a :: b :: r => some ((b ++ [.tup a]) :: r)
      | _ => none)
    else match s with
      | a :: r => (rdW w).map fun t => (a ++ [t]) :: r
      | _ => none)
  else none
def runW : List Str → List (List Td) → Option (List (List Td))
  | [], s => some s
  | w :: ws, s => (stepP s w).bind (runW ws)
theorem runW_app : ∀ (a b : List Str) (s : List (List Td)), runW (a ++ b) s = (runW a s).bind (runW b)
  | [], b, s => rfl
  | w :: a, b, s => by
    show (stepP s w).bind (runW (a ++ b)) = ((stepP s w).bind (runW a)).bind (runW b)
    cases stepP s w with
    | none => rfl
    | some s1 => exact runW_app a b s1
theorem runW_take {ws : List Str} {s f : List (List Td)} (h : runW ws s = some f) (i : Nat) : ∃ m, runW (ws.take i) s = some m := by
  have e := runW_app (ws.take i) (ws.drop i) s
  rw [List.take_append_drop, h] at e
  cases q : runW (ws.take i) s with
  | none =>
    rw [q] at e
    cases e
  | some m => exact ⟨m, rfl⟩
theorem runW_step {ws : List Str} {s f m : List (List Td)} {i : Nat} {w : Str} (h : runW ws s = some f) (hm : runW (ws.take i) s = some m) (hw : ws[i]? = some w) : ∃ m', stepP m w = some m' ∧ runW (ws.take (i + 1)) s = some m' := by
  obtain ⟨m', h'⟩ := runW_take h (i + 1)
  have h2 := h'
  rw [List.take_add_one, hw, runW_app, hm] at h'
  have h3 : (stepP m w).bind (runW []) = some m' := h'
  cases q : stepP m w with
  | none =>
    rw [q] at h3
    cases h3
  | some x =>
    rw [q] at h3
    cases h3
    exact ⟨_, rfl, h2⟩
mutual
theorem run_T : ∀ (t : Td) (a : List Td) (r : List (List Td)), wfT t → okS (a :: r) = true → runW (wordsT t) (a :: r) = some ((a ++ [t]) :: r)
  | .non, a, r, _, h => by
    rw [wordsT]
    show (stepP (a :: r) "none").bind (runW []) = _
    unfold stepP
    rw [if_pos h, if_neg (by decide +kernel), if_neg (by decide +kernel)]
    show (Option.map _ (rdW "none")).bind (runW []) = _
    rw [rd_non]
    rfl
  | .str z, a, r, hz, h => by
    rw [wfT] at hz
    rw [wordsT]
    have e := rd_str hz
    obtain ⟨n1, n2⟩ := rd_not e
    show (stepP (a :: r) ("'" ++ z)).bind (runW []) = _
    unfold stepP
    rw [if_pos h, if_neg n1, if_neg n2]
    show (Option.map _ (rdW ("'" ++ z))).bind (runW []) = _
    rw [e]
    rfl
  | .int i, a, r, hz, h => by
    rw [wfT] at hz
    rw [wordsT]
    have e := rd_int hz
    obtain ⟨n1, n2⟩ := rd_not e
    show (stepP (a :: r) (istr i)).bind (runW []) = _
    unfold stepP
    rw [if_pos h, if_neg n1, if_neg n2]
    show (Option.map _ (rdW (istr i))).bind (runW []) = _
    rw [e]
    rfl
  | .tup xs, a, r, hz, h => by
    rw [wfT] at hz
    rw [wordsT]
    show (stepP (a :: r) "(").bind (runW (wordsL xs ++ [(")" : Str)])) = _
    unfold stepP
    rw [if_pos h, if_pos rfl]
    show runW (wordsL xs ++ [(")" : Str)]) ([] :: a :: r) = _
    rw [runW_app, run_L xs [] a r hz h]
    show (stepP (([] ++ xs) :: a :: r) ")").bind (runW []) = _
    unfold stepP
    rw [if_pos (by unfold okS; rw [List.getLast?_cons_cons]; exact h), if_neg (by decide +kernel), if_pos rfl]
    rfl
theorem run_L : ∀ (ts : List Td) (a b : List Td) (r : List (List Td)), wfL ts → okS (b :: r) = true → runW (wordsL ts) (a :: b :: r) = some ((a ++ ts) :: b :: r)
  | [], a, b, r, _, h => by
    rw [wordsL, List.append_nil]
    rfl
  | x :: xs, a, b, r, hz, h => by
    rw [wfL] at hz
    rw [wordsL, runW_app, run_T x a (b :: r) hz.1 (by unfold okS; rw [List.getLast?_cons_cons]; exact h)]
    show runW (wordsL xs) ((a ++ [x]) :: b :: r) = _
    rw [run_L xs (a ++ [x]) b r hz.2 h, List.append_assoc]
    rfl
end
theorem run_line {t : Td} (h : wfT t) : runW (wordsT t) [[]] = some [[t]] := run_T t [] [] h rfl

/-! ### shown -/
structure SR (t : Td) (n L : Nat) : Prop where
  sh : (pd t).showable = true
  hd : (pd t).hasDict = false
  dp : (pd t).depth ≤ n
  ln : (pd t).shown.length + 2 ≤ L
structure SRL (ts : List Td) (n L : Nat) : Prop where
  sh : PyData.showableAll (pdL ts) = true
  hd : PyData.hasDictAll (pdL ts) = false
  dp : PyData.depthAll (pdL ts) ≤ n
  ln : ((PyData.shownAll (pdL ts)).map (·.length)).sum + 2 * ts.length ≤ L
theorem shownAll_len : ∀ ts : List Td, (PyData.shownAll (pdL ts)).length = ts.length
  | [] => by simp [pdL, PyData.shownAll]
  | t :: ts => by
    rw [pdL, PyData.shownAll, List.length_cons, List.length_cons, shownAll_len ts]
theorem SRL.nil {n : Nat} : SRL [] n 0 := by
  constructor
  · simp [pdL, PyData.showableAll]
  · simp [pdL, PyData.hasDictAll]
  · simp [pdL, PyData.depthAll]
  · simp [pdL, PyData.shownAll]
theorem SRL.cons {t : Td} {ts : List Td} {n L M : Nat} (h : SR t n L) (hs : SRL ts n M) : SRL (t :: ts) n (L + M) := by
  obtain ⟨a1, a2, a3, a4⟩ := h
  obtain ⟨b1, b2, b3, b4⟩ := hs
  constructor
  · rw [pdL, PyData.showableAll, a1, b1]
    rfl
  · rw [pdL, PyData.hasDictAll, a2, b2]
    rfl
  · rw [pdL, PyData.depthAll]
    exact Nat.max_le.mpr ⟨a3, b3⟩
  · rw [pdL, PyData.shownAll, List.map_cons, List.sum_cons, List.length_cons]
    omega
theorem SRL.mono {ts : List Td} {n m L M : Nat} (h : SRL ts n L) (hn : n ≤ m) (hl : L ≤ M) : SRL ts m M := ⟨h.sh, h.hd, Nat.le_trans h.dp hn, Nat.le_trans h.ln hl⟩
theorem SR.mono {t : Td} {n m L M : Nat} (h : SR t n L) (hn : n ≤ m) (hl : L ≤ M) : SR t m M := ⟨h.sh, h.hd, Nat.le_trans h.dp hn, Nat.le_trans h.ln hl⟩
theorem SRL.tup {ts : List Td} {n L : Nat} (h : SRL ts n L) : SR (.tup ts) (n + 1) (L + 5) := by
  obtain ⟨b1, b2, b3, b4⟩ := h
  constructor
  · rw [pd, PyData.showable, b1]
  · rw [pd, PyData.hasDict, b2]
  · rw [pd, PyData.depth]
    omega
  · rw [pd, PyData.shown]
    have := tupleText_len_le (PyData.shownAll (pdL ts))
    rw [shownAll_len] at this
    omega
theorem small_log {i : Int} (h : goodI i) : i.natAbs.log2 < 1920 := by
  unfold goodI at h
  have h2 : i.natAbs < 2 ^ 137 := Nat.lt_trans h (by decide)
  rcases Nat.eq_zero_or_pos i.natAbs with e | e
  · rw [e]
    decide
  · have := (Nat.log2_lt (Nat.ne_of_gt e)).mpr h2
    omega
mutual
theorem SR_of : ∀ (t : Td), wfT t → SR t (depT t) (250 * (wordsT t).length)
  | .non, _ => by
    rw [depT, wordsT]
    constructor
    · rw [pd, PyData.showable]
    · rw [pd, PyData.hasDict]
    · rw [pd, PyData.depth]
      exact Nat.le_refl _
    · rw [pd, PyData.shown]
      decide
    all_goals (intro _ z; cases z)
  | .str z, h => by
    rw [depT, wordsT]
    rw [wfT] at h
    constructor
    · rw [pd, PyData.showable]
    · rw [pd, PyData.hasDict]
    · rw [pd, PyData.depth]
      exact Nat.le_refl _
    · rw [pd, PyData.shown]
      have := StrLaws.reprText_len z fun c hc => Nat.lt_of_le_of_lt (h.2.2 c hc).2 (by decide)
      have := h.2.1
      show _ ≤ 250 * 1
      omega
    all_goals (intro _ z; cases z)
  | .int i, h => by
    rw [depT, wordsT]
    rw [wfT] at h
    constructor
    · rw [pd, PyData.showable, decide_eq_true_eq]
      exact small_log h
    · rw [pd, PyData.hasDict]
    · rw [pd, PyData.depth]
      exact Nat.le_refl _
    · rw [pd, PyData.shown]
      have := (istr_ok h).2.1
      show (istr i).length + 2 ≤ 250 * 1
      omega
    all_goals (intro _ z; cases z)
  | .tup xs, h => by
    rw [wfT] at h
    rw [depT, wordsT, List.length_cons, List.length_append]
    refine (SRL.tup (SRL_of xs h)).mono (Nat.le_refl _) ?_
    show _ ≤ 250 * ((wordsL xs).length + 1 + 1)
    omega
theorem SRL_of : ∀ (ts : List Td), wfL ts → SRL ts (depL ts) (250 * (wordsL ts).length)
  | [], _ => by
    rw [depL, wordsL]
    exact SRL.nil
  | x :: xs, h => by
    rw [wfL] at h
    rw [depL, wordsL, List.length_append, Nat.mul_add]
    exact SRL.cons ((SR_of x h.1).mono (Nat.le_max_left _ _) (Nat.le_refl _)) ((SRL_of xs h.2).mono (Nat.le_max_right _ _) (Nat.le_refl _))
end
/-- a thing that may be shown, written, read -/
structure Gd (t : Td) (n L : Nat) : Prop where
  wf : wfT t
  dp : depT t ≤ n
  ln : (wordsT t).length ≤ L
theorem Gd.sr {t : Td} {n L : Nat} (h : Gd t n L) : SR t n (250 * L) := (SR_of t h.wf).mono h.dp (Nat.mul_le_mul_left _ h.ln)
theorem Gd.mono {t : Td} {n m L M : Nat} (h : Gd t n L) (hn : n ≤ m) (hl : L ≤ M) : Gd t m M := ⟨h.wf, Nat.le_trans h.dp hn, Nat.le_trans h.ln hl⟩

/-! ### repr, str of any thing -/
def rReprT : List V → Hp → VK → Prop := fun xs H Q => ∃ (t : Td) (v : V) (L : Nat), xs = [v] ∧ TdR H t v ∧ SR t 100 L ∧ L ≤ 1000000 ∧ Q (.str (pd t).shown) H
theorem call_reprT {X : Cx} (hq : Qt X.A) (hu : X.A.units + 200 < cLine) : CallR X (.builtin "repr") rReprT := by
  intro pins s σ H xs us Q I r h
  obtain ⟨t, v, L, rfl, ht, hs, hL, q⟩ := h
  have hz : (pd t).shown.length ≤ sizeLine := by
    have := hs.ln
    have : 1000000 ≤ sizeLine := by decide
    omega
  cases ht with
  | non =>
    obtain ⟨u, rfl, ru⟩ := vals1 r
    obtain rfl : u = Value.none := ru
    rw [pd, PyData.shown] at q
    exact P.repr_of_none ⟨.str _, H, I.tok _, ⟨_, rfl⟩, q⟩
  | str z =>
    obtain ⟨u, rfl, t, rfl⟩ := vals1 r
    rw [pd, PyData.shown] at q hz
    exact P.repr_of_str ⟨.str _, H, I.tok _, ⟨_, rfl⟩, q⟩ hz
  | int i =>
    obtain ⟨u, rfl, t, rfl⟩ := vals1 r
    have hs2 := hs.sh
    rw [pd, PyData.showable, decide_eq_true_eq] at hs2
    rw [pd, PyData.shown] at q
    exact P.repr_of_int hs2 ⟨.str _, H, I.tok _, ⟨_, rfl⟩, q⟩
  | tup e hl ha =>
    exact call_reprD hq hu pins s σ H _ us Q I r ⟨_, _, rfl, dp_of (.tup e hl ha), hs.sh, hs.hd, Nat.le_trans hs.dp (by decide), hz, q⟩
def strA : Td → Str
  | .non => Str.ofString "None"
  | .str z => z
  | .int i => istr i
  | .tup _ => ""
def rStrA : List V → Hp → VK → Prop := fun xs H Q => ∃ (t : Td) (v : V), xs = [v] ∧ TdR H t v ∧ wfT t ∧ depT t = 0 ∧ Q (.str (strA t)) H
theorem call_strA {X : Cx} : CallR X (.type "str") rStrA := by
  intro pins s σ H xs us Q I r h
  obtain ⟨t, v, rfl, ht, hw, hd, q⟩ := h
  cases ht with
  | non =>
    obtain ⟨u, rfl, ru⟩ := vals1 r
    obtain rfl : u = Value.none := ru
    exact P.str_of_none ⟨.str _, H, I.tok _, ⟨_, rfl⟩, q⟩
  | str z =>
    obtain ⟨u, rfl, t, rfl⟩ := vals1 r
    exact P.str_of_str ⟨.str z, H, I, ⟨t, rfl⟩, q⟩
  | int i =>
    obtain ⟨u, rfl, t, rfl⟩ := vals1 r
    rw [wfT] at hw
    exact P.str_of_int (small_log hw) ⟨.str _, H, I.tok _, ⟨_, rfl⟩, q⟩
  | tup e hl ha =>
    rw [depT] at hd
    cases hd
end K67

namespace K67
open PySem PySem.Spec PyProof.Rows L2 Kit
/-! ### things written -/
def leafW : Td → Str
  | .non => "none"
  | .str z => "'" ++ z
  | .int i => istr i
  | .tup _ => ""
def isTup : Td → Bool
  | .tup _ => true
  | _ => false
def isStr : Td → Bool
  | .str _ => true
  | _ => false
def isInt : Td → Bool
  | .int _ => true
  | _ => false
def tyn : Td → String
  | .non => "NoneType"
  | .str _ => "str"
  | .int _ => "int"
  | .tup _ => "tuple"
theorem TdR.ty {K : PySem.W.Frag} {H : Hp} {t : Td} {v : V} (h : TdR H t v) : TyX K H v (.type (tyn t)) := by
  cases h with
  | non => exact .base .non
  | str z => exact .base (.str _)
  | int i => exact .base (.int i)
  | tup e _ _ => exact .base (.tup e)
theorem kit_tup (K : PySem.W.Frag) (t : Td) : PySem.W.kitOne K (.type (tyn t)) (.type "tuple") = some (isTup t) := by
  cases t with
  | non => exact (show PySem.W.kitOne K (.type "NoneType") (.type "tuple") = some false from kit_ty (by decide +kernel))
  | str z => exact (show PySem.W.kitOne K (.type "str") (.type "tuple") = some false from kit_ty (by decide +kernel))
  | int z => exact (show PySem.W.kitOne K (.type "int") (.type "tuple") = some false from kit_ty (by decide +kernel))
  | tup z => exact (show PySem.W.kitOne K (.type "tuple") (.type "tuple") = some true from kit_ty (by decide +kernel))
theorem kit_str (K : PySem.W.Frag) (t : Td) : PySem.W.kitOne K (.type (tyn t)) (.type "str") = some (isStr t) := by
  cases t with
  | non => exact (show PySem.W.kitOne K (.type "NoneType") (.type "str") = some false from kit_ty (by decide +kernel))
  | str z => exact (show PySem.W.kitOne K (.type "str") (.type "str") = some true from kit_ty (by decide +kernel))
  | int z => exact (show PySem.W.kitOne K (.type "int") (.type "str") = some false from kit_ty (by decide +kernel))
  | tup z => exact (show PySem.W.kitOne K (.type "tuple") (.type "str") = some false from kit_ty (by decide +kernel))
theorem kit_int (K : PySem.W.Frag) (t : Td) : PySem.W.kitOne K (.type (tyn t)) (.type "int") = some (isInt t) := by
  cases t with
  | non => exact (show PySem.W.kitOne K (.type "NoneType") (.type "int") = some false from kit_ty (by decide +kernel))
  | str z => exact (show PySem.W.kitOne K (.type "str") (.type "int") = some false from kit_ty (by decide +kernel))
  | int z => exact (show PySem.W.kitOne K (.type "int") (.type "int") = some true from kit_ty (by decide +kernel))
  | tup z => exact (show PySem.W.kitOne K (.type "tuple") (.type "int") = some false from kit_ty (by decide +kernel))
def spWordOf : Sp := fun vs H Q _ => ∃ (t : Td) (v : V), vs = [v] ∧ TdR H t v ∧ wfT t ∧ isTup t = false ∧ Q (.str (leafW t)) H
/-- what still comes -/
inductive It
  | thing (t : Td)
  | word (z : Str)
def It.ws : It → List Str
  | .thing t => wordsT t
  | .word z => [z]
def It.ok : It → Prop
  | .thing t => wfT t
  | .word z => okW z
inductive ItR (H : Hp) : It → V → Prop
  | thing {t : Td} {v : V} {a : Addr} (e : H a = some (.tup [v, .bl false])) (h : TdR H t v) : ItR H (.thing t) (.ref a)
  | word {z : Str} {a : Addr} (e : H a = some (.tup [.str z, .bl true])) : ItR H (.word z) (.ref a)
inductive ItsR (H : Hp) : List It → List V → Prop
  | nil : ItsR H [] []
  | cons {i : It} {v : V} {is : List It} {vs : List V} (h : ItR H i v) (hs : ItsR H is vs) : ItsR H (i :: is) (v :: vs)
def KeepT (H H' : Hp) : Prop := ∀ p vs, H p = some (.tup vs) → H' p = some (.tup vs)
theorem ItR.keep {H H' : Hp} {i : It} {v : V} (h : ItR H i v) (k : KeepT H H') : ItR H' i v := by
  cases h with
  | thing e h => exact .thing (k _ _ e) (h.keep k)
  | word e => exact .word (k _ _ e)
theorem ItsR.keep {H H' : Hp} {is : List It} {vs : List V} (h : ItsR H is vs) (k : KeepT H H') : ItsR H' is vs := by
  induction h with
  | nil => exact .nil
  | cons h _ ih => exact .cons (h.keep k) ih
theorem ItsR.len {H : Hp} {is : List It} {vs : List V} (h : ItsR H is vs) : vs.length = is.length := by
  induction h with
  | nil => rfl
  | cons _ _ ih => rw [List.length_cons, List.length_cons, ih]
theorem ItsR.app {H : Hp} {a b : List It} {us vs : List V} (h : ItsR H a us) (h2 : ItsR H b vs) : ItsR H (a ++ b) (us ++ vs) := by
  induction h with
  | nil => exact h2
  | cons h _ ih => exact .cons h ih
def wsL (is : List It) : List Str := is.flatMap It.ws
theorem wsL_things : ∀ ts : List Td, wsL (ts.map It.thing) = wordsL ts
  | [] => by rw [wordsL]; rfl
  | t :: ts => by
    rw [wordsL, ← wsL_things ts]
    rfl
theorem It.ws_pos (i : It) : 1 ≤ i.ws.length := by
  cases i with
  | thing t =>
    have := words_ne t
    cases h : wordsT t with
    | nil => exact absurd h this
    | cons a b =>
      show 1 ≤ (wordsT t).length
      rw [h, List.length_cons]
      omega
  | word z => exact Nat.le_refl _
theorem wsL_len : ∀ is : List It, is.length ≤ (wsL is).length
  | [] => Nat.le_refl _
  | i :: is => by
    have h1 := wsL_len is
    have h2 := i.ws_pos
    show is.length + 1 ≤ (i.ws ++ wsL is).length
    rw [List.length_append]
    omega
theorem wfL_iff : ∀ {ts : List Td}, wfL ts ↔ ∀ t ∈ ts, wfT t
  | [] => by rw [wfL]; exact ⟨fun _ t h => absurd h List.not_mem_nil, fun _ => trivial⟩
  | t :: ts => by
    rw [wfL, List.forall_mem_cons, wfL_iff]
def spShow : Sp := fun vs H Q _ => ∃ (t : Td) (v : V), vs = [v] ∧ TdR H t v ∧ wfT t ∧ (wordsT t).length ≤ 10000 ∧ ∀ H', Same H H' → Q (.str (lineT t)) H'
section
variable {P : Program} {w : World} {K : PySem.W.Frag} {mg : Str → Option Value} {base : Heap}
theorem ok_word_of {f : Addr} {fd : FuncData} (D : DefAt K mg "word_of" ["part"] s_word_of f fd) (M : Bi mg) : Cal P w K mg base L2.CX0 1 "word_of" ["part"] spWordOf := by
  have S := S_word_of
  refine cal_of D.fn D.mgf D.bs D.kbs S (fun vs H Q E h => ?_) (fun cdv A outer s H vs Q E hq hr h => ?_)
  · obtain ⟨t, v, rfl, _⟩ := h
    rfl
  · obtain ⟨t, v, rfl, ht, hw, hn, q⟩ := h
    refine ⟨_, (pss_cons (ps_if (pt_cmpR op_isN (pv 0) pe_non (nomark _))
  (pss_one (ps_ret pe_str))
  pss_nil)
 (pss_one (ps_ret (pe_ifExp (pt_val (pe_callB call_isi (by rfl) M.isinstance_ (by decide +kernel) (pa_cons (pv 0) (pa_cons (pe_bltn (v := .ty "str") (u := .type "str") (by rfl) M.str_ (by decide +kernel) rfl) pa_nil)))) (pe_op op_add_str pe_str (pv 0)) (pe_callTy call_str_int (by rfl) M.str_ (by decide +kernel) (pa_cons (pv 0) pa_nil)))))), ?_⟩
    have k := kit_str K t
    have ty := ht.ty (K := K)
    refine ⟨v, rfl, rfl, _, rfl, ?_⟩
    cases ht with
    | non => exact iteT q
    | str z =>
      have hz : ("'" : Str).length + z.length ≤ sizeLine := by
        rw [wfT] at hw
        have := hw.2.1
        show 1 + z.length ≤ sizeLine
        have : 100 ≤ sizeLine := by decide
        omega
      exact iteF ⟨.str z, rfl, _, _, _, _, _, rfl, .ty "str", ty, k, true, rfl, .str z, rfl, _, _, rfl, rfl, hz, q⟩
    | int i =>
      rw [wfT] at hw
      exact iteF ⟨.int i, rfl, _, _, _, _, _, rfl, .ty "str", ty, k, false, rfl, .int i, rfl, i, rfl, small_log hw, q⟩
    | tup e _ _ => cases hn
end
end K67

namespace K67
open PySem PySem.Spec PyProof.Rows L2 Kit
theorem none_back {H H1 : Hp} {p : Addr} (s : Same H H1) (h : H1 p = none) : H p = none := by
  cases e : H p with
  | none => rfl
  | some o =>
    rw [s p o e] at h
    cases h
theorem keepT_new {H : Hp} {p : Addr} {o : HO} (n : H p = none) : KeepT H (upd H p o) := fun q vs e => same_new n _ _ e
theorem keepT_lst {H : Hp} {p : Addr} {o : HO} {xs : List V} (n : H p = some (.lst xs)) : KeepT H (upd H p o) := fun q vs e => by
  by_cases h : q = p
  · subst h
    rw [n] at e
    cases e
  · rw [upd_ne h]
    exact e
theorem KeepT.trans {a b c : Hp} (h : KeepT a b) (h2 : KeepT b c) : KeepT a c := fun p vs e => h2 p vs (h p vs e)
theorem KeepT.of {a b : Hp} (h : Same a b) : KeepT a b := fun p vs e => h p _ e
theorem pop_last {α : Type} (us : List α) (u : α) : ((u :: us).reverse)[((u :: us).reverse).length - 1]? = some u ∧ ((u :: us).reverse).dropLast = us.reverse := by
  rw [List.reverse_cons]
  constructor
  · rw [List.length_append, List.length_singleton, Nat.add_sub_cancel, List.getElem?_append_right (Nat.le_refl _), Nat.sub_self]
    rfl
  · exact List.dropLast_concat
theorem things_R {H : Hp} : ∀ {ts : List Td} {rs : List Addr} {vs : List V}, All2 H ts vs → rs.length = vs.length → (∀ (j : Nat) r v, rs[j]? = some r → vs[j]? = some v → H r = some (.tup [v, .bl false])) → ItsR H (ts.map It.thing) (rs.map V.ref)
  | [], [], vs, _, _, _ => .nil
  | [], r :: rs, vs, a, l, _ => by
    rw [a.inv_nil] at l
    cases l
  | t :: ts, [], vs, a, l, _ => by
    obtain ⟨v, vs', rfl, _, _⟩ := a.inv_cons
    cases l
  | t :: ts, r :: rs, vs, a, l, h => by
    obtain ⟨v, vs', rfl, hv, a'⟩ := a.inv_cons
    exact .cons (.thing (h 0 r v rfl rfl) hv) (things_R a' (Nat.succ.inj l) fun j r v h1 h2 => h (j + 1) r v h1 h2)
theorem wsL_app (a b : List It) : wsL (a ++ b) = wsL a ++ wsL b := List.flatMap_append
theorem sum_le {L : Nat} : ∀ {ys : List Str}, (∀ y ∈ ys, y.length ≤ L) → (ys.map (·.length)).sum ≤ ys.length * L
  | [], _ => Nat.zero_le _
  | y :: ys, h => by
    have h1 := h y List.mem_cons_self
    have h2 := sum_le (ys := ys) fun z hz => h z (List.mem_cons_of_mem _ hz)
    rw [List.map_cons, List.sum_cons, List.length_cons, Nat.succ_mul]
    omega
section
variable {P : Program} {w : World} {K : PySem.W.Frag} {mg : Str → Option Value} {base : Heap}
theorem ok_show {f : Addr} {fd : FuncData} (D : DefAt K mg "show_thing" ["thing"] s_show_thing f fd) (M : Bi mg)
    (C_word_of : Cal P w K mg base L2.CX0 1 "word_of" ["part"] spWordOf) : Cal P w K mg base L2.CX0 2 "show_thing" ["thing"] spShow := by
  have S := S_show_thing
  refine cal_of D.fn D.mgf D.bs D.kbs S (fun vs H Q E h => ?_) (fun cdv A outer s H vs Q E hq hr h => ?_)
  · obtain ⟨t, v, rfl, _⟩ := h
    rfl
  · obtain ⟨t, v, rfl, ht, hw, hl, q⟩ := h
    refine ⟨_, (pss_cons (ps_set (i := 1) S.nd rfl (.inl rfl) (pe_lst pa_nil))
 (pss_cons (ps_set (i := 2) S.nd rfl (.inl rfl) (pe_lst (pa_cons (pe_tup (pa_cons (pv 0) (pa_cons pe_bl pa_nil))) pa_nil)))
 (pss_cons (ps_while PassesOwn.never (pt_truth (pv 2) (by intro _; rfl))
  (pss_cons (ps_asg (pe_bm0 PySem.F.plainAttrs_list PySem.F.slot_list_pop PySem.F.type_list_pop (mt_pop) (pv 2)) (pg_tup (by rfl) (pgs_cons (pg_name (i := 3) S.nd rfl (.inl rfl)) (pgs_cons (pg_name (i := 4) S.nd rfl (.inl rfl)) pgs_nil))))
 (pss_one (ps_if (pt_val (pv 4))
  (pss_one (ps_expr (pe_bm PySem.F.plainAttrs_list PySem.F.slot_list_append PySem.F.type_list_append mt_append (pv 1) (pa_cons (pv 3) pa_nil))))
  (pss_one (ps_if (pt_val (pe_callB call_isi (by rfl) M.isinstance_ (by decide +kernel) (pa_cons (pv 3) (pa_cons (pe_bltn (v := .ty "tuple") (u := .type "tuple") (by rfl) M.tuple_ (by decide +kernel) rfl) pa_nil))))
  (pss_cons (ps_expr (pe_bm PySem.F.plainAttrs_list PySem.F.slot_list_append PySem.F.type_list_append mt_append (pv 1) (pa_cons pe_str pa_nil)))
 (pss_cons (ps_expr (pe_bm PySem.F.plainAttrs_list PySem.F.slot_list_append PySem.F.type_list_append mt_append (pv 2) (pa_cons (pe_tup (pa_cons pe_str (pa_cons pe_bl pa_nil))) pa_nil)))
 (pss_one (ps_expr (pe_bm PySem.F.plainAttrs_list PySem.F.slot_list_extend PySem.F.type_list_extend mt_extend (pv 2) (pa_cons (pe_lc (own := [("inner", 5)]) (g := gName 5) (tt := tYes) rfl S.nd (pi_tup (X7.pe_revT (pv 3))) (blkOk_by (own := [("inner", 5)]) (N := N_show_thing) (sc := defScope s_show_thing) (by decide +kernel)) (fun _ _ _ _ _ => pg_name (i := 5) S.nd rfl (.inl rfl)) (fun _ _ _ _ _ => pts_nil) (fun _ _ _ _ _ => (pe_tup (pa_cons (pv 5) (pa_cons pe_bl pa_nil))))) pa_nil))))))
  (pss_one (ps_expr (pe_bm PySem.F.plainAttrs_list PySem.F.slot_list_append PySem.F.type_list_append mt_append (pv 1) (pa_cons (pe_c C_word_of pass0 hq hr (by omega) (by rfl) (pa_cons (pv 3) pa_nil)) pa_nil))))))))))
 (pss_one (ps_ret (pe_join pe_str (pv 1))))))), ?_⟩
    refine ⟨Nat.zero_le _, fun W nW => ?_⟩
    refine ⟨v, rfl, (by decide : (2 : Nat) ≤ sizeLine), fun T nT => ⟨(by decide : (1 : Nat) ≤ sizeLine), fun C nC => ?_⟩⟩
    have nC0 := nC
    revert nC
    generalize eH1 : upd (upd H W (.lst [])) T (.tup [v, .bl false]) = H1
    intro nC
    have s1 : Same H H1 := eH1 ▸ (same_new nW).trans (same_new nT)
    have eT : H1 T = some (.tup [v, .bl false]) := eH1 ▸ upd_same
    have eW : H1 W = some (.lst []) := eH1 ▸ same_new nT _ _ upd_same
    have nC2 : H C = none := none_back s1 nC
    have big : 10000 < sizeLine := by decide
    refine ⟨fun m σ H' => ∃ (done : List Str) (its : List It) (us : List V) (x3 x4 x5 : Option V), σ = [some v, some (.ref W), some (.ref C), x3, x4, x5] ∧ Same H H' ∧ H' W = some (.lst (done.map V.str)) ∧
      H' C = some (.lst us.reverse) ∧ ItsR H' its us ∧ done ++ wsL its = wordsT t ∧ (∀ i ∈ its, i.ok) ∧ m = (wsL its).length, ?_, ?_⟩
    · refine ⟨_, [], [.thing t], [.ref T], none, none, none, rfl, s1.trans (same_new nC), same_new nC _ _ eW, upd_same, .cons (.thing (same_new nC _ _ eT) (ht.same (s1.trans (same_new nC)))) .nil, ?_, ?_, rfl⟩
      · show wordsT t ++ [] = _
        rw [List.append_nil]
      · intro i hi
        rw [List.mem_singleton.mp hi]
        exact hw
    rintro m σ H2 ⟨done, its, us, x3, x4, x5, rfl, sm, eW2, eC2, hI, hd, hok, rfl⟩
    have nWC : W ≠ C := fun z => by
      subst z
      rw [eW] at nC
      cases nC
    refine ⟨.ref C, rfl, _, .inl ⟨_, .inl (.inl eC2), rfl⟩, ?_⟩
    cases hI with
    | nil =>
      refine iteF ?_
      have hd : done ++ [] = wordsT t := hd
      rw [List.append_nil] at hd
      subst hd
      refine ⟨⟨_, rfl⟩, .ref W, rfl, " ", W, wordsT t, rfl, rfl, .inl (.inl (.inl eW2)), ?_, q _ sm⟩
      have hs := sum_le (L := 50) fun y hy => (words_ok t hw y hy).2.1
      have e1 : (" " : Str).length = 1 := rfl
      rw [e1]
      omega
    | @cons it u its us hu hus =>
      obtain ⟨p1, p2⟩ := pop_last us u
      have ne : (u :: us).reverse.isEmpty = false := by
        rw [List.reverse_cons]
        cases us.reverse <;> rfl
      rw [ne]
      refine iteT ?_
      refine ⟨fun σ' H' => ∃ m', m' < (wsL (it :: its)).length ∧ _, fun σ' H' h => h, ?_⟩
      refine ⟨.ref C, rfl, .inl ⟨rfl, _, .inl (.inl eC2)⟩, C, _, _, rfl, rfl, eC2, p1, ?_⟩
      rw [p2]
      generalize eH3 : upd H2 C (.lst us.reverse) = H3
      have eC3 : H3 C = some (.lst us.reverse) := eH3 ▸ upd_same
      have eW3 : H3 W = some (.lst (done.map V.str)) := by
        rw [← eH3, upd_ne nWC]
        exact eW2
      have sm3 : Same H H3 := eH3 ▸ same_mut sm nC2
      have kt : KeepT H2 H3 := eH3 ▸ keepT_lst eC2
      have hu3 := hu.keep kt
      have hus3 := hus.keep kt
      have llen : (wsL its).length + it.ws.length + done.length ≤ 10000 := by
        rw [← hd] at hl
        have e : wsL (it :: its) = it.ws ++ wsL its := rfl
        rw [e, List.length_append, List.length_append] at hl
        omega
      have lus : us.length = its.length := hus.len
      have lits := wsL_len its
      have hok2 : ∀ i ∈ its, i.ok := fun i hi => hok i (List.mem_cons_of_mem _ hi)
      have hoki : it.ok := hok it List.mem_cons_self
      have ew : wsL (it :: its) = it.ws ++ wsL its := rfl
      have wpos := it.ws_pos
      cases hu3 with
      | @word z a ea =>
        refine ⟨a, _, rfl, .inl (.inl ea), rfl, _, _, rfl, _, _, rfl, rfl, ?_⟩
        refine ⟨.bl true, rfl, true, rfl, iteT ?_⟩
        refine ⟨.ref W, rfl, .inl ⟨rfl, _, .inl (.inl eW3)⟩, .str z, rfl, W, _, _, rfl, rfl, eW3, ?_, ?_⟩
        · rw [List.length_map]
          omega
        · have nW2 : H W = none := nW
          refine ⟨(wsL its).length, ?_, done ++ [z], its, us, _, _, _, rfl, same_mut sm3 nW2, ?_, ?_, hus3.keep (keepT_lst eW3), ?_, hok2, rfl⟩
          · rw [ew, List.length_append]
            omega
          · rw [upd_same, List.map_append]
            rfl
          · rw [upd_ne nWC.symm]
            exact eC3
          · rw [← hd, ew, List.append_assoc]
            rfl
      | @thing t' v' a ea hv =>
        refine ⟨a, _, rfl, .inl (.inl ea), rfl, _, _, rfl, _, _, rfl, rfl, ?_⟩
        refine ⟨.bl false, rfl, false, rfl, iteF ?_⟩
        refine ⟨v', rfl, _, _, _, _, _, rfl, .ty "tuple", hv.ty, kit_tup K t', isTup t', rfl, ?_⟩
        cases hT : isTup t' with
        | false =>
          have e1 : (It.thing t').ws = [leafW t'] := by
            show wordsT t' = _
            cases t' with
            | tup xs => cases hT
            | _ => rw [wordsT]; rfl
          rw [e1, List.length_singleton] at llen
          have nW2 : H W = none := nW
          refine iteF ?_
          refine ⟨.ref W, rfl, .inl ⟨rfl, _, .inl (.inl eW3)⟩, v', rfl, t', v', rfl, hv, hoki, hT, W, _, _, rfl, rfl, eW3, ?_, ?_⟩
          · rw [List.length_map]
            omega
          · refine ⟨(wsL its).length, ?_, done ++ [leafW t'], its, us, _, _, _, rfl, same_mut sm3 nW2, ?_, ?_, hus3.keep (keepT_lst eW3), ?_, hok2, rfl⟩
            · rw [ew, e1, List.length_append, List.length_singleton]
              omega
            · rw [upd_same, List.map_append]
              rfl
            · rw [upd_ne nWC.symm]
              exact eC3
            · rw [← hd, ew, e1, List.append_assoc]
        | true =>
          refine iteT ?_
          cases t' with
          | tup xs =>
            obtain ⟨pa, vs, rfl, epa, al⟩ := hv.inv_tup
            have e1 : (It.thing (.tup xs)).ws = ("(" : Str) :: (wordsL xs ++ [(")" : Str)]) := by
              show wordsT (.tup xs) = _
              rw [wordsT]
            have wfx : wfL xs := by
              have h2 : wfT (.tup xs) := hoki
              rw [wfT] at h2
              exact h2
            rw [e1, List.length_cons, List.length_append, List.length_singleton] at llen
            have nW2 : H W = none := nW
            refine ⟨.ref W, rfl, .inl ⟨rfl, _, .inl (.inl eW3)⟩, W, _, _, rfl, rfl, eW3, ?_, ?_⟩
            · rw [List.length_map]
              omega
            generalize eH4 : upd H3 W _ = H4
            have eW4 : H4 W = some (.lst ((done ++ [("(" : Str)]).map V.str)) := by
              rw [← eH4, upd_same, List.map_append]
              rfl
            have eC4 : H4 C = some (.lst us.reverse) := by
              rw [← eH4, upd_ne nWC.symm]
              exact eC3
            have sm4 : Same H H4 := eH4 ▸ same_mut sm3 nW2
            have k4 : KeepT H3 H4 := eH4 ▸ keepT_lst eW3
            refine ⟨.ref C, rfl, .inl ⟨rfl, _, .inl (.inl eC4)⟩, (by decide : (2 : Nat) ≤ sizeLine), fun T2 nT2 => ?_⟩
            generalize eH5 : upd H4 T2 _ = H5
            have s45 : Same H4 H5 := eH5 ▸ same_new nT2
            have eT5 : H5 T2 = some (.tup [.str ")", .bl true]) := eH5 ▸ upd_same
            have eC5 := s45 _ _ eC4
            refine ⟨C, _, _, rfl, rfl, eC5, ?_, ?_⟩
            · rw [List.length_reverse]
              omega
            generalize eH6 : upd H5 C _ = H6
            have eC6 : H6 C = some (.lst (us.reverse ++ [.ref T2])) := eH6 ▸ upd_same
            have eW6 : H6 W = some (.lst ((done ++ [("(" : Str)]).map V.str)) := by
              rw [← eH6, upd_ne nWC]
              exact s45 _ _ eW4
            have k6 : KeepT H3 H6 := (k4.trans (.of s45)).trans (eH6 ▸ keepT_lst eC5)
            have sm6 : Same H H6 := eH6 ▸ same_mut (sm4.trans s45) nC2
            have eT6 : H6 T2 = some (.tup [.str ")", .bl true]) := (eH6 ▸ keepT_lst eC5 : KeepT H5 H6) _ _ eT5
            refine ⟨.ref C, rfl, .inl ⟨rfl, _, .inl (.inl eC6)⟩, ?_⟩
            refine ⟨.ref pa, rfl, pa, vs, rfl, .inl (.inl (k6 _ _ epa)), fun R nR => ?_⟩
            generalize eH7 : upd H6 R _ = H7
            have s67 : Same H6 H7 := eH7 ▸ same_new nR
            have eR7 : H7 R = some (.tup vs.reverse) := eH7 ▸ upd_same
            refine ⟨R, rfl, ⟨_, .inl (.inl eR7)⟩, fun D nD => ?_⟩
            refine lc_tup (K := K) (a := R) (xs := vs.reverse) (fun i H' => Same H7 H' ∧ ∃ rs : List Addr, H' D = some (.lst (rs.map V.ref)) ∧ rs.length = i ∧
              ∀ (j : Nat) r v, rs[j]? = some r → vs.reverse[j]? = some v → H' r = some (.tup [v, .bl false])) ?_ ?_ ?_ ?_
            · exact ⟨same_new nD, [], upd_same, rfl, fun j r v h => by cases h⟩
            · rintro i H' _ ⟨sm, _⟩
              exact .inl (.inl (sm _ _ eR7))
            · rintro i x H' hx ⟨sm7, rs, eD, lr, hrs⟩
              refine ⟨rfl, ?_⟩
              unfold tYes
              refine iteT ?_
              refine ⟨x, rfl, (by decide : (2 : Nat) ≤ sizeLine), fun T3 n3 => ?_⟩
              have s8 := same_new (o := .tup [x, .bl false]) n3
              have n3D : T3 ≠ D := fun z => by
                rw [z, eD] at n3
                cases n3
              have li : i < vs.length := by
                have := (List.getElem?_eq_some_iff.mp hx).1
                rw [List.length_reverse] at this
                exact this
              have lvs : vs.length ≤ (wordsL xs).length := by
                rw [← al.1, ← wsL_things, ← List.length_map (f := It.thing)]
                exact wsL_len _
              refine ⟨rs.map V.ref, s8 _ _ eD, ?_, same_mut (sm7.trans s8) nD, rs ++ [T3], ?_, ?_, ?_⟩
              · rw [List.length_map, lr]
                omega
              · rw [upd_same]
                simp
              · rw [List.length_append, lr]
                rfl
              · intro j r v h1 h2
                by_cases hj : j < i
                · have h1' : rs[j]? = some r := by
                    rw [List.getElem?_append_left (by omega)] at h1
                    exact h1
                  have z := hrs j r v h1' h2
                  have nr : r ≠ D := fun w => by
                    rw [w, eD] at z
                    cases z
                  rw [upd_ne nr]
                  exact s8 _ _ z
                · have lj : j < (rs ++ [T3]).length := (List.getElem?_eq_some_iff.mp h1).1
                  rw [List.length_append, lr] at lj
                  have hj2 : j = i := by
                    have : [T3].length = 1 := rfl
                    omega
                  subst hj2
                  rw [List.getElem?_append_right (by omega), lr, Nat.sub_self] at h1
                  cases h1
                  rw [hx] at h2
                  cases h2
                  rw [upd_ne n3D, upd_same]
            rintro H8 ⟨s78, rs, eD, lr, hrs⟩
            rw [List.length_reverse] at lr
            have eC8 := s78 _ _ (s67 _ _ eC6)
            have lvs : vs.length ≤ (wordsL xs).length := by
              rw [← al.1, ← wsL_things, ← List.length_map (f := It.thing)]
              exact wsL_len _
            refine ⟨C, D, _, _, rfl, rfl, eC8, eD, ?_, ?_⟩
            · rw [List.length_append, List.length_reverse, List.length_map, lr]
              show us.length + 1 + _ ≤ _
              omega
            have kt8 : KeepT H3 H8 := k6.trans ((KeepT.of s67).trans (.of s78))
            have k9 : KeepT H8 (upd H8 C (.lst (us.reverse ++ [V.ref T2] ++ rs.map V.ref))) := keepT_lst eC8
            refine ⟨(wsL (xs.map It.thing ++ It.word ")" :: its)).length, ?_, done ++ [("(" : Str)], xs.map It.thing ++ It.word ")" :: its, rs.reverse.map V.ref ++ V.ref T2 :: us, _, _, _, rfl, same_mut ((sm6.trans s67).trans s78) nC2, ?_, ?_, ?_, ?_, ?_, rfl⟩
            · rw [wsL_app, wsL_things, List.length_append, ew, e1, List.length_append, List.length_cons, List.length_append, List.length_singleton]
              have e2 : (wsL (It.word (Str.ofString ")") :: its)).length = (wsL its).length + 1 := rfl
              omega
            · rw [upd_ne nWC]
              exact s78 _ _ (s67 _ _ eW6)
            · rw [upd_same, List.reverse_append, List.reverse_cons, ← List.map_reverse, List.reverse_reverse]
            · refine ItsR.app ?_ (.cons (.word (k9 _ _ (s78 _ _ (s67 _ _ eT6)))) (hus3.keep (kt8.trans k9)))
              refine things_R (al.keep fun p vs e => k9 _ _ (kt8 p vs e)) (by rw [List.length_reverse, lr]) fun j r v h1 h2 => ?_
              have hj := (List.getElem?_eq_some_iff.mp h2).1
              rw [List.getElem?_reverse (by omega), lr] at h1
              refine k9 _ _ (hrs _ r v h1 ?_)
              rw [List.getElem?_reverse (by omega)]
              rw [show vs.length - 1 - (vs.length - 1 - j) = j by omega]
              exact h2
            · rw [← hd, ew, e1, wsL_app, wsL_things]
              show (done ++ [("(" : Str)]) ++ (wordsL xs ++ ([(")" : Str)] ++ wsL its)) = _
              simp
            · intro i hi
              rcases List.mem_append.mp hi with hi | hi
              · obtain ⟨x, hx, rfl⟩ := List.mem_map.mp hi
                exact wfL_iff.mp wfx x hx
              · rcases List.mem_cons.mp hi with rfl | hi
                · exact okW_dec (by decide +kernel)
                · exact hok2 i hi
          | _ => cases hT
end
end K67

namespace K67
open PySem PySem.Spec PyProof.Rows L2 Kit
/-! ### words read -/
theorem starts_minus (w : Str) : Txt.startswith w "-" = decide (w.cps.toList.head? = some 45) := by
  have e : ("-" : Str) = ⟨#[45]⟩ := by decide +kernel
  rw [e]
  exact starts1 w 45
theorem starts_quote (w : Str) : Txt.startswith w "'" = decide (w.cps.toList.head? = some 39) := by
  have e : ("'" : Str) = ⟨#[39]⟩ := by decide +kernel
  rw [e]
  exact starts1 w 39
theorem figW_len (w : Str) : (figW w).length ≤ w.length := by
  unfold figW
  split
  · next h =>
    cases e : w.cps.toList with
    | nil =>
      rw [e] at h
      cases h
    | cons c r =>
      rw [← len_cps, cut1 e, ← len_cps w, e, List.length_cons]
      omega
  · exact Nat.le_refl _
theorem lt_one (c k : Nat) : (([c] : List Nat) < [k]) ↔ c < k := by
  rw [List.cons_lt_cons_iff]
  constructor
  · rintro (h | ⟨_, h⟩)
    · exact h
    · cases h
  · exact .inl
structure Tp (mg : Str → Option Value) : Prop where
  c_FIGURES : ∃ u, mg "FIGURES" = some u ∧ RelV (.str "0123456789") u
  c_MOST_FIGURES : ∃ u, mg "MOST_FIGURES" = some u ∧ RelV (.int 4000) u
theorem fig_if {z : Str} {σ : L2.St} {H : Hp} {Q : VK} (h0 : σ[0]? = some (some (.str z))) (hz : z.length ≤ sizeLine) (q : Q (.str (figW z)) H) :
    tIf (tB (tM1 (fun x xs H Q => ∃ a b, x = .str a ∧ xs = [.str b] ∧ Q (.bl (Txt.startswith a b)) H) (tVar 0) (tC (.str "-")))) (tSl rSlS (tVar 0) (tPart (tC (.int 1))) tNoPart) (tVar 0) σ H Q := by
  refine ⟨.str z, h0, ⟨_, rfl⟩, z, "-", rfl, rfl, _, rfl, ?_⟩
  rw [starts_minus]
  unfold figW at q
  by_cases h : z.cps.toList.head? = some 45
  · rw [if_pos h] at q
    rw [decide_eq_true h]
    exact iteT ⟨.str z, h0, 1, rfl, z, rfl, hz, q⟩
  · rw [if_neg h] at q
    rw [decide_eq_false h]
    exact iteF ⟨.str z, h0, q⟩
def spNumW : Sp := fun vs H Q _ => ∃ z : Str, vs = [.str z] ∧ z.length ≤ 1000000 ∧ ∀ H', Same H H' → Q (.bl (isNumW z)) H'
def spTxtW : Sp := fun vs H Q _ => ∃ z : Str, vs = [.str z] ∧ z.length ≤ 1000000 ∧ ∀ H', Same H H' → Q (.bl (isTxtW z)) H'
def spRW : Sp := fun vs H Q _ => ∃ (z : Str) (k : Int) (t : Td), vs = [.str z, .int k] ∧ z.length ≤ 640 ∧ rdW z = some t ∧ ∀ H' v, Same H H' → TdR H' t v → Q v H'
theorem decVS (a b : Str) : decide (V.str a = V.str b) = decide (a = b) := by
  by_cases h : a = b
  · rw [decide_eq_true h, h, decide_eq_true rfl]
  · rw [decide_eq_false h, decide_eq_false (fun z => h (by cases z; rfl))]
section
variable {P : Program} {w : World} {K : PySem.W.Frag} {mg : Str → Option Value} {base : Heap}
theorem ok_numW {f : Addr} {fd : FuncData} (D : DefAt K mg "is_shown_number" ["word"] s_is_shown_number f fd) (M : Bi mg) (T : Tp mg) :
    Cal P w K mg base L2.CX0 1 "is_shown_number" ["word"] spNumW := by
  have S := S_is_shown_number
  refine cal_of D.fn D.mgf D.bs D.kbs S (fun vs H Q E h => ?_) (fun cdv A outer s H vs Q E hq hr h => ?_)
  · obtain ⟨z, rfl, _⟩ := h
    rfl
  · obtain ⟨z, rfl, hz, q⟩ := h
    refine ⟨_, (pss_cons (ps_set (i := 1) S.nd rfl (.inl rfl) (pe_ifExp (pt_val (pe_m1 PySem.F.slot_str_startswith PySem.F.type_str_startswith mt_startswith (pv 0) pe_str)) (pe_slice sl_str (pv 0) (po_some pe_int) po_none) (pv 0)))
 (pss_cons (ps_if (PW.pt (pw_or (pt_not (pt_chain op_le op_le pe_int (pe_callB call_len_str (by rfl) M.len_ (by decide +kernel) (pa_cons (pv 1) pa_nil)) (C8.pe_gc (by rfl) T.c_MOST_FIGURES))) (pw_or1 (pt_not (pt_val (pe_callB (cr_all rfl) (by rfl) M.all_ (by decide +kernel) (pa_cons (pe_lc (own := [("sign", 2)]) (g := gName 2) (tt := tYes) rfl S.nd (pi_str (pv 1)) (blkOk_by (own := [("sign", 2)]) (N := N_is_shown_number) (sc := defScope s_is_shown_number) (by decide +kernel)) (fun _ _ _ _ _ => pg_name (i := 2) S.nd rfl (.inl rfl)) (fun _ _ _ _ _ => pts_nil) (fun _ _ _ _ _ => (pe_cmpR op_in_sign (pv 2) (C8.pe_gc (by rfl) T.c_FIGURES) rfl))) pa_nil)))))))
  (pss_one (ps_ret pe_bl))
  pss_nil)
 (pss_one (ps_ret (pe_or (pe_cmpR op_ne (pe_ix ix_str (pv 1) pe_int (fun _ _ => rfl)) pe_str (nomark _)) (pe_one (pe_cmpR op_eq (pv 0) pe_str (nomark _)))))))), ?_⟩
    have big : 1000000 < sizeLine := by decide
    refine fig_if rfl (by omega) ?_
    have hf := figW_len z
    have hq := q
    unfold isNumW at q
    revert q hf
    generalize figW z = f
    intro q hf
    have hf2 : f.length ≤ sizeLine := by omega
    refine ⟨.str f, rfl, f, rfl, hf2, 1, f.length, rfl, rfl, decide ((1 : Int) ≤ f.length), rfl, ?_⟩
    by_cases hl : 1 ≤ f.length ∧ f.length ≤ 4000
    · rw [decide_eq_true (show (1 : Int) ≤ f.length by omega)]
      refine iteT ⟨f.length, 4000, rfl, rfl, _, rfl, ?_⟩
      rw [decide_eq_true (show (f.length : Int) ≤ 4000 by omega)]
      refine iteF ?_
      refine ⟨.str f, rfl, f, rfl, fun D nD => ?_⟩
      refine lc_str (x := f) (fun i H' => Same H H' ∧ H' D = some (.lst (((f.cps.toList.take i).map dig).map V.bl))) ?_ ?_ ?_
      · exact ⟨same_new nD, upd_same⟩
      · rintro i c H' hc ⟨sm, eD⟩
        refine ⟨rfl, ?_⟩
        unfold tYes
        refine iteT ?_
        refine ⟨.str ⟨#[c]⟩, rfl, c, "0123456789", rfl, rfl, _, eD, ?_, same_mut sm nD, ?_⟩
        · rw [List.length_map, List.length_map, List.length_take]
          exact Nat.lt_of_le_of_lt (Nat.min_le_right _ _) (by
            rw [Array.length_toList]
            show f.length < _
            omega)
        · rw [upd_same, List.take_add_one, hc, List.map_append, List.map_append]
          rfl
      · rintro H' ⟨sm, eD⟩
        refine ⟨D, _, rfl, .inl (.inl eD), _, rfl, ?_⟩
        have ea : (((f.cps.toList.take f.cps.size).map dig).all id) = f.cps.toList.all dig := by
          rw [List.all_map, List.take_of_length_le (by rw [Array.length_toList]; exact Nat.le_refl _)]
          rfl
        rw [ea]
        have q' := q H' sm
        rw [decide_eq_true hl, Bool.true_and] at q'
        cases hd : f.cps.toList.all dig with
        | false =>
          rw [hd, Bool.false_and] at q'
          exact iteT q'
        | true =>
          rw [hd, Bool.true_and] at q'
          refine iteF ?_
          obtain ⟨c, r, ec⟩ : ∃ c r, f.cps.toList = c :: r := by
            cases e : f.cps.toList with
            | nil =>
              have h2 := len_cps f
              rw [e] at h2
              have h3 : f.length = 0 := h2.symm
              omega
            | cons c r => exact ⟨c, r, rfl⟩
          refine ⟨.str f, rfl, f, 0, c, rfl, rfl, hf2, ?_, rfl, _, rfl, ?_⟩
          · rw [ec]
            exact atI_nat (j := 0) rfl
          rw [ec] at q'
          have e1 : decide (V.str ⟨#[c]⟩ = V.str (Str.ofString "0")) = decide (c = 48) := by
            have e0 : ("0" : Str) = ⟨#[48]⟩ := by decide +kernel
            rw [decVS]
            by_cases h : c = 48
            · subst h
              rw [decide_eq_true e0.symm]
              rfl
            · rw [decide_eq_false h, decide_eq_false fun z => h ?_]
              have z2 := z.trans e0
              cases z2
              rfl
          rw [e1]
          by_cases h : c = 48
          · subst h
            refine iteF ⟨.str z, rfl, rfl, ?_⟩
            rw [decVS]
            have e3 : decide (((48 : Nat) :: r).head? ≠ some 48) = false := decide_eq_false fun z => z rfl
            rw [e3, Bool.false_or] at q'
            exact q'
          · rw [decide_eq_false h]
            refine iteT ?_
            have e3 : decide ((c :: r).head? ≠ some 48) = true := decide_eq_true fun z => h (Option.some.inj z)
            rw [e3, Bool.true_or] at q'
            exact q'
    · have q' := q H (Same.refl H)
      rw [decide_eq_false hl, Bool.false_and, Bool.false_and] at q'
      by_cases h1 : 1 ≤ f.length
      · rw [decide_eq_true (show (1 : Int) ≤ f.length by omega)]
        refine iteT ⟨f.length, 4000, rfl, rfl, _, rfl, ?_⟩
        rw [decide_eq_false (show ¬ (f.length : Int) ≤ 4000 by omega)]
        exact iteT (iteT q')
      · rw [decide_eq_false (show ¬ (1 : Int) ≤ f.length by omega)]
        exact iteF ⟨false, rfl, iteT q'⟩
theorem ok_txtW {f : Addr} {fd : FuncData} (D : DefAt K mg "is_shown_text" ["word"] s_is_shown_text f fd) (M : Bi mg) :
    Cal P w K mg base L2.CX0 1 "is_shown_text" ["word"] spTxtW := by
  have S := S_is_shown_text
  refine cal_of D.fn D.mgf D.bs D.kbs S (fun vs H Q E h => ?_) (fun cdv A outer s H vs Q E hq hr h => ?_)
  · obtain ⟨z, rfl, _⟩ := h
    rfl
  · obtain ⟨z, rfl, hz, q⟩ := h
    refine ⟨_, (pss_one (ps_ret (pe_and (pe_m1 PySem.F.slot_str_startswith PySem.F.type_str_startswith mt_startswith (pv 0) pe_str) (pe_and (pe_cmpR op_gt (pe_callB call_len_str (by rfl) M.len_ (by decide +kernel) (pa_cons (pv 0) pa_nil)) pe_int (nomark _)) (pe_one (pe_callB (cr_all rfl) (by rfl) M.all_ (by decide +kernel) (pa_cons (pe_lc (own := [("sign", 1)]) (g := gName 1) (tt := tYes) rfl S.nd (pi_str (pv 0)) (blkOk_by (own := [("sign", 1)]) (N := N_is_shown_text) (sc := defScope s_is_shown_text) (by decide +kernel)) (fun _ _ _ _ _ => pg_name (i := 1) S.nd rfl (.inl rfl)) (fun _ _ _ _ _ => pts_nil) (fun _ _ _ _ _ => (pe_chain op_le_str op_le_str pe_str (pv 1) pe_str))) pa_nil))))))), ?_⟩
    have big : 1000000 < sizeLine := by decide
    have hz2 : z.length ≤ sizeLine := by omega
    unfold isTxtW at q
    refine ⟨.str z, rfl, ⟨_, rfl⟩, z, "'", rfl, rfl, _, rfl, ?_⟩
    rw [starts_quote]
    cases h1 : decide (z.cps.toList.head? = some 39) with
    | false =>
      rw [h1, Bool.false_and] at q
      exact iteF (q H (Same.refl H))
    | true =>
      rw [h1, Bool.true_and] at q
      refine iteT ⟨.str z, rfl, z, rfl, hz2, z.length, 1, rfl, rfl, _, rfl, ?_⟩
      by_cases h2 : 1 < z.length
      · rw [decide_eq_true h2, Bool.true_and] at q
        rw [decide_eq_true (show (z.length : Int) > 1 by omega)]
        refine iteT ?_
        refine ⟨.str z, rfl, z, rfl, fun D nD => ?_⟩
        refine lc_str (x := z) (fun i H' => Same H H' ∧ H' D = some (.lst (((z.cps.toList.take i).map vis).map V.bl))) ?_ ?_ ?_
        · exact ⟨same_new nD, upd_same⟩
        · rintro i c H' hc ⟨sm, eD⟩
          refine ⟨rfl, ?_⟩
          unfold tYes
          refine iteT ?_
          have fin : upd H' D (.lst (((z.cps.toList.take i).map vis).map V.bl ++ [V.bl (vis c)])) D = some (.lst (((z.cps.toList.take (i + 1)).map vis).map V.bl)) := by
            rw [upd_same, List.take_add_one, hc, List.map_append, List.map_append]
            rfl
          have l1 : (((z.cps.toList.take i).map vis).map V.bl).length < sizeLine := by
            rw [List.length_map, List.length_map, List.length_take]
            exact Nat.lt_of_le_of_lt (Nat.min_le_right _ _) (by
              rw [Array.length_toList]
              show z.length < _
              omega)
          have ex : ("!" : Str).cps.toList = [33] := by decide +kernel
          have et : ("~" : Str).cps.toList = [126] := by decide +kernel
          refine ⟨.str ⟨#[c]⟩, rfl, "!", ⟨#[c]⟩, rfl, rfl, _, rfl, ?_⟩
          have e1 : (!decide ((⟨#[c]⟩ : Str).cps.toList < ("!" : Str).cps.toList)) = decide (33 ≤ c) := by
            rw [ex]
            show (!decide ([c] < [33])) = _
            by_cases h : 33 ≤ c
            · have a2 : decide (([c] : List Nat) < [33]) = false := decide_eq_false fun z => by
                have := (lt_one c 33).mp z
                omega
              rw [decide_eq_true h, a2]
              rfl
            · have a2 : decide (([c] : List Nat) < [33]) = true := decide_eq_true ((lt_one c 33).mpr (by omega))
              rw [decide_eq_false h, a2]
              rfl
          rw [e1]
          by_cases h : 33 ≤ c
          · rw [decide_eq_true h]
            refine iteT ⟨⟨#[c]⟩, "~", rfl, rfl, ?_⟩
            have e2 : (!decide (("~" : Str).cps.toList < (⟨#[c]⟩ : Str).cps.toList)) = vis c := by
              rw [et]
              show (!decide ([126] < [c])) = decide (33 ≤ c ∧ c ≤ 126)
              by_cases h' : c ≤ 126
              · have a1 : decide (33 ≤ c ∧ c ≤ 126) = true := decide_eq_true ⟨h, h'⟩
                have a2 : decide (([126] : List Nat) < [c]) = false := decide_eq_false fun z => by
                  have := (lt_one 126 c).mp z
                  omega
                rw [a1, a2]
                rfl
              · have a1 : decide (33 ≤ c ∧ c ≤ 126) = false := decide_eq_false fun z => h' z.2
                have a2 : decide (([126] : List Nat) < [c]) = true := decide_eq_true ((lt_one 126 c).mpr (by omega))
                rw [a1, a2]
                rfl
            rw [e2]
            exact ⟨_, eD, l1, same_mut sm nD, fin⟩
          · rw [decide_eq_false h]
            have e2 : vis c = false := decide_eq_false fun z => h z.1
            rw [e2] at fin
            exact iteF ⟨_, eD, l1, same_mut sm nD, fin⟩
        · rintro H' ⟨sm, eD⟩
          refine ⟨D, _, rfl, .inl (.inl eD), ?_⟩
          have ea : (((z.cps.toList.take z.cps.size).map vis).all id) = z.cps.toList.all vis := by
            rw [List.all_map, List.take_of_length_le (by rw [Array.length_toList]; exact Nat.le_refl _)]
            rfl
          rw [ea]
          exact q H' sm
      · rw [decide_eq_false h2, Bool.false_and] at q
        rw [decide_eq_false (show ¬ (z.length : Int) > 1 by omega)]
        exact iteF (q H (Same.refl H))
theorem ok_rw {f : Addr} {fd : FuncData} (D : DefAt K mg "read_word" ["word", "k"] s_read_word f fd) (M : Bi mg)
    (C_is_shown_text : Cal P w K mg base L2.CX0 1 "is_shown_text" ["word"] spTxtW) (C_is_shown_number : Cal P w K mg base L2.CX0 1 "is_shown_number" ["word"] spNumW) :
    Cal P w K mg base L2.CX0 2 "read_word" ["word", "k"] spRW := by
  have S := S_read_word
  refine cal_of D.fn D.mgf D.bs D.kbs S (fun vs H Q E h => ?_) (fun cdv A outer s H vs Q E hq hr h => ?_)
  · obtain ⟨z, k, t, rfl, _⟩ := h
    rfl
  · obtain ⟨z, k, t, rfl, hz, ht, q⟩ := h
    refine ⟨_, (pss_cons (ps_if (pt_cmpR op_eq (pv 0) pe_str (nomark _))
  (pss_one (ps_ret pe_non))
  pss_nil)
 (pss_cons (ps_if (pt_val (pe_c C_is_shown_text pass0 hq hr (by omega) (by rfl) (pa_cons (pv 0) pa_nil)))
  (pss_one (ps_ret (pe_slice sl_str (pv 0) (po_some pe_int) po_none)))
  pss_nil)
 (pss_cons (ps_if (pt_not (pt_val (pe_c C_is_shown_number pass0 hq hr (by omega) (by rfl) (pa_cons (pv 0) pa_nil))))
  (pss_one ps_never)
  pss_nil)
 (pss_one (ps_ret (pe_callTy call_int_str (by rfl) M.int_ (by decide +kernel) (pa_cons (pv 0) pa_nil))))))), ?_⟩
    unfold rdW at ht
    refine ⟨.str z, rfl, rfl, _, rfl, ?_⟩
    rw [decVS]
    by_cases h1 : z = "none"
    · rw [if_pos h1] at ht
      cases ht
      rw [decide_eq_true h1]
      exact iteT (q H _ (Same.refl H) .non)
    rw [if_neg h1] at ht
    rw [decide_eq_false h1]
    refine iteF ⟨.str z, rfl, z, rfl, by omega, fun H1 s1 => ?_⟩
    refine ⟨_, rfl, ?_⟩
    by_cases h2 : isTxtW z = true
    · rw [if_pos h2] at ht
      cases ht
      rw [h2]
      exact iteT ⟨.str z, rfl, 1, rfl, z, rfl, Nat.le_trans hz (by decide), q _ _ s1 (.str _)⟩
    rw [if_neg h2] at ht
    rw [Bool.eq_false_iff.mpr h2]
    refine iteF ⟨.str z, rfl, z, rfl, by omega, fun H2 s2 => ?_⟩
    refine ⟨_, rfl, ?_⟩
    by_cases h3 : isNumW z = true
    · rw [if_pos h3] at ht
      cases hi : intText? z with
      | none =>
        rw [hi] at ht
        cases ht
      | some n =>
        rw [hi] at ht
        cases ht
        rw [h3]
        exact iteF ⟨.str z, rfl, z, n, rfl, hi, hz, q _ _ (s1.trans s2) (.int n)⟩
    · rw [if_neg h3] at ht
      cases ht
end
end K67

namespace K67
open PySem PySem.Spec PyProof.Rows L2 Kit
/-! ### the stack of parts in the heap, the top first -/
structure StR (H : Hp) (p : Addr) (rs : List Addr) (stk : List (List Td)) : Prop where
  lst : H p = some (.lst (rs.reverse.map V.ref))
  len : rs.length = stk.length
  nd : rs.Nodup
  np : p ∉ rs
  at_ : ∀ (i : Nat) r ts, rs[i]? = some r → stk[i]? = some ts → ∃ vs, H r = some (.lst vs) ∧ All2 H ts vs
theorem StR.same {H H' : Hp} {p : Addr} {rs : List Addr} {stk : List (List Td)} (h : StR H p rs stk) (s : Same H H') : StR H' p rs stk :=
  ⟨s _ _ h.lst, h.len, h.nd, h.np, fun i r ts h1 h2 => by
    obtain ⟨vs, e, a⟩ := h.at_ i r ts h1 h2
    exact ⟨vs, s _ _ e, a.same s⟩⟩
theorem StR.head {H : Hp} {p : Addr} {rs : List Addr} {a : List Td} {stk : List (List Td)} (h : StR H p rs (a :: stk)) : ∃ r rs' vs, rs = r :: rs' ∧ H r = some (.lst vs) ∧ All2 H a vs ∧ p ≠ r := by
  cases rs with
  | nil => exact absurd h.len (by simp)
  | cons r rs' =>
    obtain ⟨vs, e, al⟩ := h.at_ 0 r a rfl rfl
    exact ⟨r, rs', vs, rfl, e, al, fun z => h.np (by rw [z]; exact List.mem_cons_self)⟩
/-- parts.append([]) -/
theorem StR.push {H : Hp} {p l : Addr} {rs : List Addr} {stk : List (List Td)} (h : StR H p rs stk) (n : H l = none) : StR (upd (upd H l (.lst [])) p (.lst (rs.reverse.map V.ref ++ [.ref l]))) p (l :: rs) ([] :: stk) := by
  have npl : p ≠ l := ne_of_none h.lst n
  have nl : l ∉ rs := fun hm => by
    obtain ⟨i, hi⟩ := List.getElem?_of_mem hm
    have hl : i < stk.length := by
      rw [← h.len]
      exact (List.getElem?_eq_some_iff.mp hi).1
    obtain ⟨vs, e, _⟩ := h.at_ i l _ hi (List.getElem?_eq_getElem hl)
    rw [e] at n
    cases n
  refine ⟨?_, by rw [List.length_cons, List.length_cons, h.len], List.nodup_cons.mpr ⟨nl, h.nd⟩, fun hm => ?_, fun i r ts h1 h2 => ?_⟩
  · rw [upd_same, List.reverse_cons, List.map_append]
    rfl
  · rcases List.mem_cons.mp hm with e | hm
    · exact npl e
    · exact h.np hm
  · cases i with
    | zero =>
      cases h1
      cases h2
      exact ⟨[], by rw [upd_ne npl.symm, upd_same], All2.nil⟩
    | succ i =>
      have h1 : rs[i]? = some r := h1
      have h2 : stk[i]? = some ts := h2
      obtain ⟨vs, e, al⟩ := h.at_ i r ts h1 h2
      have nr : r ≠ p := fun z => h.np (by rw [← z]; exact List.mem_of_getElem? h1)
      refine ⟨vs, ?_, al.keep fun q us eq => ?_⟩
      · rw [upd_ne nr, upd_ne (ne_of_none e n)]
        exact e
      · rw [upd_ne (ne_of eq h.lst (by intro z; cases z)), upd_ne (ne_of_none eq n)]
        exact eq
/-- parts.pop() -/
theorem StR.pop {H : Hp} {p r : Addr} {rs : List Addr} {a : List Td} {stk : List (List Td)} (h : StR H p (r :: rs) (a :: stk)) : StR (upd H p (.lst (rs.reverse.map V.ref))) p rs stk := by
  refine ⟨upd_same, by have := h.len; rw [List.length_cons, List.length_cons] at this; omega, (List.nodup_cons.mp h.nd).2, fun hm => h.np (List.mem_cons_of_mem _ hm), fun i r' ts h1 h2 => ?_⟩
  obtain ⟨vs, e, al⟩ := h.at_ (i + 1) r' ts h1 h2
  have nr : r' ≠ p := fun z => h.np (by rw [← z]; exact List.mem_cons_of_mem _ (List.mem_of_getElem? h1))
  refine ⟨vs, by rw [upd_ne nr]; exact e, al.keep fun q us eq => ?_⟩
  rw [upd_ne (ne_of eq h.lst (by intro z; cases z))]
  exact eq
/-- parts[-1].append(v) -/
theorem StR.put {H : Hp} {p r : Addr} {rs : List Addr} {a : List Td} {stk : List (List Td)} {vs : List V} {t : Td} {v : V} (h : StR H p (r :: rs) (a :: stk)) (e : H r = some (.lst vs)) (al : All2 H a vs) (ht : TdR H t v) :
    StR (upd H r (.lst (vs ++ [v]))) p (r :: rs) ((a ++ [t]) :: stk) := by
  have npr : p ≠ r := fun z => h.np (by rw [z]; exact List.mem_cons_self)
  have kt : KeepT H (upd H r (.lst (vs ++ [v]))) := keepT_lst e
  refine ⟨by rw [upd_ne npr]; exact h.lst, h.len, h.nd, h.np, fun i r' ts h1 h2 => ?_⟩
  cases i with
  | zero =>
    cases h1
    cases h2
    exact ⟨_, upd_same, (al.keep kt).snoc (ht.keep kt)⟩
  | succ i =>
    have h1 : rs[i]? = some r' := h1
    obtain ⟨us, e', al'⟩ := h.at_ (i + 1) r' ts h1 h2
    have nr : r' ≠ r := fun z => (List.nodup_cons.mp h.nd).1 (by rw [← z]; exact List.mem_of_getElem? h1)
    exact ⟨us, by rw [upd_ne nr]; exact e', al'.keep kt⟩
theorem step_inv {s s' : List (List Td)} {z : Str} (h : stepP s z = some s') : okS s = true ∧ ((z = "(" ∧ s' = [] :: s) ∨ (z = ")" ∧ z ≠ "(" ∧ ∃ a b r, s = a :: b :: r ∧ s' = (b ++ [.tup a]) :: r) ∨
    (z ≠ "(" ∧ z ≠ ")" ∧ ∃ a r t, s = a :: r ∧ rdW z = some t ∧ s' = (a ++ [t]) :: r)) := by
  unfold stepP at h
  by_cases h0 : okS s = true
  · rw [if_pos h0] at h
    refine ⟨h0, ?_⟩
    by_cases h1 : z = "("
    · rw [if_pos h1] at h
      cases h
      exact .inl ⟨h1, rfl⟩
    rw [if_neg h1] at h
    by_cases h2 : z = ")"
    · rw [if_pos h2] at h
      refine .inr (.inl ⟨h2, h1, ?_⟩)
      match s, h with
      | a :: b :: r, h =>
        cases h
        exact ⟨a, b, r, rfl, rfl⟩
    rw [if_neg h2] at h
    refine .inr (.inr ⟨h1, h2, ?_⟩)
    match s, h with
    | a :: r, h =>
      cases ht : rdW z with
      | none =>
        rw [ht] at h
        cases h
      | some t =>
        rw [ht] at h
        cases h
        exact ⟨a, r, t, rfl, rfl, rfl⟩
  · rw [if_neg h0] at h
    cases h
def smallS (s : List (List Td)) (n : Nat) : Prop := s.length ≤ n + 1 ∧ ∀ ts ∈ s, ts.length ≤ n
theorem step_small {s s' : List (List Td)} {z : Str} {n : Nat} (h : stepP s z = some s') (hs : smallS s n) : smallS s' (n + 1) := by
  obtain ⟨_, ⟨_, rfl⟩ | ⟨_, _, a, b, r, rfl, rfl⟩ | ⟨_, _, a, r, t, rfl, _, rfl⟩⟩ := step_inv h
  · refine ⟨Nat.succ_le_succ hs.1, fun ts ht => ?_⟩
    rcases List.mem_cons.mp ht with rfl | ht
    · exact Nat.zero_le _
    · exact Nat.le_succ_of_le (hs.2 ts ht)
  · refine ⟨?_, fun ts ht => ?_⟩
    · have := hs.1
      rw [List.length_cons, List.length_cons] at this
      rw [List.length_cons]
      omega
    · rcases List.mem_cons.mp ht with rfl | ht
      · rw [List.length_append, List.length_singleton]
        exact Nat.succ_le_succ (hs.2 b (List.mem_cons_of_mem _ List.mem_cons_self))
      · exact Nat.le_succ_of_le (hs.2 ts (List.mem_cons_of_mem _ (List.mem_cons_of_mem _ ht)))
  · refine ⟨?_, fun ts ht => ?_⟩
    · have := hs.1
      rw [List.length_cons] at this ⊢
      omega
    · rcases List.mem_cons.mp ht with rfl | ht
      · rw [List.length_append, List.length_singleton]
        exact Nat.succ_le_succ (hs.2 a List.mem_cons_self)
      · exact Nat.le_succ_of_le (hs.2 ts (List.mem_cons_of_mem _ ht))
def spReadT : Sp := fun vs H Q _ => ∃ t : Td, vs = [.str (lineT t)] ∧ wfT t ∧ (wordsT t).length ≤ 10000 ∧ ∀ H' v, Same H H' → TdR H' t v → Q v H'
theorem StR.bot {H : Hp} {p : Addr} {rs : List Addr} {stk : List (List Td)} (h : StR H p rs stk) (ok : okS stk = true) : ∃ rb, atI (rs.reverse.map V.ref) 0 = some (.ref rb) ∧ H rb = some (.lst []) := by
  have hl : stk.getLast? = some [] := by
    unfold okS at ok
    split at ok
    · assumption
    · cases ok
  rw [List.getLast?_eq_getElem?] at hl
  have hn := (List.getElem?_eq_some_iff.mp hl).1
  rw [← h.len] at hl hn
  obtain ⟨rb, hrb⟩ : ∃ rb, rs[rs.length - 1]? = some rb := ⟨_, List.getElem?_eq_getElem hn⟩
  obtain ⟨vs, e, al⟩ := h.at_ _ rb [] hrb hl
  rw [al.inv_nil] at e
  refine ⟨rb, atI_nat (j := 0) ?_, e⟩
  rw [List.getElem?_map, List.getElem?_reverse (by omega), Nat.sub_zero, hrb]
  rfl
theorem last_ref {r : Addr} {rs : List Addr} : atI ((r :: rs).reverse.map V.ref) (-1) = some (.ref r) := by
  have h : ((r :: rs).reverse.map V.ref) = rs.reverse.map V.ref ++ [.ref r] := by
    rw [List.reverse_cons, List.map_append]
    rfl
  rw [h]
  unfold atI
  have e : ixN (rs.reverse.map V.ref ++ [V.ref r]).length (-1) = some rs.length := by
    rw [List.length_append, List.length_map, List.length_reverse, List.length_singleton]
    unfold ixN
    split
    · omega
    · split
      · congr 1
        omega
      · omega
  rw [e]
  show (rs.reverse.map V.ref ++ [V.ref r])[rs.length]? = _
  rw [List.getElem?_append_right (by rw [List.length_map, List.length_reverse]; exact Nat.le_refl _), List.length_map, List.length_reverse, Nat.sub_self]
  rfl
theorem popR (r : Addr) (rs : List Addr) : ((r :: rs).reverse.map V.ref)[((r :: rs).reverse.map V.ref).length - 1]? = some (.ref r) ∧ ((r :: rs).reverse.map V.ref).dropLast = rs.reverse.map V.ref := by
  rw [List.map_reverse, List.map_cons, List.map_reverse]
  exact pop_last (rs.map V.ref) (.ref r)
section
variable {P : Program} {w : World} {K : PySem.W.Frag} {mg : Str → Option Value} {base : Heap}
theorem ok_read {f : Addr} {fd : FuncData} (D : DefAt K mg "read_thing" ["text"] s_read_thing f fd) (M : Bi mg)
    (C_read_word : Cal P w K mg base L2.CX0 2 "read_word" ["word", "k"] spRW) : Cal P w K mg base L2.CX0 3 "read_thing" ["text"] spReadT := by
  have S := S_read_thing
  refine cal_of D.fn D.mgf D.bs D.kbs S (fun vs H Q E h => ?_) (fun cdv A outer s H vs Q E hq hr h => ?_)
  · obtain ⟨t, rfl, _⟩ := h
    rfl
  · obtain ⟨t, rfl, hw, hl, q⟩ := h
    refine ⟨_, (pss_cons (ps_if (pt_not (pt_val (pe_callB call_isi (by rfl) M.isinstance_ (by decide +kernel) (pa_cons (pv 0) (pa_cons (pe_bltn (v := .ty "str") (u := .type "str") (by rfl) M.str_ (by decide +kernel) rfl) pa_nil)))))
  (pss_one ps_never)
  pss_nil)
 (pss_cons (ps_set (i := 1) S.nd rfl (.inl rfl) (pe_split (pv 0) pe_str))
 (pss_cons (ps_set (i := 2) S.nd rfl (.inl rfl) (pe_lst (pa_cons (pe_lst pa_nil) pa_nil)))
 (pss_cons (ps_for PassesOwn.never rfl (pi_enum (by rfl) M.enumerate_ (pa_cons (pv 1) pa_nil)) (pg_tup (by rfl) (pgs_cons (pg_name (i := 3) S.nd rfl (.inl rfl)) (pgs_cons (pg_name (i := 4) S.nd rfl (.inl rfl)) pgs_nil)))
  (pss_cons (ps_if (PW.pt (pw_or (pt_truth (pe_ix ix_list (pv 2) pe_int (fun _ _ => rfl)) (by intro _; rfl)) (pw_or1 (PW.pt (pw_and (pt_cmpR op_eq (pv 4) pe_str (nomark _)) (pw_and1 (pt_cmpR op_eq (pe_callB call_len_seq (by rfl) M.len_ (by decide +kernel) (pa_cons (pv 2) pa_nil)) pe_int (nomark _))))))))
  (pss_one ps_never)
  pss_nil)
 (pss_one (ps_if (pt_cmpR op_eq (pv 4) pe_str (nomark _))
  (pss_one (ps_expr (pe_bm PySem.F.plainAttrs_list PySem.F.slot_list_append PySem.F.type_list_append mt_append (pv 2) (pa_cons (pe_lst pa_nil) pa_nil))))
  (pss_one (ps_if (pt_cmpR op_eq (pv 4) pe_str (nomark _))
  (pss_cons (ps_set (i := 5) S.nd rfl (.inl rfl) (pe_callTy call_tuple_of (by rfl) M.tuple_ (by decide +kernel) (pa_cons (pe_bm0 PySem.F.plainAttrs_list PySem.F.slot_list_pop PySem.F.type_list_pop (mt_pop) (pv 2)) pa_nil)))
 (pss_one (ps_expr (pe_bm PySem.F.plainAttrs_list PySem.F.slot_list_append PySem.F.type_list_append mt_append (pe_ix ix_list (pv 2) (pe_un un_neg pe_int) (fun _ _ => rfl)) (pa_cons (pv 5) pa_nil)))))
  (pss_one (ps_expr (pe_bm PySem.F.plainAttrs_list PySem.F.slot_list_append PySem.F.type_list_append mt_append (pe_ix ix_list (pv 2) (pe_un un_neg pe_int) (fun _ _ => rfl)) (pa_cons (pe_c C_read_word pass0 hq hr (by omega) (by rfl) (pa_cons (pv 4) (pa_cons (pv 3) pa_nil))) pa_nil))))))))))
 (pss_cons (ps_if (pt_cmpR op_gt (pe_callB call_len_seq (by rfl) M.len_ (by decide +kernel) (pa_cons (pv 2) pa_nil)) pe_int (nomark _))
  (pss_one ps_never)
  pss_nil)
 (pss_one (ps_ret (pe_ix ix_list (pe_ix ix_list (pv 2) pe_int (fun _ _ => rfl)) pe_int (fun _ _ => rfl))))))))), ?_⟩
    have ll : (lineT t).length ≤ 600000 := by
      show (Builtin.Str.glued " " (wordsT t)).length ≤ _
      rw [StrLaws.glued_eq_join]
      refine Nat.le_trans (StrLaws.join_length_le " " (wordsT t)) ?_
      have h1 := sum_le (L := 50) fun y hy => (words_ok t hw y hy).2.1
      have e1 : (" " : Str).length = 1 := rfl
      rw [e1]
      omega
    have big : 1000000 < sizeLine := by decide
    refine ⟨.str (lineT t), rfl, _, _, _, _, _, rfl, .ty "str", (TdR.str (H := H) (lineT t)).ty (K := K), kit_str K (.str (lineT t)), true, rfl, iteF ?_⟩
    refine ⟨.str (lineT t), rfl, ⟨_, rfl⟩, lineT t, " ", rfl, rfl, by decide, by omega, fun W nW => ?_⟩
    rw [line_split hw]
    generalize eH1 : upd H W _ = H1
    have s1 : Same H H1 := eH1 ▸ same_new nW
    have eW : H1 W = some (.lst ((wordsT t).map V.str)) := eH1 ▸ upd_same
    refine ⟨Nat.zero_le _, fun R nR => ⟨(by decide : (1 : Nat) ≤ sizeLine), fun C nC => ?_⟩⟩
    have nRC : R ≠ C := fun z => by
      rw [z, upd_same] at nC
      cases nC
    have nC1 : H1 C = none := by
      rw [upd_ne nRC.symm] at nC
      exact nC
    generalize eH2 : upd (upd H1 R _) C _ = H2
    have s12 : Same H1 H2 := eH2 ▸ (same_new nR).trans (same_new nC)
    have st0 : StR H2 C [R] [[]] := by
      refine ⟨eH2 ▸ upd_same, rfl, by simp, fun hm => nRC (List.mem_singleton.mp hm).symm, fun i r ts h1 h2 => ?_⟩
      cases i with
      | zero =>
        cases h1
        cases h2
        exact ⟨[], by rw [← eH2, upd_ne nRC, upd_same], All2.nil⟩
      | succ i => cases h1
    have nWC : W ≠ C := ne_of_none eW nC1
    have nWR : W ≠ R := ne_of_none eW nR
    have run := run_line hw
    generalize ews : wordsT t = ws at *
    have wok : ∀ z ∈ ws, okW z := by
      rw [← ews]
      exact words_ok t hw
    refine ⟨.ref W, rfl, W, _, rfl, .inl (.inl (s12 _ _ eW)), for_it (walk_enum (K := K) (a := W) (xs := ws.map V.str)) (fun i σ H' => ∃ (stk : List (List Td)) (rs : List Addr) (x3 x4 x5 : Option V),
      σ = [some (.str (lineT t)), some (.ref W), some (.ref C), x3, x4, x5] ∧ Same H H' ∧ H' W = some (.lst (ws.map V.str)) ∧ StR H' C rs stk ∧ runW (ws.take i) [[]] = some stk ∧ smallS stk i ∧ (∀ r ∈ rs, H r = none) ∧ W ∉ rs) ?_ ?_ ?_ ?_⟩
    · refine ⟨[[]], [R], none, none, none, rfl, s1.trans s12, s12 _ _ eW, st0, rfl, ⟨Nat.le_refl _, fun ts h => ?_⟩, fun r h => ?_, fun h => nWR (List.mem_singleton.mp h)⟩
      · rw [List.mem_singleton.mp h]
        exact Nat.le_refl _
      · rw [List.mem_singleton.mp h]
        exact none_back s1 nR
    · rintro i σ H' _ ⟨stk, rs, x3, x4, x5, _, _, e, _⟩
      exact .inl (.inl e)
    · rintro i x σ H' H3 hi ⟨stk, rs, x3, x4, x5, rfl, sm, eW2, st, hrun, hsm, hnew, hW⟩ ⟨TT, u, v, rfl, nT, rfl, e1, e2⟩
      cases e1
      rw [List.length_map] at hi
      obtain ⟨z, hz⟩ : ∃ z, ws[i]? = some z := ⟨ws[i], List.getElem?_eq_getElem hi⟩
      have e2 : (ws.map V.str)[i]? = some v := e2
      rw [List.getElem?_map, hz] at e2
      cases e2
      have oz := wok z (List.mem_of_getElem? hz)
      obtain ⟨stk', hst, hrun'⟩ := runW_step run hrun hz
      have hsm' := step_small hst hsm
      obtain ⟨ok, hcase⟩ := step_inv hst
      refine ⟨TT, _, rfl, .inl (.inl upd_same), rfl, _, _, rfl, _, _, rfl, rfl, ?_⟩
      have sT := same_new (o := .tup [.int (i : Int), .str z]) nT
      have st := st.same sT
      have eW2 := sT _ _ eW2
      have sm := sm.trans sT
      revert st eW2 sm
      generalize upd H' TT (.tup [.int (i : Int), .str z]) = G
      intro st eW2 sm
      obtain ⟨rb, hb, eb⟩ := st.bot ok
      have lrs : rs.length = stk.length := st.len
      have nC0 : H C = none := none_back s1 nC1
      refine ⟨.ref C, rfl, C, _, _, _, rfl, rfl, .inl (.inl st.lst), hb, false, .inl ⟨_, .inl (.inl eb), rfl⟩, iteF ?_⟩
      refine ⟨.str z, rfl, rfl, _, rfl, ?_⟩
      rw [decVS]
      have ls : stk.length ≤ i + 1 := hsm.1
      rcases hcase with ⟨hz1, rfl⟩ | ⟨hz1, hz2, a, b, r, rfl, rfl⟩ | ⟨hz1, hz2, a, r, t', rfl, hrd, rfl⟩
      · have d1 : decide (z = ")") = false := decide_eq_false fun y => absurd (hz1.symm.trans y) (by decide +kernel)
        rw [d1]
        refine iteF (iteF ?_)
        refine ⟨.str z, rfl, rfl, _, rfl, ?_⟩
        rw [decVS, decide_eq_true hz1]
        refine iteT ?_
        refine ⟨.ref C, rfl, .inl ⟨rfl, _, .inl (.inl st.lst)⟩, Nat.zero_le _, fun L nL => ?_⟩
        have sL := same_new (o := .lst []) nL
        refine ⟨C, _, _, rfl, rfl, sL _ _ st.lst, ?_, ?_⟩
        · rw [List.length_map, List.length_reverse]
          omega
        · refine ⟨[] :: stk, L :: rs, _, _, _, rfl, same_mut (sm.trans sL) nC0, ?_, st.push nL, hrun', hsm', fun r hr => ?_, fun h => ?_⟩
          · rw [upd_ne nWC]
            exact sL _ _ eW2
          · rcases List.mem_cons.mp hr with rfl | hr
            · exact none_back sm nL
            · exact hnew r hr
          · rcases List.mem_cons.mp h with e | h
            · exact ne_of_none eW2 nL e
            · exact hW h
      · obtain ⟨r1, rs1, vs1, rfl, e1, al1, n1⟩ := st.head
        rw [decide_eq_true hz1]
        refine iteT ⟨.ref C, rfl, C, _, rfl, .inl (.inl (.inl st.lst)), rfl, _, rfl, ?_⟩
        have d0 : decide (V.int (((r1 :: rs1).reverse.map V.ref).length : Nat) = V.int 1) = false := decide_eq_false fun y => by
          have y2 := V.int.inj y
          rw [List.length_map, List.length_reverse, lrs, List.length_cons, List.length_cons] at y2
          omega
        rw [d0]
        refine iteF ?_
        refine ⟨.str z, rfl, rfl, _, rfl, ?_⟩
        rw [decVS, decide_eq_false hz2]
        refine iteF ⟨.str z, rfl, rfl, _, rfl, ?_⟩
        rw [decVS, decide_eq_true hz1]
        refine iteT ?_
        obtain ⟨p1, p2⟩ := popR r1 rs1
        refine ⟨.ref C, rfl, .inl ⟨rfl, _, .inl (.inl st.lst)⟩, C, _, _, rfl, rfl, st.lst, p1, ?_⟩
        rw [p2]
        have st1 := st.pop
        have k1 : KeepT G (upd G C (.lst (rs1.reverse.map V.ref))) := keepT_lst st.lst
        have e11 : (upd G C (.lst (rs1.reverse.map V.ref))) r1 = some (.lst vs1) := by
          rw [upd_ne n1.symm]
          exact e1
        have eW3 : (upd G C (.lst (rs1.reverse.map V.ref))) W = some (.lst (ws.map V.str)) := by
          rw [upd_ne nWC]
          exact eW2
        have sm1 : Same H (upd G C (.lst (rs1.reverse.map V.ref))) := same_mut sm nC0
        have al11 := al1.keep k1
        revert st1 k1 e11 eW3 sm1 al11
        generalize upd G C (.lst (rs1.reverse.map V.ref)) = G1
        intro st1 k1 e11 eW3 sm1 al11
        refine ⟨r1, vs1, rfl, .inl ⟨.inl (.inl e11), fun p np => ?_⟩⟩
        have s2 := same_new (o := .tup vs1) np
        have ep : (upd G1 p (.tup vs1)) p = some (.tup vs1) := upd_same
        have st2 := st1.same s2
        have eW4 := s2 _ _ eW3
        have sm2 := sm1.trans s2
        have al2 := al11.same s2
        revert st2 eW4 sm2 al2 ep
        generalize upd G1 p (.tup vs1) = G2
        intro ep st2 eW4 sm2 al2
        obtain ⟨r2, rs2, vs2, rfl, e2, alb, n2⟩ := st2.head
        have lb : vs2.length ≤ i := by
          rw [← alb.1]
          exact hsm.2 b (List.mem_cons_of_mem _ List.mem_cons_self)
        refine ⟨.ref C, rfl, _, rfl, C, _, _, _, rfl, rfl, .inl (.inl st2.lst), last_ref, .inl ⟨rfl, _, .inl (.inl e2)⟩, .ref p, rfl, r2, _, _, rfl, rfl, e2, by omega, ?_⟩
        have hr2 : r2 ∈ r1 :: r2 :: rs2 := List.mem_cons_of_mem _ List.mem_cons_self
        refine ⟨_, r2 :: rs2, _, _, _, rfl, same_mut sm2 (hnew r2 hr2), ?_, st2.put e2 alb (TdR.mk ep al2), hrun', hsm', fun r hr => hnew r (List.mem_cons_of_mem _ hr), fun h => hW (List.mem_cons_of_mem _ h)⟩
        rw [upd_ne fun z => hW (by rw [z]; exact hr2)]
        exact eW4
      · obtain ⟨r1, rs1, vs1, rfl, e1, al1, n1⟩ := st.head
        rw [decide_eq_false hz2]
        refine iteF (iteF ?_)
        refine ⟨.str z, rfl, rfl, _, rfl, ?_⟩
        rw [decVS, decide_eq_false hz1]
        refine iteF ⟨.str z, rfl, rfl, _, rfl, ?_⟩
        rw [decVS, decide_eq_false hz2]
        refine iteF ?_
        have la : vs1.length ≤ i := by
          rw [← al1.1]
          exact hsm.2 a List.mem_cons_self
        refine ⟨.ref C, rfl, _, rfl, C, _, _, _, rfl, rfl, .inl (.inl st.lst), last_ref, .inl ⟨rfl, _, .inl (.inl e1)⟩, .str z, rfl, .int (i : Int), rfl, z, (i : Int), t', rfl, by have := oz.2.1; omega, hrd, fun G2 v s2 tv => ?_⟩
        refine ⟨r1, _, _, rfl, rfl, s2 _ _ e1, by omega, ?_⟩
        have hr1 : r1 ∈ r1 :: rs1 := List.mem_cons_self
        refine ⟨_, r1 :: rs1, _, _, _, rfl, same_mut (sm.trans s2) (hnew r1 hr1), ?_, (st.same s2).put (s2 _ _ e1) (al1.same s2) tv, hrun', hsm', hnew, hW⟩
        rw [upd_ne fun z => hW (by rw [z]; exact hr1)]
        exact s2 _ _ eW2
    · rintro σ H' ⟨stk, rs, x3, x4, x5, rfl, sm, eW2, st, hrun, hsm, hnew, hW⟩
      rw [List.length_map, List.take_of_length_le (Nat.le_refl _), run] at hrun
      cases hrun
      obtain ⟨r1, rs1, vs1, rfl, e1, al1, n1⟩ := st.head
      have l1 : rs1 = [] := by
        have := st.len
        rw [List.length_cons, List.length_singleton] at this
        exact List.eq_nil_of_length_eq_zero (by omega)
      subst l1
      obtain ⟨v, vs', rfl, tv, al2⟩ := al1.inv_cons
      refine ⟨.ref C, rfl, C, _, rfl, .inl (.inl (.inl st.lst)), _, 1, rfl, rfl, _, rfl, iteF ?_⟩
      refine ⟨.ref C, rfl, C, _, _, _, rfl, rfl, .inl (.inl st.lst), atI_nat (j := 0) rfl, r1, _, _, _, rfl, rfl, .inl (.inl e1), atI_nat (j := 0) rfl, q _ _ sm tv⟩
end
end K67

namespace K67
open PySem PySem.Spec PyProof.Rows L2 Kit
/-! ### things drawn -/
theorem But.kt {d c : Addr} {H H' : Hp} {t : Nat} (b : But d c H H') (k : Deck H d c t) : KeepT H H' := fun p vs e => by
  obtain ⟨cs, sd, h1, h2, _⟩ := k.ex
  exact b p _ (ne_of e h1 (by intro z; cases z)) (ne_of e h2 (by intro z; cases z)) e
theorem ite_and {b1 b2 : Bool} {R N X : Prop} (hx : (if b2 = true then R else N) → X) (h : if (b1 && b2) = true then R else N) : if b1 = true then X else (if false = true then R else N) := by
  cases b1 with
  | true =>
    rw [Bool.true_and] at h
    exact iteT (hx h)
  | false =>
    rw [Bool.false_and] at h
    exact iteF h
def cost (n : Nat) : Nat := 20 * 5 ^ n
def szT (n : Nat) : Nat := 3 * 5 ^ n
theorem cost_succ (n : Nat) : cost (n + 1) = 5 * cost n := by unfold cost; rw [Nat.pow_succ]; omega
theorem szT_succ (n : Nat) : szT (n + 1) = 5 * szT n := by unfold szT; rw [Nat.pow_succ]; omega
theorem cost_pos (n : Nat) : 20 ≤ cost n := by
  unfold cost
  have : 0 < 5 ^ n := Nat.pow_pos (by decide)
  omega
theorem szT_pos (n : Nat) : 3 ≤ szT n := by
  unfold szT
  have : 0 < 5 ^ n := Nat.pow_pos (by decide)
  omega
def spThing (n : Nat) : Sp := fun vs H Q _ => ∃ (d c : Addr) (t : Nat) (k : Int), vs = [.ref d, .int k] ∧ k = (n : Int) ∧ Deck H d c t ∧ t + cost n < 1000000000 ∧
  ∀ (H' : Hp) (v : V) (t' : Nat) (x : Td), But d c H H' → Deck H' d c t' → t ≤ t' → t' ≤ t + cost n → TdR H' x v → Gd x n (szT n) → Q v H'
def spRec : Nat → Sp
  | 0 => fun _ _ _ _ => False
  | n + 1 => spThing n
theorem Gd.leaf {t : Td} (h : wfT t) (h2 : isTup t = false) (n : Nat) : Gd t n (szT n) := by
  have e := szT_pos n
  refine ⟨h, ?_, ?_⟩
  · cases t with
    | tup xs => cases h2
    | _ => rw [depT] <;> first | exact Nat.zero_le _ | (intro _ z; cases z)
  · cases t with
    | tup xs => cases h2
    | _ => rw [wordsT]; show 1 ≤ _; omega
theorem Gd.tupl {n : Nat} {xs : List Td} (h : ∀ x ∈ xs, Gd x n (szT n)) (hl : xs.length ≤ 4) : Gd (.tup xs) (n + 1) (szT (n + 1)) := by
  have h1 : ∀ {ys : List Td}, (∀ x ∈ ys, Gd x n (szT n)) → wfL ys ∧ depL ys ≤ n ∧ (wordsL ys).length ≤ ys.length * szT n := by
    intro ys
    induction ys with
    | nil =>
      intro _
      rw [wfL, depL, wordsL]
      exact ⟨trivial, Nat.zero_le _, Nat.zero_le _⟩
    | cons y ys ih =>
      intro hy
      obtain ⟨a, b, c⟩ := ih fun x hx => hy x (List.mem_cons_of_mem _ hx)
      have g := hy y List.mem_cons_self
      rw [wfL, depL, wordsL, List.length_append, List.length_cons, Nat.succ_mul]
      exact ⟨⟨g.wf, a⟩, Nat.max_le.mpr ⟨g.dp, b⟩, by have := g.ln; omega⟩
  obtain ⟨a, b, c⟩ := h1 h
  refine ⟨by rw [wfT]; exact a, by rw [depT]; omega, ?_⟩
  rw [wordsT, List.length_cons, List.length_append, List.length_singleton, szT_succ]
  have := szT_pos n
  have : xs.length * szT n ≤ 4 * szT n := Nat.mul_le_mul_right _ hl
  omega
abbrev sgs : Str := Str.ofString "!\"#$&'()*+,-./0123456789:;<=>?@AZ[\\]^_`az{|}~"
theorem sgs_ok : ∀ c ∈ sgs.cps.toList, 33 ≤ c ∧ c ≤ 126 := by
  have h : (sgs.cps.toList.all fun c => decide (33 ≤ c ∧ c ≤ 126)) = true := by decide +kernel
  exact fun c hc => of_decide_eq_true (List.all_eq_true.mp h c hc)
theorem goodZ_dec {z : Str} (h : (decide (1 ≤ z.length ∧ z.length ≤ 20) && z.cps.toList.all fun c => decide (33 ≤ c ∧ c ≤ 126)) = true) : goodZ z := by
  rw [Bool.and_eq_true, decide_eq_true_eq, List.all_eq_true] at h
  exact ⟨h.1.1, h.1.2, fun c hc => of_decide_eq_true (h.2 c hc)⟩
theorem joinL_nil : ∀ ls : List (List Nat), TL.joinL [] ls = ls.flatten
  | [] => rfl
  | [x] => by
    show x = x ++ []
    rw [List.append_nil]
  | x :: y :: r => by
    show x ++ ([] ++ TL.joinL [] (y :: r)) = x ++ (y :: r).flatten
    rw [List.nil_append, joinL_nil (y :: r)]
theorem tl_txtjoin (sep : Str) (ps : List Str) : TL.tl (Txt.join sep ps) = TL.joinL (TL.tl sep) (ps.map TL.tl) := by
  show TL.tl (Builtin.Str.glued sep ps) = _
  rw [StrLaws.glued_eq_join, TL.tl_join]
theorem join_signs {ys : List Str} (h : ∀ y ∈ ys, y.length = 1 ∧ ∀ c ∈ y.cps.toList, 33 ≤ c ∧ c ≤ 126) : (Txt.join (Str.ofString "") ys).length = ys.length ∧ ∀ c ∈ (Txt.join (Str.ofString "") ys).cps.toList, 33 ≤ c ∧ c ≤ 126 := by
  have e : (Txt.join (Str.ofString "") ys).cps.toList = (ys.map TL.tl).flatten := by
    have := tl_txtjoin (Str.ofString "") ys
    rw [show TL.tl (Str.ofString "") = [] from rfl, joinL_nil] at this
    exact this
  constructor
  · rw [← len_cps, e, List.length_flatten, List.map_map]
    have : ∀ zs : List Str, (∀ y ∈ zs, y.length = 1 ∧ ∀ c ∈ y.cps.toList, 33 ≤ c ∧ c ≤ 126) → (zs.map (List.length ∘ TL.tl)).sum = zs.length := by
      intro zs
      induction zs with
      | nil => intro _; rfl
      | cons z zs ih =>
        intro hz
        rw [List.map_cons, List.sum_cons, ih fun y hy => hz y (List.mem_cons_of_mem _ hy), List.length_cons]
        have e1 : (List.length ∘ TL.tl) z = 1 := by
          show z.cps.toList.length = 1
          rw [len_cps]
          exact (hz z List.mem_cons_self).1
        omega
    exact this ys h
  · intro c hc
    rw [e] at hc
    obtain ⟨l, hl, hc⟩ := List.mem_flatten.mp hc
    obtain ⟨y, hy, rfl⟩ := List.mem_map.mp hl
    exact (h y hy).2 c hc
theorem sum_one : ∀ {ys : List Str}, (∀ y ∈ ys, y.length = 1) → (ys.map (·.length)).sum = ys.length
  | [], _ => rfl
  | y :: ys, h => by
    rw [List.map_cons, List.sum_cons, h y List.mem_cons_self, sum_one fun z hz => h z (List.mem_cons_of_mem _ hz), List.length_cons]
    omega
section
variable {P : Program} {w : World} {K : PySem.W.Frag} {mg : Str → Option Value} {base : Heap}
theorem ok_thing {L n : Nat} {f : Addr} {fd : FuncData} (D : DefAt K mg "_law_thing" ["_law_deck_here", "_law_deep"] s_l_thing f fd) (M : Bi mg) (hL : 1 ≤ L)
    (C_l_draw : Cal P w K mg base L2.CX0 1 "_law_draw" ["_law_deck_here", "_law_sides"] spDraw)
    (C_l_thing : Cal P w K mg base L2.CX0 L "_law_thing" ["_law_deck_here", "_law_deep"] (spRec n)) :
    Cal P w K mg base L2.CX0 (L + 1) "_law_thing" ["_law_deck_here", "_law_deep"] (spThing n) := by
  have S := S_l_thing
  refine cal_of D.fn D.mgf D.bs D.kbs S (fun vs H Q E h => ?_) (fun cdv A outer s H vs Q E hq hr h => ?_)
  · obtain ⟨d, c, t, k, rfl, _⟩ := h
    rfl
  · obtain ⟨d, c, t, k, rfl, rfl, dk, ht, q⟩ := h
    refine ⟨_, (pss_cons (ps_set (i := 2) S.nd rfl (.inl rfl) (pe_c C_l_draw pass0 hq hr (by omega) (by rfl) (pa_cons (pv 0) (pa_cons pe_int pa_nil))))
 (pss_cons (ps_if (PW.pt (pw_and (pt_cmpR op_gt (pv 1) pe_int (nomark _)) (pw_and1 (pt_cmpR op_lt (pv 2) pe_int (nomark _)))))
  (pss_one (ps_ret (pe_callTy call_tuple_of (by rfl) M.tuple_ (by decide +kernel) (pa_cons (pe_lc (own := [("_law_k", 3)]) (g := gName 3) (tt := tYes) rfl S.nd (pi_range1 (by rfl) M.range_ (pa_cons (pe_c C_l_draw pass0 hq hr (by omega) (by rfl) (pa_cons (pv 0) (pa_cons pe_int pa_nil))) pa_nil)) (blkOk_by (own := [("_law_k", 3)]) (N := N_l_thing) (sc := defScope s_l_thing) (by decide +kernel)) (fun _ _ _ _ _ => pg_name (i := 3) S.nd rfl (.inl rfl)) (fun _ _ _ _ _ => pts_nil) (fun _ _ _ _ _ => (pe_c C_l_thing pass0 hq hr (by omega) (by rfl) (pa_cons (pv 0) (pa_cons (pe_op op_sub (pv 1) pe_int) pa_nil))))) pa_nil))))
  pss_nil)
 (pss_cons (ps_if (pt_cmpR op_eq (pv 2) pe_int (nomark _))
  (pss_one (ps_ret pe_non))
  pss_nil)
 (pss_cons (ps_if (pt_cmpR op_eq (pv 2) pe_int (nomark _))
  (pss_cons (ps_set (i := 4) S.nd rfl (.inr rfl) pe_str)
 (pss_one (ps_ret (pe_join pe_str (pe_lc (own := [("_law_k", 3)]) (g := gName 3) (tt := tYes) rfl S.nd (pi_range1 (by rfl) M.range_ (pa_cons (pe_op op_add pe_int (pe_c C_l_draw pass0 hq hr (by omega) (by rfl) (pa_cons (pv 0) (pa_cons pe_int pa_nil)))) pa_nil)) (blkOk_by (own := [("_law_k", 3)]) (N := N_l_thing) (sc := defScope s_l_thing) (by decide +kernel)) (fun _ _ _ _ _ => pg_name (i := 3) S.nd rfl (.inl rfl)) (fun _ _ _ _ _ => pts_nil) (fun _ _ _ _ _ => (pe_ix ix_str (pv 4) (pe_c C_l_draw pass0 hq hr (by omega) (by rfl) (pa_cons (pv 0) (pa_cons (pe_callB call_len_str (by rfl) M.len_ (by decide +kernel) (pa_cons (pv 4) pa_nil)) pa_nil))) (fun _ _ => rfl))))))))
  pss_nil)
 (pss_cons (ps_if (pt_cmpR op_eq (pv 2) pe_int (nomark _))
  (pss_one (ps_ret (pe_ix ix_list (pe_lst (pa_cons pe_str (pa_cons pe_str (pa_cons pe_str (pa_cons pe_str (pa_cons pe_str (pa_cons pe_str (pa_cons pe_str (pa_cons pe_str pa_nil))))))))) (pe_c C_l_draw pass0 hq hr (by omega) (by rfl) (pa_cons (pv 0) (pa_cons pe_int pa_nil))) (fun _ _ => rfl))))
  pss_nil)
 (pss_cons (ps_set (i := 5) S.nd rfl (.inl rfl) (pe_lst (pa_cons pe_int (pa_cons pe_int (pa_cons pe_int (pa_cons pe_int (pa_cons pe_int (pa_cons (pe_c C_l_draw pass0 hq hr (by omega) (by rfl) (pa_cons (pv 0) (pa_cons pe_int pa_nil))) (pa_cons (pe_op op_sub (pe_op op_pow pe_int pe_int) (pe_c C_l_draw pass0 hq hr (by omega) (by rfl) (pa_cons (pv 0) (pa_cons pe_int pa_nil)))) (pa_cons (pe_c C_l_draw pass0 hq hr (by omega) (by rfl) (pa_cons (pv 0) (pa_cons (pe_op op_pow pe_int pe_int) pa_nil))) pa_nil))))))))))
 (pss_one (ps_ret (pe_op op_mulB (pe_ix ix_list (pv 5) (pe_c C_l_draw pass0 hq hr (by omega) (by rfl) (pa_cons (pv 0) (pa_cons pe_int pa_nil))) (fun _ _ => rfl)) (pe_ix ix_list (pe_lst (pa_cons pe_int (pa_cons (pe_un un_neg pe_int) pa_nil))) (pe_c C_l_draw pass0 hq hr (by omega) (by rfl) (pa_cons (pv 0) (pa_cons pe_int pa_nil))) (fun _ _ => rfl))))))))))), ?_⟩
    have hc := cost_pos n
    refine ⟨.ref d, rfl, d, c, 7, t, rfl, by decide, by decide, dk, by omega, fun way H1 w0 w1 b1 dk1 => ?_⟩
    refine ⟨.int (n : Int), rfl, _, _, rfl, rfl, _, rfl, ite_and (b2 := decide (way < 3)) (fun z => ⟨.int way, rfl, _, _, rfl, rfl, _, rfl, z⟩) ?_⟩
    cases hb : (decide ((0 : Int) < (n : Int)) && decide (way < 3)) with
    | true =>
      refine iteT ?_
      rw [Bool.and_eq_true, decide_eq_true_eq] at hb
      obtain ⟨m, rfl⟩ : ∃ m, n = m + 1 := ⟨n - 1, by omega⟩
      have hcs := cost_succ m
      have hcm := cost_pos m
      refine ⟨.ref d, rfl, d, c, 5, t + 1, rfl, by decide, by decide, dk1, by omega, fun r H2 r0 r1 b2 dk2 => ⟨r, rfl, by omega, by omega, fun D nD => ?_⟩⟩
      have fD := dk2.free nD
      refine lc_range (fun i H' => ∃ (tt : Nat) (xs : List Td) (vs : List V), But d c H2 H' ∧ Deck H' d c tt ∧ t + 2 ≤ tt ∧ tt ≤ t + 2 + i * cost m ∧ H' D = some (.lst vs) ∧ All2 H' xs vs ∧ xs.length = i ∧ ∀ x ∈ xs, Gd x m (szT m)) ?_ ?_ ?_
      · exact ⟨t + 2, [], [], .of (same_new nD), dk2.new nD, Nat.le_refl _, by omega, upd_same, .nil, rfl, fun x h => by cases h⟩
      · rintro i H' hi ⟨tt, xs, vs, bb, dkk, h1, h2, eD, al, hl, hx⟩
        have hi4 : i + 1 ≤ 4 := by omega
        have hm : i * cost m + cost m ≤ 4 * cost m := by
          have := Nat.mul_le_mul_right (cost m) hi4
          rw [Nat.add_mul, Nat.one_mul] at this
          exact this
        refine ⟨rfl, ?_⟩
        unfold tYes
        refine iteT ⟨.ref d, rfl, .int ((m + 1 : Nat) : Int), rfl, _, _, rfl, rfl, d, c, tt, _, rfl, by omega, dkk, by omega, fun H3 v t3 x b3 dk3 l1 l2 tv gx => ?_⟩
        have eD3 := b3 _ _ fD.1 fD.2 eD
        have k3 := But.kt b3 dkk
        have n3 : ∀ p us, H3 p = some (.tup us) → upd H3 D (.lst (vs ++ [v])) p = some (.tup us) := keepT_lst eD3
        refine ⟨vs, eD3, ?_, t3, xs ++ [x], vs ++ [v], (bb.trans b3).mut nD, dk3.mut fD.1.symm fD.2.symm, by omega, ?_, upd_same, ?_, by rw [List.length_append, hl]; rfl, ?_⟩
        · rw [← al.1, hl]
          exact Nat.lt_of_lt_of_le (show i < 5 by omega) (by decide)
        · rw [Nat.add_mul, Nat.one_mul]
          omega
        · exact ((al.keep k3).keep n3).snoc (tv.keep n3)
        · intro y hy
          rcases List.mem_append.mp hy with h | h
          · exact hx y h
          · rw [List.mem_singleton.mp h]
            exact gx
      · rintro H3 ⟨t3, xs, vs, b3, dk3, h1, h2, eD, al, hl, hx⟩
        have hm4 : r.toNat ≤ 4 := by omega
        have hm : r.toNat * cost m ≤ 4 * cost m := Nat.mul_le_mul_right _ hm4
        refine ⟨D, _, rfl, .inl ⟨.inl (.inl eD), fun p np => ?_⟩⟩
        have s4 := same_new (o := .tup vs) np
        refine q _ _ t3 (.tup xs) (((b1.trans b2).trans b3).same s4) (dk3.same s4) (by omega) (by omega) (.mk upd_same (al.same s4)) (Gd.tupl hx (by omega))
    | false =>
      refine iteF ?_
      refine ⟨.int way, rfl, rfl, _, rfl, ite2 (fun _ => ?_) (fun hw3 => ?_)⟩
      · exact q _ _ (t + 1) .non b1 dk1 (by omega) (by omega) .non (Gd.leaf (by rw [wfT]; trivial) rfl n)
      refine ⟨.int way, rfl, rfl, _, rfl, ite2 (fun _ => ?_) (fun hw4 => ?_)⟩
      · refine ⟨⟨_, rfl⟩, .ref d, rfl, d, c, 6, t + 1, rfl, by decide, by decide, dk1, by omega, fun r H2 r0 r1 b2 dk2 => ⟨_, _, rfl, rfl, 1 + r, rfl, by omega, by omega, fun D nD => ?_⟩⟩
        have fD := dk2.free nD
        obtain ⟨k, ek⟩ : ∃ k : Nat, (1 + r).toNat = k := ⟨_, rfl⟩
        refine lc_range (fun i H' => ∃ (tt : Nat) (ys : List Str), But d c H2 H' ∧ Deck H' d c tt ∧ tt = t + 2 + i ∧ H' D = some (.lst (ys.map V.str)) ∧ ys.length = i ∧ ∀ y ∈ ys, y.length = 1 ∧ ∀ c ∈ y.cps.toList, 33 ≤ c ∧ c ≤ 126) ?_ ?_ ?_
        · exact ⟨t + 2, [], .of (same_new nD), dk2.new nD, rfl, upd_same, rfl, fun x h => by cases h⟩
        · rintro i H' hi ⟨tt, ys, bb, dkk, rfl, eD, hl, hx⟩
          refine ⟨rfl, ?_⟩
          unfold tYes
          have hs : 1 ≤ sgs.length ∧ sgs.length ≤ 60 := by decide +kernel
          refine iteT ⟨.str sgs, rfl, .ref d, rfl, .str sgs, rfl, sgs, rfl, by decide, d, c, _, t + 2 + i, rfl, by omega, by omega, dkk, by omega, fun j H3 j0 j1 b3 dk3 => ?_⟩
          obtain ⟨g, eg, eg2⟩ := atI_lt (xs := sgs.cps.toList) j0 j1 (len_cps sgs).symm
          have eD3 := b3 _ _ fD.1 fD.2 eD
          refine ⟨sgs, j, g, rfl, rfl, by decide, eg, _, eD3, ?_, t + 2 + i + 1, ys ++ [⟨#[g]⟩], (bb.trans b3).mut nD, dk3.mut fD.1.symm fD.2.symm, by omega, ?_, by rw [List.length_append, hl]; rfl, ?_⟩
          · rw [List.length_map, hl]
            exact Nat.lt_of_lt_of_le (show i < 10 by omega) (by decide)
          · rw [upd_same, List.map_append]
            rfl
          · intro y hy
            rcases List.mem_append.mp hy with h | h
            · exact hx y h
            · rw [List.mem_singleton.mp h]
              refine ⟨rfl, fun c' hc' => ?_⟩
              obtain rfl : c' = g := List.mem_singleton.mp hc'
              exact sgs_ok _ (List.mem_of_getElem? eg2)
        · rintro H3 ⟨t3, ys, b3, dk3, rfl, eD, hl, hx⟩
          have h1 : ∀ y ∈ ys, y.length = 1 := fun y hy => (hx y hy).1
          have sz : (ys.map (·.length)).sum + ys.length * (Str.ofString "").length ≤ 16777216 := by
            rw [sum_one h1, hl]
            show (1 + r).toNat + (1 + r).toNat * 0 ≤ 16777216
            omega
          obtain ⟨j1, j2⟩ := join_signs hx
          refine ⟨_, D, ys, rfl, rfl, .inl (.inl (.inl eD)), sz, ?_⟩
          refine q _ _ _ (.str (Txt.join (Str.ofString "") ys)) ((b1.trans b2).trans b3) dk3 (by omega) (by omega) (.str _) (Gd.leaf ?_ rfl n)
          rw [wfT]
          exact ⟨by rw [j1, hl]; omega, by rw [j1, hl]; omega, j2⟩
      refine ⟨.int way, rfl, rfl, _, rfl, ite2 (fun _ => ?_) (fun hw5 => ?_)⟩
      · refine ⟨by decide, fun p np => ?_⟩
        have s2 := same_new (o := .lst [V.str "none", .str "(", .str ")", .str "'", .str "-1", .str "0", .str "gate", .str "and"]) np
        refine ⟨.ref d, rfl, d, c, 8, t + 1, rfl, by decide, by decide, dk1.same s2, by omega, fun r H2 r0 r1 b2 dk2 => ?_⟩
        have fp := dk1.free np
        have ep := b2 _ _ fp.1 fp.2 (upd_same (H := H1) (a := p) (o := .lst [V.str "none", .str "(", .str ")", .str "'", .str "-1", .str "0", .str "gate", .str "and"]))
        obtain ⟨z, ez, gz⟩ : ∃ z, atI [V.str "none", .str "(", .str ")", .str "'", .str "-1", .str "0", .str "gate", .str "and"] r = some (.str z) ∧ goodZ z := by
          have h : r = 0 ∨ r = 1 ∨ r = 2 ∨ r = 3 ∨ r = 4 ∨ r = 5 ∨ r = 6 ∨ r = 7 := by omega
          rcases h with rfl | rfl | rfl | rfl | rfl | rfl | rfl | rfl <;> exact ⟨_, rfl, goodZ_dec (by decide +kernel)⟩
        refine ⟨p, _, _, _, rfl, rfl, .inl (.inl ep), ez, ?_⟩
        exact q _ _ (t + 2) (.str z) ((b1.same s2).trans b2) dk2 (by omega) (by omega) (.str _) (Gd.leaf (by rw [wfT]; exact gz) rfl n)
      refine ⟨.ref d, rfl, d, c, 1000, t + 1, rfl, by decide, by decide, dk1, by omega, fun r1 H2 a0 a1 b2 dk2 => ?_⟩
      refine ⟨10, 39, rfl, rfl, ⟨by decide, by decide, by decide⟩, .ref d, rfl, d, c, 9, t + 1 + 1, rfl, by decide, by decide, dk2, by omega, fun r2 H3 a2 a3 b3 dk3 => ⟨_, _, rfl, rfl, ?_⟩⟩
      have e12 : (10 : Int) ^ (12 : Int).toNat = 1000000000000 := by decide +kernel
      refine ⟨.ref d, rfl, 10, 12, rfl, rfl, ⟨by decide, by decide, by decide⟩, d, c, _, t + 1 + 1 + 1, rfl, by rw [e12]; decide, by rw [e12]; decide, dk3, by omega, fun r3 H4 a4 a5 b4 dk4 => ⟨(show 8 ≤ sizeLine by decide), fun p np => ?_⟩⟩
      have e39 : (10 : Int) ^ (39 : Int).toNat = 1000000000000000000000000000000000000000 := by decide +kernel
      rw [e39] at *
      rw [e12] at a5
      generalize eL : [V.int 0, V.int 9, V.int 10, V.int 99, V.int 100, V.int r1, V.int (1000000000000000000000000000000000000000 - r2), V.int r3] = l at *
      have dk5 := dk4.new (o := .lst l) np
      have b5 : But d c H4 (upd H4 p (.lst l)) := .of (same_new np)
      have ep : (upd H4 p (.lst l)) p = some (.lst l) := upd_same
      have fp := dk4.free np
      revert dk5 b5 ep
      generalize upd H4 p (.lst l) = H5
      intro dk5 b5 ep
      refine ⟨.ref p, rfl, .ref d, rfl, d, c, 8, _, rfl, by decide, by decide, dk5, by omega, fun r4 H6 c0 c1 b6 dk6 => ?_⟩
      obtain ⟨x, ex, gx⟩ : ∃ x : Int, atI l r4 = some (.int x) ∧ x.natAbs ≤ 1000000000000000000000000000000000000000 := by
        rw [← eL]
        have h : r4 = 0 ∨ r4 = 1 ∨ r4 = 2 ∨ r4 = 3 ∨ r4 = 4 ∨ r4 = 5 ∨ r4 = 6 ∨ r4 = 7 := by omega
        rcases h with rfl | rfl | rfl | rfl | rfl | rfl | rfl | rfl
        · exact ⟨_, rfl, by decide⟩
        · exact ⟨_, rfl, by decide⟩
        · exact ⟨_, rfl, by decide⟩
        · exact ⟨_, rfl, by decide⟩
        · exact ⟨_, rfl, by decide⟩
        · exact ⟨_, rfl, by omega⟩
        · exact ⟨_, rfl, by omega⟩
        · exact ⟨_, rfl, by omega⟩
      refine ⟨p, _, _, _, rfl, rfl, .inl (.inl (b6 _ _ fp.1 fp.2 ep)), ex, ?_⟩
      refine ⟨_, rfl, by decide, fun p2 np2 => ?_⟩
      have dk7 := dk6.new (o := .lst [.int 1, .int (-1)]) np2
      have b7 : But d c H6 (upd H6 p2 (.lst [.int 1, .int (-1)])) := .of (same_new np2)
      have ep2 : (upd H6 p2 (.lst [.int 1, .int (-1)])) p2 = some (.lst [.int 1, .int (-1)]) := upd_same
      have fp2 := dk6.free np2
      revert dk7 b7 ep2
      generalize upd H6 p2 (.lst [.int 1, .int (-1)]) = H7
      intro dk7 b7 ep2
      refine ⟨.ref d, rfl, d, c, 2, _, rfl, by decide, by decide, dk7, by omega, fun r5 H8 g0 g1 b8 dk8 => ?_⟩
      obtain ⟨y, ey, gy⟩ : ∃ y : Int, atI [V.int 1, V.int (-1)] r5 = some (.int y) ∧ (y = 1 ∨ y = -1) := by
        have h : r5 = 0 ∨ r5 = 1 := by omega
        rcases h with rfl | rfl
        · exact ⟨_, rfl, .inl rfl⟩
        · exact ⟨_, rfl, .inr rfl⟩
      refine ⟨p2, _, _, _, rfl, rfl, .inl (.inl (b8 _ _ fp2.1 fp2.2 ep2)), ey, _, _, rfl, rfl, ?_, ?_⟩
      · rcases gy with rfl | rfl
        · exact .of_right (by decide)
        · exact .of_right (by decide)
      · have gxy : goodI (x * y) := by
          unfold goodI
          have : (x * y).natAbs = x.natAbs := by
            rcases gy with rfl | rfl
            · rw [Int.mul_one]
            · rw [Int.mul_neg, Int.mul_one, Int.natAbs_neg]
          rw [this]
          exact Nat.lt_of_le_of_lt gx (by decide)
        exact q _ _ _ (.int (x * y)) (((((((b1.trans b2).trans b3).trans b4).trans b5).trans b6).trans b7).trans b8) dk8 (by omega) (by omega) (.int _) (Gd.leaf (by rw [wfT]; exact gxy) rfl n)
end
end K67

namespace K67
open PySem PySem.Spec PyProof.Rows L2 Kit
def spWo (n : Nat) : Sp := fun vs H Q _ => ∃ (t : Td) (v : V), vs = [v] ∧ TdR H t v ∧ wfT t ∧ depT t ≤ n ∧ (wordsT t).length ≤ 10000 ∧
  ∀ (H' : Hp) (p : Addr), Same H H' → H p = none → H' p = some (.lst ((wordsT t).map V.str)) → Q (.ref p) H'
def spWoR : Nat → Sp
  | 0 => fun _ _ _ _ => False
  | n + 1 => spWo n
theorem dep_mem : ∀ {ts : List Td} {t : Td}, t ∈ ts → depT t ≤ depL ts
  | [], _, h => absurd h List.not_mem_nil
  | x :: xs, t, h => by
    rw [depL]
    rcases List.mem_cons.mp h with rfl | h
    · exact Nat.le_max_left _ _
    · exact Nat.le_trans (dep_mem h) (Nat.le_max_right _ _)
theorem wordsL_take {ts : List Td} {i : Nat} {t : Td} (h : ts[i]? = some t) : wordsL (ts.take (i + 1)) = wordsL (ts.take i) ++ wordsT t := by
  have app : ∀ (a b : List Td), wordsL (a ++ b) = wordsL a ++ wordsL b := by
    intro a b
    rw [← wsL_things, ← wsL_things, ← wsL_things, List.map_append, wsL_app]
  rw [List.take_add_one, h, app]
  congr 1
  show wordsL [t] = _
  rw [wordsL, wordsL, List.append_nil]
theorem wordsL_take_le (ts : List Td) (i : Nat) : (wordsL (ts.take i)).length ≤ (wordsL ts).length := by
  have app : ∀ (a b : List Td), wordsL (a ++ b) = wordsL a ++ wordsL b := by
    intro a b
    rw [← wsL_things, ← wsL_things, ← wsL_things, List.map_append, wsL_app]
  have e : wordsL ts = wordsL (ts.take i) ++ wordsL (ts.drop i) := by rw [← app, List.take_append_drop]
  rw [e, List.length_append]
  omega
section
variable {P : Program} {w : World} {K : PySem.W.Frag} {mg : Str → Option Value} {base : Heap}
theorem ok_wo {L n : Nat} {f : Addr} {fd : FuncData} (D : DefAt K mg "_law_words_of" ["_law_one"] s_l_words_of f fd) (M : Bi mg)
    (C_l_words_of : Cal P w K mg base L2.CX0 L "_law_words_of" ["_law_one"] (spWoR n)) :
    Cal P w K mg base L2.CX0 (L + 1) "_law_words_of" ["_law_one"] (spWo n) := by
  have S := S_l_words_of
  refine cal_of D.fn D.mgf D.bs D.kbs S (fun vs H Q E h => ?_) (fun cdv A outer s H vs Q E hq hr h => ?_)
  · obtain ⟨t, v, rfl, _⟩ := h
    rfl
  · obtain ⟨t, v, rfl, tv, hw, hd, hl, q⟩ := h
    refine ⟨_, (pss_cons (ps_if (pt_val (pe_callB call_isi (by rfl) M.isinstance_ (by decide +kernel) (pa_cons (pv 0) (pa_cons (pe_bltn (v := .ty "tuple") (u := .type "tuple") (by rfl) M.tuple_ (by decide +kernel) rfl) pa_nil))))
  (pss_cons (ps_set (i := 1) S.nd rfl (.inl rfl) (pe_lst (pa_cons pe_str pa_nil)))
 (pss_cons (ps_for PassesOwn.never rfl (pi_tup (pv 0)) (pg_name (i := 2) S.nd rfl (.inl rfl))
  (pss_one (ps_set (i := 1) S.nd rfl (.inl rfl) (pe_op op_cat (pv 1) (pe_c C_l_words_of pass0 hq hr (by omega) (by rfl) (pa_cons (pv 2) pa_nil))))))
 (pss_one (ps_ret (pe_op op_cat (pv 1) (pe_lst (pa_cons pe_str pa_nil)))))))
  pss_nil)
 (pss_one (ps_ret (pe_lst (pa_cons (pe_ix ix_list (pe_lst (pa_cons pe_str (pa_cons (pe_op op_add_str pe_str (pe_callTy call_strA (by rfl) M.str_ (by decide +kernel) (pa_cons (pv 0) pa_nil))) (pa_cons (pe_callTy call_strA (by rfl) M.str_ (by decide +kernel) (pa_cons (pv 0) pa_nil)) pa_nil)))) (pe_op op_add (pe_callTy call_int1 (by rfl) M.int_ (by decide +kernel) (pa_cons (pe_cmpR op_notN (pv 0) pe_non (nomark _)) pa_nil)) (pe_callTy call_int1 (by rfl) M.int_ (by decide +kernel) (pa_cons (pe_callB call_isi (by rfl) M.isinstance_ (by decide +kernel) (pa_cons (pv 0) (pa_cons (pe_bltn (v := .ty "int") (u := .type "int") (by rfl) M.int_ (by decide +kernel) rfl) pa_nil))) pa_nil))) (fun _ _ => rfl)) pa_nil))))), ?_⟩
    have big : 10000 < sizeLine := by decide
    refine ⟨v, rfl, _, _, _, _, _, rfl, .ty "tuple", tv.ty, kit_tup K t, isTup t, rfl, ?_⟩
    cases hT : isTup t with
    | true =>
      cases t with
      | tup xs =>
        refine iteT ?_
        obtain ⟨pa, vs, rfl, epa, al⟩ := tv.inv_tup
        rw [wfT] at hw
        rw [depT] at hd
        obtain ⟨m, rfl⟩ : ∃ m, n = m + 1 := ⟨n - 1, by omega⟩
        rw [wordsT, List.length_cons, List.length_append, List.length_singleton] at hl
        refine ⟨(by decide : (1 : Nat) ≤ sizeLine), fun F nF => ?_⟩
        generalize eH1 : upd H F _ = H1
        have s1 : Same H H1 := eH1 ▸ same_new nF
        have eF : H1 F = some (.lst [.str "("]) := eH1 ▸ upd_same
        refine ⟨.ref pa, rfl, pa, rfl, ⟨_, .inl (.inl (s1 _ _ epa))⟩, for_tup (K := K) (a := pa) (xs := vs) (fun i σ H' => ∃ (p : Addr) (x2 : Option V), σ = [some (.ref pa), some (.ref p), x2] ∧ Same H H' ∧ H p = none ∧
          H' p = some (.lst ((("(" : Str) :: wordsL (xs.take i)).map V.str))) ?_ ?_ ?_ ?_⟩
        · refine ⟨F, none, rfl, s1, nF, ?_⟩
          rw [eF, List.take_zero, wordsL]
          rfl
        · rintro i σ H' _ ⟨p, x2, _, sm, _⟩
          exact .inl (.inl (sm _ _ epa))
        · rintro i v σ H' hv ⟨p, x2, rfl, sm, np, ep⟩
          have hi : i < xs.length := by
            rw [al.1]
            exact (List.getElem?_eq_some_iff.mp hv).1
          obtain ⟨x, hx⟩ : ∃ x, xs[i]? = some x := ⟨xs[i], List.getElem?_eq_getElem hi⟩
          have tx := (al.2 i x v hx hv).same sm
          have mx := List.mem_of_getElem? hx
          have e1 := wordsL_take hx
          have l1 := wordsL_take_le xs (i + 1)
          rw [e1, List.length_append] at l1
          refine ⟨.ref p, rfl, v, rfl, x, v, rfl, tx, wfL_iff.mp hw x mx, by have := dep_mem mx; omega, by omega, fun H2 p2 s2 np2 ep2 => ?_⟩
          refine ⟨p, p2, _, _, rfl, rfl, s2 _ _ ep, ep2, ?_, fun p3 np3 => ?_⟩
          · rw [List.length_map, List.length_map, List.length_cons]
            omega
          · refine ⟨p3, _, rfl, (sm.trans s2).trans (same_new np3), none_back (sm.trans s2) np3, ?_⟩
            rw [upd_same, e1, ← List.map_append]
            rfl
        · rintro σ H' ⟨p, x2, rfl, sm, np, ep⟩
          refine ⟨.ref p, rfl, (by decide : (1 : Nat) ≤ sizeLine), fun p2 np2 => ?_⟩
          have s2 := same_new (o := .lst [.str ")"]) np2
          have lv : vs.length = xs.length := al.1.symm
          rw [lv, List.take_of_length_le (Nat.le_refl _)] at ep
          refine ⟨p, p2, _, _, rfl, rfl, s2 _ _ ep, upd_same, ?_, fun p3 np3 => ?_⟩
          · rw [List.length_map, List.length_cons]
            show _ + 1 + 1 ≤ _
            omega
          · refine q _ p3 ((sm.trans s2).trans (same_new np3)) (none_back (sm.trans s2) np3) ?_
            rw [upd_same, wordsT, List.map_cons, List.map_cons, List.map_append]
            rfl
      | _ => cases hT
    | false =>
      refine iteF ?_
      have d0 : depT t = 0 := by
        cases t with
        | tup xs => cases hT
        | _ => rw [depT] <;> (intro _ z; cases z)
      have ls : ("'" : Str).length + (strA t).length ≤ sizeLine := by
        have e1 : ("'" : Str).length = 1 := rfl
        rw [e1]
        have : (strA t).length ≤ 60 := by
          cases t with
          | non => exact (by decide +kernel : (Str.ofString "None").length ≤ 60)
          | str z =>
            rw [wfT] at hw
            exact Nat.le_trans hw.2.1 (by decide)
          | int i =>
            rw [wfT] at hw
            exact Nat.le_trans (istr_ok hw).2.1 (by decide)
          | tup xs => cases hT
        omega
      refine ⟨v, rfl, t, v, rfl, tv, hw, d0, _, _, rfl, rfl, ls, v, rfl, t, v, rfl, tv, hw, d0, (by decide : (3 : Nat) ≤ sizeLine), fun p np => ?_⟩
      generalize eH1 : upd H p _ = H1
      have s1 : Same H H1 := eH1 ▸ same_new np
      have ep : H1 p = some (.lst [.str "none", .str ("'" ++ strA t), .str (strA t)]) := eH1 ▸ upd_same
      refine ⟨v, rfl, rfl, .inr ⟨_, rfl, v, rfl, _, _, _, _, _, rfl, .ty "int", (tv.same s1).ty, kit_int K t, .inr ⟨_, rfl, _, _, rfl, rfl, ?_⟩⟩⟩
      obtain ⟨z, ez, ew⟩ : ∃ z, atI [V.str "none", .str ("'" ++ strA t), .str (strA t)] ((if (!decide (v = V.non)) = true then 1 else 0) + (if isInt t = true then 1 else 0)) = some (.str z) ∧ wordsT t = [z] := by
        cases t with
        | non =>
          obtain rfl := tv.inv_non
          exact ⟨_, rfl, by rw [wordsT]⟩
        | str z =>
          obtain rfl := tv.inv_str
          have e0 : decide (V.str z = V.non) = false := decide_eq_false (by intro y; cases y)
          rw [e0]
          exact ⟨"'" ++ z, rfl, by rw [wordsT]⟩
        | int i =>
          obtain rfl := tv.inv_int
          have e0 : decide (V.int i = V.non) = false := decide_eq_false (by intro y; cases y)
          rw [e0]
          exact ⟨istr i, rfl, by rw [wordsT]⟩
        | tup xs => cases hT
      refine ⟨p, _, _, _, rfl, rfl, .inl (.inl ep), ez, (by decide : (1 : Nat) ≤ sizeLine), fun p2 np2 => ?_⟩
      refine q _ p2 (s1.trans (same_new np2)) (none_back s1 np2) ?_
      rw [upd_same, ew]
      rfl
def spNev : Sp := fun _ _ _ _ => False
theorem nev {x : Str} {ps : List Str} {st : Stmt} {f : Addr} {fd : FuncData} (D : DefAt K mg x ps st f fd) : Cal P w K mg base L2.CX0 1 x ps spNev :=
  ⟨f, fd, ⟨fun vs H Q E h => False.elim h, fun A outer s H args us vs Q E _ _ _ _ _ h => False.elim h⟩, D.mgf, D.fn.kp, D.bs, D.kbs⟩
theorem thing_all {f : Addr} {fd : FuncData} (D : DefAt K mg "_law_thing" ["_law_deck_here", "_law_deep"] s_l_thing f fd) (M : Bi mg)
    (C_l_draw : Cal P w K mg base L2.CX0 1 "_law_draw" ["_law_deck_here", "_law_sides"] spDraw) :
    ∀ n, Cal P w K mg base L2.CX0 (n + 2) "_law_thing" ["_law_deck_here", "_law_deep"] (spThing n)
  | 0 => ok_thing (L := 1) (n := 0) D M (by decide) C_l_draw (nev D)
  | n + 1 => ok_thing (L := n + 2) (n := n + 1) D M (by omega) C_l_draw (thing_all D M C_l_draw n)
theorem wo_all {f : Addr} {fd : FuncData} (D : DefAt K mg "_law_words_of" ["_law_one"] s_l_words_of f fd) (M : Bi mg) :
    ∀ n, Cal P w K mg base L2.CX0 (n + 2) "_law_words_of" ["_law_one"] (spWo n)
  | 0 => ok_wo (L := 1) (n := 0) D M (nev D)
  | n + 1 => ok_wo (L := n + 2) (n := n + 1) D M (wo_all D M n)
end
end K67

namespace K67
open PySem PySem.Spec PyProof.Rows L2 Kit
/-! ### the law -/
def spLaw (K : PySem.W.Frag) : Sp := fun vs H Q _ => ∃ (a : Addr) (ns : List Int), vs = [.ref a] ∧ SqL K H a (ns.map V.int) ∧ ns.length ≤ 63 ∧
  (∀ z ∈ ns, Builtin.Int.intBits z ≤ 1048576) ∧ ∀ H', Q (.bl true) H'
/-- things that stand in the heap -/
def Ths (H : Hp) (vs : List V) : Prop := ∀ v ∈ vs, ∃ x, TdR H x v ∧ Gd x 35 1000
theorem Ths.keep {H H' : Hp} {vs : List V} (h : Ths H vs) (k : KeepT H H') : Ths H' vs := fun v hv => by
  obtain ⟨x, tv, g⟩ := h v hv
  exact ⟨x, tv.keep k, g⟩
theorem Ths.app {H : Hp} {us vs : List V} (h : Ths H us) (h2 : Ths H vs) : Ths H (us ++ vs) := fun v hv => by
  rcases List.mem_append.mp hv with hv | hv
  · exact h v hv
  · exact h2 v hv
theorem Ths.one {H : Hp} {v : V} {x : Td} (tv : TdR H x v) (g : Gd x 35 1000) : Ths H [v] := fun u hu => by
  rw [List.mem_singleton.mp hu]
  exact ⟨x, tv, g⟩
theorem depT_tup (xs : List Td) : depT (.tup xs) = depL xs + 1 := by rw [depT]
theorem depT_int (i : Int) : depT (.int i) = 0 := by
  rw [depT]
  intro _ z
  cases z
theorem depL_nil : depL [] = 0 := by rw [depL]
theorem depL_cons (x : Td) (xs : List Td) : depL (x :: xs) = max (depT x) (depL xs) := by rw [depL]
theorem gd_dec {t : Td} (h : wfT t) (h1 : depT t ≤ 35) (h2 : (wordsT t).length ≤ 1000) : Gd t 35 1000 := ⟨h, h1, h2⟩
section
variable {P : Program} {w : World} {K : PySem.W.Frag} {mg : Str → Option Value} {base : Heap}
theorem ok_law {f : Addr} {fd : FuncData} (D : DefAt K mg "law" ["_law_script"] s_law f fd) (M : Bi mg)
    (C_l_deck : Cal P w K mg base L2.CX0 1 "_law_deck" ["_law_script"] (spDeck K))
    (C_l_draw : Cal P w K mg base L2.CX0 1 "_law_draw" ["_law_deck_here", "_law_sides"] spDraw)
    (C3 : Cal P w K mg base L2.CX0 5 "_law_thing" ["_law_deck_here", "_law_deep"] (spThing 3))
    (C0 : Cal P w K mg base L2.CX0 2 "_law_thing" ["_law_deck_here", "_law_deep"] (spThing 0))
    (C_l_words_of : Cal P w K mg base L2.CX0 37 "_law_words_of" ["_law_one"] (spWo 35))
    (C_read_thing : Cal P w K mg base L2.CX0 3 "read_thing" ["text"] spReadT)
    (C_show_thing : Cal P w K mg base L2.CX0 2 "show_thing" ["thing"] spShow) :
    FnG P w K mg base L2.CX0 45 f fd ["_law_script"] (spLaw K) := by
  have S := S_law
  refine fng_of D.fn S (fun vs H Q E h => ?_) (fun cdv A outer s H vs Q E hq hr h => ?_)
  · obtain ⟨a, ns, rfl, _⟩ := h
    rfl
  · obtain ⟨a, ns, rfl, hs, hl, hb, q⟩ := h
    refine ⟨_, (pss_cons (ps_set (i := 1) S.nd rfl (.inr rfl) (pe_c C_l_deck pass0 hq hr (by omega) (by rfl) (pa_cons (pv 0) pa_nil)))
 (pss_cons (ps_set (i := 2) S.nd rfl (.inl rfl) (pe_cmpR op_eq (pe_c C_l_draw pass0 hq hr (by omega) (by rfl) (pa_cons (pv 1) (pa_cons pe_int pa_nil))) pe_int (nomark _)))
 (pss_cons (ps_set (i := 3) S.nd rfl (.inl rfl) (pe_op op_cat (pe_lc (own := [("_law_k", 4)]) (g := gName 4) (tt := tYes) rfl S.nd (pi_range1 (by rfl) M.range_ (pa_cons pe_int pa_nil)) (blkOk_by (own := [("_law_k", 4)]) (N := N_law) (sc := defScope s_law) (by decide +kernel)) (fun _ _ _ _ _ => pg_name (i := 4) S.nd rfl (.inl rfl)) (fun _ _ _ _ _ => pts_nil) (fun _ _ _ _ _ => (pe_c C3 pass0 hq hr (by omega) (by rfl) (pa_cons (pv 1) (pa_cons pe_int pa_nil))))) (pe_lst (pa_cons (pe_tup pa_nil) (pa_cons pe_non (pa_cons pe_int (pa_cons (pe_tup (pa_cons (pe_tup pa_nil) pa_nil)) (pa_cons pe_str pa_nil))))))))
 (C8.pss_cut (ps_if (pt_val (pv 2))
  (pss_cons (ps_set (i := 5) S.nd rfl (.inl rfl) (pe_c C0 pass0 hq hr (by omega) (by rfl) (pa_cons (pv 1) (pa_cons pe_int pa_nil))))
 (pss_cons (ps_for PassesOwn.never rfl (pi_range1 (by rfl) M.range_ (pa_cons pe_int pa_nil)) (pg_name (i := 4) S.nd rfl (.inl rfl))
  (pss_one (ps_set (i := 5) S.nd rfl (.inl rfl) (pe_op op_catT (pe_tup (pa_cons (pv 5) pa_nil)) (pe_op X7.op_repT01 (pe_tup (pa_cons (pv 4) pa_nil)) (pe_c C_l_draw pass0 hq hr (by omega) (by rfl) (pa_cons (pv 1) (pa_cons pe_int pa_nil))))))))
 (pss_one (ps_expr (pe_bm PySem.F.plainAttrs_list PySem.F.slot_list_append PySem.F.type_list_append mt_append (pv 3) (pa_cons (pv 5) pa_nil))))))
  pss_nil)
 (pss_cons (ps_for PassesOwn.never rfl (pi_list (pe_op op_cat (pv 3) (pe_revL (pv 3)))) (pg_name (i := 6) S.nd rfl (.inl rfl))
  (pss_cons (ps_set (i := 7) S.nd rfl (.inl rfl) (pe_callB (call_reprT hq (room200 hr)) (by rfl) M.repr_ (by decide +kernel) (pa_cons (pv 6) pa_nil)))
 (pss_cons (ps_set (i := 8) S.nd rfl (.inl rfl) (pe_join pe_str (pe_c C_l_words_of pass0 hq hr (by omega) (by rfl) (pa_cons (pv 6) pa_nil))))
 (pss_cons (ps_set (i := 9) S.nd rfl (.inl rfl) (pe_c C_read_thing pass0 hq hr (by omega) (by rfl) (pa_cons (pv 8) pa_nil)))
 (pss_cons (ps_if (PW.pt (pw_or (pt_cmpR op_ne (pe_c C_show_thing pass0 hq hr (by omega) (by rfl) (pa_cons (pv 6) pa_nil)) (pv 8) (nomark _)) (pw_or (pt_cmpR op_ne (pe_callB (call_reprT hq (room200 hr)) (by rfl) M.repr_ (by decide +kernel) (pa_cons (pv 9) pa_nil)) (pv 7) (nomark _)) (pw_or (pt_cmpR op_ne (pe_cK C_show_thing pass0 hq hr (by omega) (by rfl) (by decide) (pk_cons (pv 9) pk_nil)) (pv 8) (nomark _)) (pw_or1 (pt_cmpR op_ne (pe_callB (call_reprT hq (room200 hr)) (by rfl) M.repr_ (by decide +kernel) (pa_cons (pv 6) pa_nil)) (pv 7) (nomark _)))))))
  (pss_one (ps_ret pe_bl))
  pss_nil)
 (pss_one (ps_if (pt_cmpR op_ne (pe_callB (call_reprT hq (room200 hr)) (by rfl) M.repr_ (by decide +kernel) (pa_cons (pe_cK C_read_thing pass0 hq hr (by omega) (by rfl) (by decide) (pk_cons (pv 8) pk_nil)) pa_nil)) (pv 7) (nomark _))
  (pss_one (ps_ret pe_bl))
  pss_nil)))))))
 (pss_one (ps_ret pe_bl))))))), ?_⟩
    refine ⟨.ref a, rfl, a, ns, rfl, hs, hl, hb, fun d c H1 s1 nd nc dk => ?_⟩
    refine ⟨.ref d, rfl, d, c, 8, 0, rfl, by decide, by decide, dk, by omega, fun r H2 r0 r1 b2 dk2 => ⟨rfl, ?_⟩⟩
    have cost3 : cost 3 = 2500 := by decide
    have cost0 : cost 0 = 20 := by decide
    have sz3 : szT 3 = 375 := by decide
    refine ⟨12, rfl, by decide, by decide, fun Dl nDl => ?_⟩
    have fD := dk2.free nDl
    refine lc_range (fun i H' => ∃ (tt : Nat) (vs : List V), But d c H2 H' ∧ Deck H' d c tt ∧ tt ≤ 1 + 2500 * i ∧ H' Dl = some (.lst vs) ∧ Ths H' vs ∧ vs.length = i) ?_ ?_ ?_
    · exact ⟨1, [], .of (same_new nDl), dk2.new nDl, by omega, upd_same, (fun v h => by cases h), rfl⟩
    · rintro i H' hi ⟨tt, vs, bb, dkk, h1, eD, hv, lv⟩
      have hi12 : i < 12 := hi
      refine ⟨rfl, ?_⟩
      unfold tYes
      refine iteT ⟨.ref d, rfl, d, c, tt, _, rfl, rfl, dkk, by omega, fun H3 v t3 x b3 dk3 l1 l2 tv gx => ?_⟩
      have eD3 := b3 _ _ fD.1 fD.2 eD
      have k3 := But.kt b3 dkk
      have n3 : KeepT H3 (upd H3 Dl (.lst (vs ++ [v]))) := keepT_lst eD3
      refine ⟨vs, eD3, ?_, t3, vs ++ [v], (bb.trans b3).mut nDl, dk3.mut fD.1.symm fD.2.symm, by omega, upd_same, ?_, by rw [List.length_append, lv]; rfl⟩
      · rw [lv]
        exact Nat.lt_of_lt_of_le hi12 (by decide)
      · exact (hv.keep (k3.trans n3)).app (.one (tv.keep n3) (gx.mono (by decide) (by rw [sz3]; decide)))
    rintro H3 ⟨t3, vs, b3, dk3, h3, eD3, hv3, lv3⟩
    have lv3 : vs.length = 12 := lv3
    refine ⟨Nat.zero_le _, fun e1 ne1 => ?_⟩
    generalize eG1 : upd H3 e1 _ = G1
    have s31 : Same H3 G1 := eG1 ▸ same_new ne1
    have ee1 : G1 e1 = some (.tup []) := eG1 ▸ upd_same
    refine ⟨Nat.zero_le _, fun e2 ne2 => ?_⟩
    have s12 := same_new (o := .tup []) ne2
    have ee2 : (upd G1 e2 (.tup [])) e2 = some (.tup []) := upd_same
    have ee12 := s12 _ _ ee1
    revert s12 ee2 ee12
    generalize upd G1 e2 (.tup []) = G2
    intro s12 ee2 ee12
    refine ⟨(by decide : (1 : Nat) ≤ sizeLine), fun e3 ne3 => ⟨(by decide : (5 : Nat) ≤ sizeLine), fun l nl => ?_⟩⟩
    have s23 := same_new (o := .tup [.ref e2]) ne3
    have ee3 : (upd G2 e3 (.tup [.ref e2])) e3 = some (.tup [.ref e2]) := upd_same
    have s34 := same_new (o := .lst [.ref e1, .non, .int 0, .ref e3, .str "x"]) nl
    have el : (upd (upd G2 e3 (.tup [.ref e2])) l (.lst [.ref e1, .non, .int 0, .ref e3, .str "x"])) l = some (.lst [.ref e1, .non, .int 0, .ref e3, .str "x"]) := upd_same
    have ths : Ths (upd (upd G2 e3 (.tup [.ref e2])) l (.lst [.ref e1, .non, .int 0, .ref e3, .str "x"])) [.ref e1, .non, .int 0, .ref e3, .str "x"] := by
      intro v hv
      simp only [List.mem_cons, List.not_mem_nil, or_false] at hv
      rcases hv with rfl | rfl | rfl | rfl | rfl
      · exact ⟨.tup [], .mk (s34 _ _ (s23 _ _ ee12)) .nil, gd_dec (by rw [wfT, wfL]; trivial) (by rw [depT, depL]; decide) (by rw [wordsT, wordsL]; decide)⟩
      · exact ⟨.non, .non, gd_dec (by rw [wfT]; trivial) (by rw [depT] <;> first | decide | (intro _ z; cases z)) (by rw [wordsT]; decide)⟩
      · exact ⟨.int 0, .int 0, gd_dec (by rw [wfT]; show (0 : Int).natAbs < _; decide) (by rw [depT] <;> first | decide | (intro _ z; cases z)) (by rw [wordsT]; decide)⟩
      · refine ⟨.tup [.tup []], .mk (s34 _ _ ee3) (.cons (.mk (s34 _ _ (s23 _ _ ee2)) .nil) .nil), gd_dec ?_ ?_ ?_⟩
        · rw [wfT, wfL, wfT, wfL]
          exact ⟨trivial, trivial⟩
        · rw [depT, depL, depT, depL]
          decide
        · rw [wordsT, wordsL, wordsT, wordsL]
          decide
      · exact ⟨.str "x", .str _, gd_dec (by rw [wfT]; exact goodZ_dec (by decide +kernel)) (by rw [depT] <;> first | decide | (intro _ z; cases z)) (by rw [wordsT]; decide)⟩
    have s3l := ((s31.trans s12).trans s23).trans s34
    have eDl := s3l _ _ eD3
    have hv4 := hv3.keep (.of s3l)
    have dk4 := dk3.same s3l
    revert eDl hv4 dk4 ths el
    generalize upd (upd G2 e3 (.tup [.ref e2])) l (.lst [.ref e1, .non, .int 0, .ref e3, .str "x"]) = G4
    intro el ths eDl hv4 dk4
    refine ⟨Dl, l, _, _, rfl, rfl, eDl, el, ?_, fun Sa nS => ?_⟩
    · rw [lv3]
      show 12 + 5 ≤ sizeLine
      decide
    have fS := dk4.free nS
    have hv5 : Ths (upd G4 Sa (.lst (vs ++ [.ref e1, .non, .int 0, .ref e3, .str "x"]))) (vs ++ [.ref e1, .non, .int 0, .ref e3, .str "x"]) := (hv4.app ths).keep (keepT_new nS)
    have eS : (upd G4 Sa (.lst (vs ++ [.ref e1, .non, .int 0, .ref e3, .str "x"]))) Sa = some (.lst (vs ++ [.ref e1, .non, .int 0, .ref e3, .str "x"])) := upd_same
    have dk5 := dk4.new (o := .lst (vs ++ [.ref e1, .non, .int 0, .ref e3, .str "x"])) nS
    have l5 : (vs ++ [V.ref e1, .non, .int 0, .ref e3, .str "x"]).length = 17 := by
      rw [List.length_append, lv3]
      rfl
    revert hv5 eS dk5
    generalize upd G4 Sa (.lst (vs ++ [V.ref e1, .non, .int 0, .ref e3, .str "x"])) = G5
    generalize vs ++ [V.ref e1, .non, .int 0, .ref e3, .str "x"] = ws at l5
    intro hv5 eS dk5
    refine ⟨fun σ' H' => ∃ (us : List V) (x4 x5 : Option V) (b : Bool), σ' = [some (.ref a), some (.ref d), some (.bl b), some (.ref Sa), x4, x5, none, none, none, none] ∧ H' Sa = some (.lst us) ∧ Ths H' us ∧ us.length ≤ 20, ?_, ?_⟩
    · refine ⟨.bl (decide (V.int r = V.int 5)), rfl, _, rfl, ?_⟩
      cases decide (V.int r = V.int 5) with
      | false => exact iteF ⟨ws, _, _, _, rfl, eS, hv5, by omega⟩
      | true =>
        refine iteT ?_
        refine ⟨.ref d, rfl, d, c, _, _, rfl, rfl, dk5, by omega, fun H6 v t6 x b6 dk6 l1 l2 tv gx => ?_⟩
        have eS6 := b6 _ _ fS.1 fS.2 eS
        have hv6 := hv5.keep (But.kt b6 dk5)
        refine ⟨29, rfl, by decide, by decide, for_range (lo := 0) (n := 29) (fun i σ H' => ∃ (v : V) (x : Td) (tt : Nat) (x4 : Option V), σ = [some (.ref a), some (.ref d), some (.bl true), some (.ref Sa), x4, some v, none, none, none, none] ∧
          TdR H' x v ∧ Gd x i (3 + 4 * i) ∧ Deck H' d c tt ∧ tt ≤ t6 + i ∧ H' Sa = some (.lst ws) ∧ Ths H' ws) ?_ ?_ ?_⟩
        · exact ⟨v, x, t6, none, rfl, tv, gx.mono (Nat.le_refl _) (by decide), dk6, by omega, eS6, hv6⟩
        · rintro i σ H' hi ⟨v, x, tt, x4, rfl, tv, gx, dkk, lt, eS', hv'⟩
          have hi29 : i < 29 := hi
          refine ⟨v, rfl, (by decide : (1 : Nat) ≤ sizeLine), fun p1 np1 => ?_⟩
          have s1' := same_new (o := .tup [v]) np1
          have ep1 : (upd H' p1 (.tup [v])) p1 = some (.tup [v]) := upd_same
          refine ⟨.int (0 + (i : Int)), rfl, (by decide : (1 : Nat) ≤ sizeLine), fun p2 np2 => ?_⟩
          have s2' := same_new (o := .tup [.int (0 + (i : Int))]) np2
          have ep2 : (upd (upd H' p1 (.tup [v])) p2 (.tup [.int (0 + (i : Int))])) p2 = some (.tup [.int (0 + (i : Int))]) := upd_same
          have ep12 := s2' _ _ ep1
          have ss := s1'.trans s2'
          revert ep2 ep12 ss
          generalize upd (upd H' p1 (.tup [v])) p2 (.tup [.int (0 + (i : Int))]) = J1
          intro ep2 ep12 ss
          have dkJ := dkk.same ss
          refine ⟨.ref d, rfl, d, c, 2, tt, rfl, by decide, by decide, dkJ, by omega, fun r2 J2 c0 c1 b7 dk7 => ?_⟩
          have k7 := But.kt b7 dkJ
          have fr1 : p1 ≠ d ∧ p1 ≠ c := dkk.free np1
          have fp2 := (dkk.same s1').free np2
          have eS7 := b7 _ _ fS.1 fS.2 (ss _ _ eS')
          have tv7 := (tv.same ss).keep k7
          have hv7 := (hv'.keep (.of ss)).keep k7
          have wx := gx.wf
          have dx := gx.dp
          have lx := gx.ln
          have ep1' := k7 _ _ ep12
          have ep2' := k7 _ _ ep2
          refine ⟨p2, r2, _, rfl, rfl, .inl (.inl ep2'), by simp, by omega, fun e => ?_, fun e p3 np3 => ?_⟩
          · refine ⟨p1, p2, _, _, rfl, rfl, .inl (.inl ep1'), .inl (.inl ep2'), by simp, (by decide : (2 : Nat) ≤ sizeLine), fun z => absurd z (by simp), fun _ p4 np4 => ?_⟩
            have s8 := same_new (o := .tup ([v] ++ [.int (0 + (i : Int))])) np4
            refine ⟨_, .tup [x, .int (0 + (i : Int))], _, _, rfl, .mk upd_same (.cons (tv7.same s8) (.cons (.int _) .nil)), ⟨?_, ?_, ?_⟩, dk7.same s8, by omega, s8 _ _ eS7, hv7.keep (.of s8)⟩
            · rw [wfT, wfL, wfL, wfT, wfL]
              refine ⟨wx, ?_, trivial⟩
              unfold goodI
              have : (0 + (i : Int)).natAbs < 100 := by omega
              exact Nat.lt_trans this (by decide)
            · rw [depT_tup, depL_cons, depL_cons, depT_int, depL_nil]
              omega
            · rw [wordsT, wordsL, wordsL, wordsT, wordsL, List.length_cons, List.length_append, List.length_append, List.length_append]
              show _ + (1 + 0) + 1 + 1 ≤ _
              omega
          · have s8 := same_new (o := .tup []) np3
            refine ⟨p1, p3, _, [], rfl, rfl, .inl (.inl (s8 _ _ ep1')), .inl (.inl upd_same), by simp, (by decide : (1 : Nat) ≤ sizeLine), fun _ => ?_, fun z => absurd rfl z⟩
            refine ⟨_, .tup [x], _, _, rfl, .mk (s8 _ _ ep1') (.cons (tv7.same s8) .nil), ⟨?_, ?_, ?_⟩, dk7.same s8, by omega, s8 _ _ eS7, hv7.keep (.of s8)⟩
            · rw [wfT, wfL, wfL]
              exact ⟨wx, trivial⟩
            · rw [depT_tup, depL_cons, depL_nil]
              omega
            · rw [wordsT, wordsL, wordsL, List.length_cons, List.length_append, List.length_append]
              show _ + 0 + 1 + 1 ≤ _
              omega
        · rintro σ H' ⟨v, x, tt, x4, rfl, tv, gx, dkk, lt, eS', hv'⟩
          refine ⟨.ref Sa, rfl, .inl ⟨rfl, _, .inl (.inl eS')⟩, v, rfl, Sa, _, _, rfl, rfl, eS', ?_, ws ++ [v], _, _, _, rfl, upd_same, ?_, ?_⟩
          · rw [l5]
            decide
          · exact (hv'.app (.one tv (gx.mono (by decide) (by decide)))).keep (keepT_lst eS')
          · rw [List.length_append, l5]
            show 17 + 1 ≤ 20
            decide
    rintro σ' H5 ⟨us, x4, x5, b, rfl, eS5, hv5', l20⟩
    refine ⟨.ref Sa, rfl, .ref Sa, rfl, Sa, us, rfl, .inl (.inl eS5), fun R nR => ?_⟩
    have sR := same_new (o := .lst us.reverse) nR
    refine ⟨Sa, R, _, _, rfl, rfl, sR _ _ eS5, upd_same, ?_, fun La nL => ?_⟩
    · rw [List.length_reverse]
      have : 1000 ≤ sizeLine := by decide
      omega
    have sL := same_new (o := .lst (us ++ us.reverse)) nL
    have eL : (upd (upd H5 R (.lst us.reverse)) La (.lst (us ++ us.reverse))) La = some (.lst (us ++ us.reverse)) := upd_same
    have hvL : Ths (upd (upd H5 R (.lst us.reverse)) La (.lst (us ++ us.reverse))) (us ++ us.reverse) := by
      refine Ths.keep (fun v hv => ?_) (.of (sR.trans sL))
      rcases List.mem_append.mp hv with hv | hv
      · exact hv5' v hv
      · exact hv5' v (List.mem_reverse.mp hv)
    revert eL hvL
    generalize upd (upd H5 R (.lst us.reverse)) La (.lst (us ++ us.reverse)) = H7
    generalize us ++ us.reverse = zs
    intro eL hvL
    refine ⟨La, rfl, ⟨_, .inl (.inl eL)⟩, for_list (K := K) (a := La) (xs := zs) (fun i σ H' => Same H7 H' ∧ ∃ (x6 x7 x8 x9 : Option V), σ = [some (.ref a), some (.ref d), some (.bl b), some (.ref Sa), x4, x5, x6, x7, x8, x9]) ?_ ?_ ?_ ?_⟩
    · exact ⟨Same.refl _, none, none, none, none, rfl⟩
    · rintro i σ H' _ ⟨sm, _⟩
      exact .inl (.inl (sm _ _ eL))
    · rintro i v σ H' hv ⟨sm, x6, x7, x8, x9, rfl⟩
      obtain ⟨x, tv0, gx⟩ := hvL v (List.mem_of_getElem? hv)
      have tv := tv0.same sm
      have sr := (gx.sr).mono (m := 100) (M := 250 * 1000) (by decide) (Nat.le_refl _)
      have lw : (wordsT x).length ≤ 10000 := Nat.le_trans gx.ln (by decide)
      obtain ⟨sh, esh⟩ : ∃ sh, (pd x).shown = sh := ⟨_, rfl⟩
      refine ⟨v, rfl, x, v, _, rfl, tv, sr, by decide, ?_⟩
      rw [esh]
      refine ⟨⟨_, rfl⟩, v, rfl, x, v, rfl, tv, gx.wf, gx.dp, lw, fun J1 p s1 np ep => ?_⟩
      have sum : ((wordsT x).map (·.length)).sum + (wordsT x).length * (Str.ofString " ").length ≤ 16777216 := by
        have h1 := sum_le (L := 50) fun y hy => (words_ok x gx.wf y hy).2.1
        have e1 : (" " : Str).length = 1 := rfl
        rw [e1]
        omega
      refine ⟨_, p, wordsT x, rfl, rfl, .inl (.inl (.inl ep)), sum, ?_⟩
      have el : Txt.join (Str.ofString " ") (wordsT x) = lineT x := rfl
      rw [el]
      refine ⟨.str (lineT x), rfl, x, rfl, gx.wf, lw, fun J2 v2 s2 tv2 => ?_⟩
      refine ⟨v, rfl, x, v, rfl, (tv.same s1).same s2, gx.wf, lw, fun J3 s3 => ⟨.str (lineT x), rfl, rfl, _, rfl, ?_⟩⟩
      have d1 : (!decide (V.str (lineT x) = V.str (lineT x))) = false := by rw [decide_eq_true rfl]; rfl
      rw [d1]
      refine iteF ?_
      refine ⟨v2, rfl, x, v2, _, rfl, tv2.same s3, sr, by decide, ?_⟩
      rw [esh]
      have d2 : (!decide (V.str sh = V.str sh)) = false := by rw [decide_eq_true rfl]; rfl
      refine ⟨.str sh, rfl, rfl, _, rfl, ?_⟩
      rw [d2]
      refine iteF ?_
      refine ⟨v2, rfl, x, v2, rfl, tv2.same s3, gx.wf, lw, fun J4 s4 => ⟨.str (lineT x), rfl, rfl, _, rfl, ?_⟩⟩
      rw [d1]
      refine iteF ?_
      have s14 := ((s1.trans s2).trans s3).trans s4
      refine ⟨v, rfl, x, v, _, rfl, tv.same s14, sr, by decide, ?_⟩
      rw [esh]
      refine ⟨.str sh, rfl, rfl, _, rfl, ?_⟩
      rw [d2]
      refine iteF ?_
      refine ⟨.str (lineT x), rfl, x, rfl, gx.wf, lw, fun J5 v5 s5 tv5 => ?_⟩
      refine ⟨x, v5, _, rfl, tv5, sr, by decide, ?_⟩
      rw [esh]
      refine ⟨.str sh, rfl, rfl, _, rfl, ?_⟩
      rw [d2]
      refine iteF ?_
      exact ⟨(sm.trans s14).trans s5, _, _, _, _, rfl⟩
    · rintro σ H' ⟨sm, x6, x7, x8, x9, rfl⟩
      exact q H'
end
end K67

set_option maxHeartbeats 8000000
namespace K67
open PySem PySem.Spec PyProof.Rows L2 Kit
theorem all_mk {l : PySem.W.OpenLaw} {w : World} {K : PySem.W.Frag} {h : Heap} {mg : Str → Option Value} {fa : Addr} (X : K.In h) (G : h.Ns mainGlobals mg) (hfa : mg "law" = some (.ref fa))
    {f_word_of : Addr} {oc_word_of kV_word_of dc_word_of pm_word_of cd_word_of ct_word_of : Value} {od_word_of an_word_of : Option Addr} {sl_word_of : Array (Option Value)}
    (a_word_of : PySem.W.nsIn K mainGlobals "word_of" = some (some (.ref f_word_of)))
    (l_word_of : K.lookup f_word_of = some ⟨oc_word_of, od_word_of, .func (PySem.W.fnOf "word_of" "word_of" (defArgs s_word_of) (defBody s_word_of) (defScope s_word_of) .none kV_word_of dc_word_of pm_word_of an_word_of cd_word_of ct_word_of), sl_word_of⟩)
    (c_word_of : PySem.W.codeIn K cd_word_of "word_of" = true)
    (k_word_of : PySem.W.keepIn K (.ref f_word_of) = true)
    {f_show_thing : Addr} {oc_show_thing kV_show_thing dc_show_thing pm_show_thing cd_show_thing ct_show_thing : Value} {od_show_thing an_show_thing : Option Addr} {sl_show_thing : Array (Option Value)}
    (a_show_thing : PySem.W.nsIn K mainGlobals "show_thing" = some (some (.ref f_show_thing)))
    (l_show_thing : K.lookup f_show_thing = some ⟨oc_show_thing, od_show_thing, .func (PySem.W.fnOf "show_thing" "show_thing" (defArgs s_show_thing) (defBody s_show_thing) (defScope s_show_thing) .none kV_show_thing dc_show_thing pm_show_thing an_show_thing cd_show_thing ct_show_thing), sl_show_thing⟩)
    (c_show_thing : PySem.W.codeIn K cd_show_thing "show_thing" = true)
    (k_show_thing : PySem.W.keepIn K (.ref f_show_thing) = true)
    {f_is_shown_number : Addr} {oc_is_shown_number kV_is_shown_number dc_is_shown_number pm_is_shown_number cd_is_shown_number ct_is_shown_number : Value} {od_is_shown_number an_is_shown_number : Option Addr} {sl_is_shown_number : Array (Option Value)}
    (a_is_shown_number : PySem.W.nsIn K mainGlobals "is_shown_number" = some (some (.ref f_is_shown_number)))
    (l_is_shown_number : K.lookup f_is_shown_number = some ⟨oc_is_shown_number, od_is_shown_number, .func (PySem.W.fnOf "is_shown_number" "is_shown_number" (defArgs s_is_shown_number) (defBody s_is_shown_number) (defScope s_is_shown_number) .none kV_is_shown_number dc_is_shown_number pm_is_shown_number an_is_shown_number cd_is_shown_number ct_is_shown_number), sl_is_shown_number⟩)
    (c_is_shown_number : PySem.W.codeIn K cd_is_shown_number "is_shown_number" = true)
    (k_is_shown_number : PySem.W.keepIn K (.ref f_is_shown_number) = true)
    {f_is_shown_text : Addr} {oc_is_shown_text kV_is_shown_text dc_is_shown_text pm_is_shown_text cd_is_shown_text ct_is_shown_text : Value} {od_is_shown_text an_is_shown_text : Option Addr} {sl_is_shown_text : Array (Option Value)}
    (a_is_shown_text : PySem.W.nsIn K mainGlobals "is_shown_text" = some (some (.ref f_is_shown_text)))
    (l_is_shown_text : K.lookup f_is_shown_text = some ⟨oc_is_shown_text, od_is_shown_text, .func (PySem.W.fnOf "is_shown_text" "is_shown_text" (defArgs s_is_shown_text) (defBody s_is_shown_text) (defScope s_is_shown_text) .none kV_is_shown_text dc_is_shown_text pm_is_shown_text an_is_shown_text cd_is_shown_text ct_is_shown_text), sl_is_shown_text⟩)
    (c_is_shown_text : PySem.W.codeIn K cd_is_shown_text "is_shown_text" = true)
    (k_is_shown_text : PySem.W.keepIn K (.ref f_is_shown_text) = true)
    {f_read_word : Addr} {oc_read_word kV_read_word dc_read_word pm_read_word cd_read_word ct_read_word : Value} {od_read_word an_read_word : Option Addr} {sl_read_word : Array (Option Value)}
    (a_read_word : PySem.W.nsIn K mainGlobals "read_word" = some (some (.ref f_read_word)))
    (l_read_word : K.lookup f_read_word = some ⟨oc_read_word, od_read_word, .func (PySem.W.fnOf "read_word" "read_word" (defArgs s_read_word) (defBody s_read_word) (defScope s_read_word) .none kV_read_word dc_read_word pm_read_word an_read_word cd_read_word ct_read_word), sl_read_word⟩)
    (c_read_word : PySem.W.codeIn K cd_read_word "read_word" = true)
    (k_read_word : PySem.W.keepIn K (.ref f_read_word) = true)
    {f_read_thing : Addr} {oc_read_thing kV_read_thing dc_read_thing pm_read_thing cd_read_thing ct_read_thing : Value} {od_read_thing an_read_thing : Option Addr} {sl_read_thing : Array (Option Value)}
    (a_read_thing : PySem.W.nsIn K mainGlobals "read_thing" = some (some (.ref f_read_thing)))
    (l_read_thing : K.lookup f_read_thing = some ⟨oc_read_thing, od_read_thing, .func (PySem.W.fnOf "read_thing" "read_thing" (defArgs s_read_thing) (defBody s_read_thing) (defScope s_read_thing) .none kV_read_thing dc_read_thing pm_read_thing an_read_thing cd_read_thing ct_read_thing), sl_read_thing⟩)
    (c_read_thing : PySem.W.codeIn K cd_read_thing "read_thing" = true)
    (k_read_thing : PySem.W.keepIn K (.ref f_read_thing) = true)
    {f_l_deck : Addr} {oc_l_deck kV_l_deck dc_l_deck pm_l_deck cd_l_deck ct_l_deck : Value} {od_l_deck an_l_deck : Option Addr} {sl_l_deck : Array (Option Value)}
    (a_l_deck : PySem.W.nsIn K mainGlobals "_law_deck" = some (some (.ref f_l_deck)))
    (l_l_deck : K.lookup f_l_deck = some ⟨oc_l_deck, od_l_deck, .func (PySem.W.fnOf "_law_deck" "_law_deck" (defArgs s_l_deck) (defBody s_l_deck) (defScope s_l_deck) .none kV_l_deck dc_l_deck pm_l_deck an_l_deck cd_l_deck ct_l_deck), sl_l_deck⟩)
    (c_l_deck : PySem.W.codeIn K cd_l_deck "_law_deck" = true)
    (k_l_deck : PySem.W.keepIn K (.ref f_l_deck) = true)
    {f_l_draw : Addr} {oc_l_draw kV_l_draw dc_l_draw pm_l_draw cd_l_draw ct_l_draw : Value} {od_l_draw an_l_draw : Option Addr} {sl_l_draw : Array (Option Value)}
    (a_l_draw : PySem.W.nsIn K mainGlobals "_law_draw" = some (some (.ref f_l_draw)))
    (l_l_draw : K.lookup f_l_draw = some ⟨oc_l_draw, od_l_draw, .func (PySem.W.fnOf "_law_draw" "_law_draw" (defArgs s_l_draw) (defBody s_l_draw) (defScope s_l_draw) .none kV_l_draw dc_l_draw pm_l_draw an_l_draw cd_l_draw ct_l_draw), sl_l_draw⟩)
    (c_l_draw : PySem.W.codeIn K cd_l_draw "_law_draw" = true)
    (k_l_draw : PySem.W.keepIn K (.ref f_l_draw) = true)
    {f_l_thing : Addr} {oc_l_thing kV_l_thing dc_l_thing pm_l_thing cd_l_thing ct_l_thing : Value} {od_l_thing an_l_thing : Option Addr} {sl_l_thing : Array (Option Value)}
    (a_l_thing : PySem.W.nsIn K mainGlobals "_law_thing" = some (some (.ref f_l_thing)))
    (l_l_thing : K.lookup f_l_thing = some ⟨oc_l_thing, od_l_thing, .func (PySem.W.fnOf "_law_thing" "_law_thing" (defArgs s_l_thing) (defBody s_l_thing) (defScope s_l_thing) .none kV_l_thing dc_l_thing pm_l_thing an_l_thing cd_l_thing ct_l_thing), sl_l_thing⟩)
    (c_l_thing : PySem.W.codeIn K cd_l_thing "_law_thing" = true)
    (k_l_thing : PySem.W.keepIn K (.ref f_l_thing) = true)
    {f_l_words_of : Addr} {oc_l_words_of kV_l_words_of dc_l_words_of pm_l_words_of cd_l_words_of ct_l_words_of : Value} {od_l_words_of an_l_words_of : Option Addr} {sl_l_words_of : Array (Option Value)}
    (a_l_words_of : PySem.W.nsIn K mainGlobals "_law_words_of" = some (some (.ref f_l_words_of)))
    (l_l_words_of : K.lookup f_l_words_of = some ⟨oc_l_words_of, od_l_words_of, .func (PySem.W.fnOf "_law_words_of" "_law_words_of" (defArgs s_l_words_of) (defBody s_l_words_of) (defScope s_l_words_of) .none kV_l_words_of dc_l_words_of pm_l_words_of an_l_words_of cd_l_words_of ct_l_words_of), sl_l_words_of⟩)
    (c_l_words_of : PySem.W.codeIn K cd_l_words_of "_law_words_of" = true)
    (k_l_words_of : PySem.W.keepIn K (.ref f_l_words_of) = true)
    {f_law : Addr} {oc_law kV_law dc_law pm_law cd_law ct_law : Value} {od_law an_law : Option Addr} {sl_law : Array (Option Value)}
    (a_law : PySem.W.nsIn K mainGlobals "law" = some (some (.ref f_law)))
    (l_law : K.lookup f_law = some ⟨oc_law, od_law, .func (PySem.W.fnOf "law" "law" (defArgs s_law) (defBody s_law) (defScope s_law) .none kV_law dc_law pm_law an_law cd_law ct_law), sl_law⟩)
    (c_law : PySem.W.codeIn K cd_law "law" = true)
    (k_law : PySem.W.keepIn K (.ref f_law) = true)
    (z_isinstance : PySem.W.nsIn K mainGlobals "isinstance" = some none)
    (z_len : PySem.W.nsIn K mainGlobals "len" = some none)
    (z_list : PySem.W.nsIn K mainGlobals "list" = some none)
    (z_range : PySem.W.nsIn K mainGlobals "range" = some none)
    (z_repr : PySem.W.nsIn K mainGlobals "repr" = some none)
    (z_enumerate : PySem.W.nsIn K mainGlobals "enumerate" = some none)
    (z_tuple : PySem.W.nsIn K mainGlobals "tuple" = some none)
    (z_int : PySem.W.nsIn K mainGlobals "int" = some none)
    (z_str : PySem.W.nsIn K mainGlobals "str" = some none)
    (z_all : PySem.W.nsIn K mainGlobals "all" = some none)
    {tF tM : Tok}
    (t_F : PySem.W.nsIn K mainGlobals "FIGURES" = some (some (.str "0123456789" tF)))
    (t_M : PySem.W.nsIn K mainGlobals "MOST_FIGURES" = some (some (.int 4000 tM)))
    : ∃ fd : FuncData, (∀ (s : Shared) (v : Value), BindsTo s fd ⟨[v], []⟩ [("_law_script", v)]) ∧ ∀ base : Heap, K.In base → base.Ns mainGlobals mg → FnG l.prog w K mg base L2.CX0 45 fa fd ["_law_script"] (spLaw K) := by
  have e := hfa.symm.trans (PySem.W.mg_of X G a_law)
  cases e
  have D_word_of := def_mk (ps := ["part"]) (st := s_word_of) X G a_word_of l_word_of c_word_of k_word_of (fun _ _ _ _ _ _ us hl => match us, hl with | [_], _ => rfl) (fun _ _ _ _ _ _ _ ws hl => match ws, hl with | [_], _ => rfl)
  have D_show_thing := def_mk (ps := ["thing"]) (st := s_show_thing) X G a_show_thing l_show_thing c_show_thing k_show_thing (fun _ _ _ _ _ _ us hl => match us, hl with | [_], _ => rfl) (fun _ _ _ _ _ _ _ ws hl => match ws, hl with | [_], _ => rfl)
  have D_is_shown_number := def_mk (ps := ["word"]) (st := s_is_shown_number) X G a_is_shown_number l_is_shown_number c_is_shown_number k_is_shown_number (fun _ _ _ _ _ _ us hl => match us, hl with | [_], _ => rfl) (fun _ _ _ _ _ _ _ ws hl => match ws, hl with | [_], _ => rfl)
  have D_is_shown_text := def_mk (ps := ["word"]) (st := s_is_shown_text) X G a_is_shown_text l_is_shown_text c_is_shown_text k_is_shown_text (fun _ _ _ _ _ _ us hl => match us, hl with | [_], _ => rfl) (fun _ _ _ _ _ _ _ ws hl => match ws, hl with | [_], _ => rfl)
  have D_read_word := def_mk (ps := ["word", "k"]) (st := s_read_word) X G a_read_word l_read_word c_read_word k_read_word (fun _ _ _ _ _ _ us hl => match us, hl with | [_, _], _ => rfl) (fun _ _ _ _ _ _ _ ws hl => match ws, hl with | [_, _], _ => rfl)
  have D_read_thing := def_mk (ps := ["text"]) (st := s_read_thing) X G a_read_thing l_read_thing c_read_thing k_read_thing (fun _ _ _ _ _ _ us hl => match us, hl with | [_], _ => rfl) (fun _ _ _ _ _ _ _ ws hl => match ws, hl with | [_], _ => rfl)
  have D_l_deck := def_mk (ps := ["_law_script"]) (st := s_l_deck) X G a_l_deck l_l_deck c_l_deck k_l_deck (fun _ _ _ _ _ _ us hl => match us, hl with | [_], _ => rfl) (fun _ _ _ _ _ _ _ ws hl => match ws, hl with | [_], _ => rfl)
  have D_l_draw := def_mk (ps := ["_law_deck_here", "_law_sides"]) (st := s_l_draw) X G a_l_draw l_l_draw c_l_draw k_l_draw (fun _ _ _ _ _ _ us hl => match us, hl with | [_, _], _ => rfl) (fun _ _ _ _ _ _ _ ws hl => match ws, hl with | [_, _], _ => rfl)
  have D_l_thing := def_mk (ps := ["_law_deck_here", "_law_deep"]) (st := s_l_thing) X G a_l_thing l_l_thing c_l_thing k_l_thing (fun _ _ _ _ _ _ us hl => match us, hl with | [_, _], _ => rfl) (fun _ _ _ _ _ _ _ ws hl => match ws, hl with | [_, _], _ => rfl)
  have D_l_words_of := def_mk (ps := ["_law_one"]) (st := s_l_words_of) X G a_l_words_of l_l_words_of c_l_words_of k_l_words_of (fun _ _ _ _ _ _ us hl => match us, hl with | [_], _ => rfl) (fun _ _ _ _ _ _ _ ws hl => match ws, hl with | [_], _ => rfl)
  have D_law := def_mk (ps := ["_law_script"]) (st := s_law) X G a_law l_law c_law k_law (fun _ _ _ _ _ _ us hl => match us, hl with | [_], _ => rfl) (fun _ _ _ _ _ _ _ ws hl => match ws, hl with | [_], _ => rfl)
  have M : Bi mg := ⟨PySem.W.mg_none_of X G z_isinstance, PySem.W.mg_none_of X G z_len, PySem.W.mg_none_of X G z_list, PySem.W.mg_none_of X G z_range, PySem.W.mg_none_of X G z_repr, PySem.W.mg_none_of X G z_enumerate, PySem.W.mg_none_of X G z_tuple, PySem.W.mg_none_of X G z_int, PySem.W.mg_none_of X G z_str, PySem.W.mg_none_of X G z_all⟩
  have T : Tp mg := ⟨⟨_, PySem.W.mg_of X G t_F, _, rfl⟩, ⟨_, PySem.W.mg_of X G t_M, _, rfl⟩⟩
  refine ⟨PySem.W.fnOf "law" "law" (defArgs s_law) (defBody s_law) (defScope s_law) .none kV_law dc_law pm_law an_law cd_law ct_law, fun s v => .of_eq rfl, fun base _ _ => ?_⟩
  · have C_l_draw := ok_draw (P := l.prog) (w := w) (base := base) D_l_draw
    have C_l_deck := ok_deck (P := l.prog) (w := w) (base := base) D_l_deck M
    have C_word_of := ok_word_of (P := l.prog) (w := w) (base := base) D_word_of M
    have C_show_thing := ok_show D_show_thing M C_word_of
    have C_is_shown_number := ok_numW (P := l.prog) (w := w) (base := base) D_is_shown_number M T
    have C_is_shown_text := ok_txtW (P := l.prog) (w := w) (base := base) D_is_shown_text M
    have C_read_word := ok_rw D_read_word M C_is_shown_text C_is_shown_number
    have C_read_thing := ok_read D_read_thing M C_read_word
    exact ok_law D_law M C_l_deck C_l_draw (thing_all D_l_thing M C_l_draw 3) (thing_all D_l_thing M C_l_draw 0) (wo_all D_l_words_of M 35) C_read_thing C_show_thing
end K67
open PySem PySem.W PyProof.Rows
set_option maxRecDepth 100000 in
set_option maxHeartbeats 0 in
theorem PySem.Challenge.cw_wiretongue_k67_things_there_and_back_holds : PySem.Challenge.rw_wiretongue_k67_things_there_and_back.Holds := by
  w_on; o_law; k_head; (case hw => w_witness2)
  k_fill
  refine Kit.walk_ofG (l := PySem.Challenge.rw_wiretongue_k67_things_there_and_back) (n := 63) (k := 45) (x := "_law_script") (CX := fun _ => L2.CX0) (sp := fun w => K67.spLaw _) rfl (by decide) rfl ⟨rfl, by decide, by decide⟩ (fun w h Y => PySem.W.kIn_of Y) ?F (fun _ _ a ns hl hb _ hS => ⟨a, ns, rfl, hS, hl, hb, fun _ => rfl⟩) (fun _ _ _ _ _ h => h)
  case F =>
    intro w mg fa h KX G hmg
    refine' K67.all_mk KX G hmg ?a_word_of ?l_word_of ?c_word_of ?k_word_of ?a_show_thing ?l_show_thing ?c_show_thing ?k_show_thing ?a_is_shown_number ?l_is_shown_number ?c_is_shown_number ?k_is_shown_number ?a_is_shown_text ?l_is_shown_text ?c_is_shown_text ?k_is_shown_text ?a_read_word ?l_read_word ?c_read_word ?k_read_word ?a_read_thing ?l_read_thing ?c_read_thing ?k_read_thing ?a_l_deck ?l_l_deck ?c_l_deck ?k_l_deck ?a_l_draw ?l_l_draw ?c_l_draw ?k_l_draw ?a_l_thing ?l_l_thing ?c_l_thing ?k_l_thing ?a_l_words_of ?l_l_words_of ?c_l_words_of ?k_l_words_of ?a_law ?l_law ?c_law ?k_law ?z_isinstance ?z_len ?z_list ?z_range ?z_repr ?z_enumerate ?z_tuple ?z_int ?z_str ?z_all ?t_F ?t_M
    (case a_word_of => k_is)
    (case l_word_of => k_is)
    (case c_word_of => k_is)
    (case k_word_of => k_is)
    (case a_show_thing => k_is)
    (case l_show_thing => k_is)
    (case c_show_thing => k_is)
    (case k_show_thing => k_is)
    (case a_is_shown_number => k_is)
    (case l_is_shown_number => k_is)
    (case c_is_shown_number => k_is)
    (case k_is_shown_number => k_is)
    (case a_is_shown_text => k_is)
    (case l_is_shown_text => k_is)
    (case c_is_shown_text => k_is)
    (case k_is_shown_text => k_is)
    (case a_read_word => k_is)
    (case l_read_word => k_is)
    (case c_read_word => k_is)
    (case k_read_word => k_is)
    (case a_read_thing => k_is)
    (case l_read_thing => k_is)
    (case c_read_thing => k_is)
    (case k_read_thing => k_is)
    (case a_l_deck => k_is)
    (case l_l_deck => k_is)
    (case c_l_deck => k_is)
    (case k_l_deck => k_is)
    (case a_l_draw => k_is)
    (case l_l_draw => k_is)
    (case c_l_draw => k_is)
    (case k_l_draw => k_is)
    (case a_l_thing => k_is)
    (case l_l_thing => k_is)
    (case c_l_thing => k_is)
    (case k_l_thing => k_is)
    (case a_l_words_of => k_is)
    (case l_l_words_of => k_is)
    (case c_l_words_of => k_is)
    (case k_l_words_of => k_is)
    (case a_law => k_is)
    (case l_law => k_is)
    (case c_law => k_is)
    (case k_law => k_is)
    (case z_isinstance => k_is)
    (case z_len => k_is)
    (case z_list => k_is)
    (case z_range => k_is)
    (case z_repr => k_is)
    (case z_enumerate => k_is)
    (case z_tuple => k_is)
    (case z_int => k_is)
    (case z_str => k_is)
    (case z_all => k_is)
    (case t_F => k_is)
    (case t_M => k_is)

