import PyProof.Rows.All
import Wide.All
import OpenK.AllK
import Wide.FinOn
import HandS.ForMost
import HandS.Style
import HandS.IsInst
import HandS.EndBits
import HandS.MakeKwOnly
import KE.IntBitsLaws
import HandS.Codes
import PySem.Challenge.RW_wiretongue_k01_names_and_kept_words
set_option Elab.async false
set_option linter.all false
set_option maxRecDepth 100000
set_option maxHeartbeats 4000000
/-! promises of defs that may show things: what runs around holds nothing that is being shown -/
namespace Kit
open PySem PySem.Spec PyProof.Rows L2

/-- nothing is being shown -/
abbrev Qt (A : Around) : Prop := A.guards = some []
theorem Qt.deeper {A : Around} (h : Qt A) (env : Env) : Qt (A.deeper env) := h

structure FnG (P : Program) (w : World) (K : PySem.W.Frag) (mg : Str → Option Value)
    (base : Heap) (CX : CXT) (k : Nat) (f : Addr) (fd : FuncData) (ps : List Str) (sp : Sp) : Prop where
  len : ∀ vs H Q E, sp vs H Q E → vs.length = ps.length
  run : ∀ (A : Around) (outer : List Env) (s : Shared) (H : Hp) (args : Args) (us : List Value)
    (vs : List V) (Q : VK) (E : XK), Qt A → Room k A → Env0 P w K mg base A outer s H →
    BindsTo s fd args (ps.zip us) → Vals vs us → sp vs H Q E →
    codeAny (model P w) A (.call (.ref f) args) (CR CX outer P w H s Q E) s

section
variable {P : Program} {w : World} {K : PySem.W.Frag} {mg : Str → Option Value} {base : Heap} {CX : CXT}

theorem FnG.of {k : Nat} {f : Addr} {fd : FuncData} {ps : List Str} {sp : Sp}
    (F : FnOk P w K mg base CX k f fd ps sp) : FnG P w K mg base CX k f fd ps sp :=
  ⟨F.len, fun A outer s H args us vs Q E _ => F.run A outer s H args us vs Q E⟩

/-- by its body -/
theorem fn_ofG {k : Nat} {f : Addr} {name qual : Str} {params : Arguments} {body : List Stmt} {scope : Scope}
    {dV kV doc pm cdv ct oc : Value} {an od : Option Addr} {osl : Array (Option Value)} {N ps : List Str} {sp : Sp}
    (lk : K.lookup f = some ⟨oc, od, .func (PySem.W.fnOf name qual params body scope dV kV doc pm an cdv ct), osl⟩)
    (hcd : PySem.W.codeIn K cdv qual = true) (S : FnScope N ps scope)
    (len : ∀ vs H Q E, sp vs H Q E → vs.length = ps.length)
    (hbody : ∀ (A : Around) (outer : List Env) (s : Shared) (H : Hp) (vs : List V) (Q : VK) (E : XK),
      Qt (A.deeper (envOfC qual scope s.heap.objs.size f cdv)) →
      Room k (A.deeper (envOfC qual scope s.heap.objs.size f cdv)) → sp vs H Q E →
      ∃ t, PSs (cxOf CX P w K mg base N qual scope f cdv A outer s H E) body t ∧
        t { nx := fun _ H' => Q .non H', rt := Q } (start N vs) H) :
    FnG P w K mg base CX (k + 1) f (PySem.W.fnOf name qual params body scope dV kV doc pm an cdv ct) ps sp := by
  refine ⟨len, ?_⟩
  intro A outer s H args us vs Q E hq hr e0 hb r hsp
  have hl := len _ _ _ _ hsp
  have kept : ∀ b o, base.get? b = some o → s.heap.get? b = some o := fun b o e => (e0.bs b o e).1
  have KX : K.In s.heap := e0.mod.kin.keeps kept
  have lim : s.heap.NoLimit := e0.mod.nolimit.keeps kept
  have hkind : ∀ y ∈ ps.zip us, scope.names.lookup y.1 = some .local ∨
      (scope.names.lookup y.1 = some .cell ∧
        ((cellsFrom (s.heap.objs.size + 1) scope.names []).lookup y.1).isSome = true) := by
    intro y hy
    rcases S.par y.1 (List.of_mem_zip (a := y.1) (b := y.2) hy).1 with q | q
    · exact .inl q
    · exact .inr ⟨q, PySem.W.cellsFrom_some _ _ _ (.inl q)⟩
  refine codeAny_call_function hr.depth (KX _ _ lk) rfl S.co S.gen rfl
    (PySem.W.codeRec_of KX hcd) (hb _ _ _ _ ?_)
  refine wpAny_newFunctionEnv_cells S.kind hkind fun env he s1 x => ?_
  subst he
  refine ⟨lim.keeps x.toInCall.keep, codeAny_func ?_⟩
  obtain ⟨t, ht, go⟩ := hbody A outer s H vs Q E (hq.deeper _) (hr.deeper _) hsp
  have I : Inv (cxOf CX P w K mg base N qual scope f cdv A outer s H E) [] (start N vs) H s1 :=
    inv_start S hr.hd e0 hl r x
  refine wpAny_mono (ht.run [] s1 (start N vs) H _ I go) (fun fl s' hs => ?_) fun e s' hs => hs
  cases fl with
  | ret u =>
    obtain ⟨v, σ', H', J, rv, q⟩ := hs
    exact ⟨v, H', J.os, J.bare, J.base, J.hok, rv, q⟩
  | next =>
    obtain ⟨σ', H', J, q⟩ := hs
    exact ⟨V.non, H', J.os, J.bare, J.base, J.hok, rfl, q⟩
  | brk => obtain ⟨_, _, _, q⟩ := hs; exact False.elim q
  | cont => obtain ⟨_, _, _, q⟩ := hs; exact False.elim q
end

section
variable {X : Cx} {CX : CXT} {k : Nat} {f : Addr} {fd : FuncData} {ps : List Str} {sp : Sp} {ds : List Value} {dvs : List V} {E : XK}

theorem run_fnG {pins : List (Addr × Obj)} {σ : L2.St} {H : Hp} {s : Shared} {Q : VK} {us ws : List Value} {vs zs : List V} {ks : List Str}
    {g : List Value → List Value → List Value} {gV : List V → List V → List V}
    (F : FnG X.prog X.w X.K X.mg X.base CX k f fd ps sp) (hq : Qt X.A) (hr : Room k X.A)
    (hb : KBinds X.K fd ps ks g gV) (hx : Passes CX X E) (I : Inv X pins σ H s) (r : Vals vs us) (rz : Vals zs ws)
    (h : sp (gV vs zs) H Q E) :
    wpAny (model X.prog X.w) X.A (call (.ref f) us (ks.zip ws)) (EP X pins σ Q) X.xe s := by
  have r2 := hb.rel r rz
  have hl : (g us ws).length = ps.length := by
    rw [← r2.length]
    exact F.len _ _ _ _ h
  have z := F.run X.A X.stack s H ⟨us, ks.zip ws⟩ (g us ws) (gV vs zs) Q E hq hr I.env0 (hb.to s us ws I.kIn hl) r2 h
  refine wpAny_call (codeAny_mono z ?_)
  intro o s' ho
  match o, ho with
  | .error e, ho => exact hx pins σ H s e s' I ho
  | .ok (.ret u), ho => exact I.after ho
  | .ok .next, ho => exact False.elim ho
  | .ok .brk, ho => exact False.elim ho
  | .ok .cont, ho => exact False.elim ho

/-- all by their names, or nothing -/
def gK {α : Type} : List α → List α → List α
  | [], ws => ws
  | _ :: _, _ => []

/-- a def of the module that may be called by its name, all parameters given -/
structure Cal (P : Program) (w : World) (K : PySem.W.Frag) (mg : Str → Option Value)
    (base : Heap) (CX : CXT) (k : Nat) (x : Str) (ps : List Str) (sp : Sp) : Prop where
  ex : ∃ (f : Addr) (fd : FuncData), FnG P w K mg base CX k f fd ps sp ∧ mg x = some (.ref f) ∧
    PySem.W.keepIn K (.ref f) = true ∧ Binds K fd ps [] ∧
    (ps ≠ [] → KBinds K fd ps ps gK gK)

variable {x : Str} {p pos : Pos} {e : Expr} {es : List Expr} {kws : List Keyword} {t tk : TA} {j : Nat}

theorem kb_of {fd : FuncData} (hb : Binds X.K fd ps []) : KBinds X.K fd ps [] (fun us _ => us) (fun vs _ => vs) :=
  ⟨fun s us ws hK hl => by
    have z := hb s us hK (by rw [List.append_nil]; exact hl)
    rw [List.append_nil] at z
    exact z, fun r _ => r⟩

theorem pe_c (c : Cal X.prog X.w X.K X.mg X.base CX k x ps sp) (hx : Passes CX X E) (hq : Qt X.A) (hr : Room j X.A) (hk : k ≤ j)
    (hg : Gl X x) (ha : PA X (e :: es) t) (hdb : (x == ("__debug__" : Str)) = false := by decide)
    (he : starEach (e :: es) X.env = (false, eval e X.env) :: starEach es X.env := by rfl)
    (hpl : (backTo pos (starEach es X.env)).any (·.1) = false := by rfl) :
    PE X (.Call (.Name x p) (e :: es) [] pos) (tCall sp [] E t) := by
  obtain ⟨f, fd, F, hm, hkp, hb, _⟩ := c.ex
  constructor
  intro pins s σ H Q I h
  refine wpAny_Call_Name_kw (ld_glob I hg hm ?_ hdb)
  refine PySem.W.callWith_K (h₀ := X.base) I.ok.mod.kin hkp ?_ he hpl
  refine thn (ha.run pos pins s σ H _ I h) ?_
  rintro us s1 ⟨vs, H1, I1, r, q⟩
  rw [List.append_nil] at q
  exact ⟨I1.kIn, run_fnG (ks := []) (ws := []) F hq (hr.mono hk) (kb_of hb) hx I1 r .nil q⟩

theorem pe_c0 (c : Cal X.prog X.w X.K X.mg X.base CX k x ps sp) (hx : Passes CX X E) (hq : Qt X.A) (hr : Room j X.A) (hk : k ≤ j)
    (hg : Gl X x) (hdb : (x == ("__debug__" : Str)) = false := by decide) :
    PE X (.Call (.Name x p) [] [] pos) (tCall sp [] E tNil) := by
  obtain ⟨f, fd, F, hm, hkp, hb, _⟩ := c.ex
  constructor
  intro pins s σ H Q I h
  refine wpAny_Call_Name_kw (ld_glob I hg hm ?_ hdb)
  exact PySem.W.callWith_K0 I.kIn hkp (run_fnG (ks := []) (us := []) (ws := []) F hq (hr.mono hk) (kb_of hb) hx I .nil .nil h)

/-- all by their names, in the parameters' order -/
theorem pe_cK (c : Cal X.prog X.w X.K X.mg X.base CX k x ps sp) (hx : Passes CX X E) (hq : Qt X.A) (hr : Room j X.A) (hk : k ≤ j)
    (hg : Gl X x) (h0 : ps ≠ []) (hkw : PK X kws tk)
    (hall : (backToKw pos (keywordEach kws X.env)).all (·.1.isSome) = true := by rfl)
    (hks : (backToKw pos (keywordEach kws X.env)).filterMap (·.1) = ps := by rfl)
    (hdb : (x == ("__debug__" : Str)) = false := by decide)
    (hpl : ((backTo pos (starEach [] X.env)).any (·.1) || (backToKw pos (keywordEach kws X.env)).any (·.1.isNone)) = false := by rfl) :
    PE X (.Call (.Name x p) [] kws pos) (tCall sp [] E tk) := by
  obtain ⟨f, fd, F, hm, hkp, _, hb⟩ := c.ex
  constructor
  intro pins s σ H Q I h
  refine wpAny_Call_Name_kw (ld_glob I hg hm ?_ hdb)
  refine PySem.W.callWith_KW0 (h₀ := X.base) I.ok.mod.kin hkp hall ?_ hpl
  refine thn (hkw.run pos pins s σ H _ I h) ?_
  rintro ws s1 ⟨zs, H1, I1, r, q⟩
  rw [List.append_nil] at q
  refine ⟨I1.kIn, ?_⟩
  rw [hks]
  exact run_fnG (us := []) (vs := []) F hq (hr.mono hk) (hb h0) hx I1 .nil r q
end

section
variable {P : Program} {w : World} {K : PySem.W.Frag} {mg : Str → Option Value} {base : Heap}
theorem kb_all {fd : FuncData} {ps : List Str} (h0 : ps ≠ [])
    (h : ∀ ws : List Value, ws.length = ps.length → bindArgs fd ⟨[], ps.zip ws⟩ = pure (ps.zip ws)) : KBinds K fd ps ps gK gK where
  to := fun s us ws _ hl => by
    cases us with
    | nil => exact .of_eq (h ws hl)
    | cons u us =>
      exfalso
      cases ps with
      | nil => exact h0 rfl
      | cons y ps => cases hl
  rel := fun {vs us zs ws} r rz => by
    cases r with
    | nil => exact rz
    | cons _ _ => exact .nil
/-- a def by its body; nothing leaves it by a raise -/
theorem fng_of {x : Str} {st : Stmt} {f : Addr} {fd : FuncData} {N ps : List Str} {k : Nat} {sp : Sp}
    (F : L2.Fun K x x st f fd)
    (S : FnScope N ps (defScope st)) (len : ∀ vs H Q E, sp vs H Q E → vs.length = ps.length)
    (hbody : ∀ (cdv : Value) (A : Around) (outer : List Env) (s : Shared) (H : Hp) (vs : List V) (Q : VK) (E : XK),
      Qt (A.deeper (envOfC x (defScope st) s.heap.objs.size f cdv)) →
      Room k (A.deeper (envOfC x (defScope st) s.heap.objs.size f cdv)) → sp vs H Q E →
      ∃ t, PSs (cxOf L2.CX0 P w K mg base N x (defScope st) f cdv A outer s H E).nox (defBody st) t ∧
        t { nx := fun _ H' => Q .non H', rt := Q } (start N vs) H) :
    FnG P w K mg base L2.CX0 (k + 1) f fd ps sp := by
  obtain ⟨oc, od, kV, doc, pm, an, cdv, ct, osl, rfl, lk, hcd⟩ := F.ex
  refine fn_ofG lk hcd S len ?_
  intro A outer s H vs Q E hq hr hsp
  obtain ⟨t, h, q⟩ := hbody cdv A outer s H vs Q E hq hr hsp
  exact ⟨t, h.nox, q⟩
theorem cal_of {x : Str} {st : Stmt} {f : Addr} {fd : FuncData} {N ps : List Str} {k : Nat} {sp : Sp}
    (F : L2.Fun K x x st f fd) (hm : mg x = some (.ref f)) (hb : Binds K fd ps []) (hkb : ps ≠ [] → KBinds K fd ps ps gK gK)
    (S : FnScope N ps (defScope st)) (len : ∀ vs H Q E, sp vs H Q E → vs.length = ps.length)
    (hbody : ∀ (cdv : Value) (A : Around) (outer : List Env) (s : Shared) (H : Hp) (vs : List V) (Q : VK) (E : XK),
      Qt (A.deeper (envOfC x (defScope st) s.heap.objs.size f cdv)) →
      Room k (A.deeper (envOfC x (defScope st) s.heap.objs.size f cdv)) → sp vs H Q E →
      ∃ t, PSs (cxOf L2.CX0 P w K mg base N x (defScope st) f cdv A outer s H E).nox (defBody st) t ∧
        t { nx := fun _ H' => Q .non H', rt := Q } (start N vs) H) :
    Cal P w K mg base L2.CX0 (k + 1) x ps sp :=
  ⟨f, fd, fng_of F S len hbody, hm, F.kp, hb, hkb⟩

/-- the law's call, from the world outside -/
theorem law_callG {mb : Str → Option Value} {CX : CXT} {k : Nat} {fa a : Addr} {fd : FuncData} {x : Str} {sp : Sp}
    {s₁ : Shared} {vs : List Value} {ns : List Int}
    (KX : K.In s₁.heap) (hns : s₁.heap.Ns mainGlobals mg) (hb : s₁.heap.Ns builtinsNs mb)
    (hbb : ∀ x : Str, x ≠ "__name__" → mb x = bootBuiltins x) (hlim : s₁.heap.NoLimit) (hg : s₁.gens = #[])
    (ha : s₁.heap.get? a = some { cls := .type "list", data := .seq vs.toArray }) (hi : IntsAre vs ns)
    (hl : ns.length ≤ sizeLine) (hr : Room k callerA)
    (F : ∀ base : Heap, K.In base → base.Ns mainGlobals mg → FnG P w K mg base CX k fa fd [x] sp)
    (hbind : ∀ (s : Shared) (u : Value), BindsTo s fd ⟨[u], []⟩ [(x, u)])
    (hsp : ∀ H : Hp, Only H → SqL K H a (ns.map V.int) → sp [.ref a] H (fun v _ => v = .bl true) fun _ _ _ => False)
    (hCX : ∀ H e s', CX [] H s₁ (fun _ _ _ => False) e s' → False) :
    codeAny (model P w) callerA (.call (.ref fa) ⟨[.ref a], []⟩)
      (fun r s' => r = .ok (.ret (.bool true)) ∧ OldK s₁.heap s'.heap ∧ s'.os = s₁.os ∧ AllBare s'.gens) s₁ := by
  have rv := vals_ints hi
  have lenV := hi.length
  -- over any abstract heap that tracks the script at most
  have inner : ∀ H : Hp, Only H → SqL K H a (ns.map V.int) → HOk P w H s₁.heap → (∀ b, H b ≠ none → b = a) →
      (H a ≠ none → K.lookup a = none) →
      codeAny (model P w) callerA (.call (.ref fa) ⟨[.ref a], []⟩)
        (fun r s' => r = .ok (.ret (.bool true)) ∧ OldK s₁.heap s'.heap ∧ s'.os = s₁.os ∧ AllBare s'.gens) s₁ := by
    intro H hO hS hok hA hK
    have one : ∀ {b : Addr} {u : HO}, H b = some u → b = a := fun {b u} z => hA b (by rw [z]; simp)
    have noD : ∀ {b : Addr} {o : Obj} {es : Array DictEntry} {ep : Nat},
        s₁.heap.get? b = some o → o.data = .dict es ep → H b = none := by
      intro b o es ep e d
      cases q : H b with
      | none => rfl
      | some u =>
        obtain rfl := one q
        rw [ha] at e
        cases e
        have d' : Data.seq vs.toArray _ = Data.dict es ep := d
        cases d'
    have nsK : ∀ {b : Addr} {m : Str → Option Value}, s₁.heap.Ns b m → (hidT s₁.heap H).Ns b m := by
      rintro b m ⟨o, es, ep, e, d, r⟩
      exact ⟨o, es, ep, hidT_get e (noD e d), d, r⟩
    have hKb : K.In (hidT s₁.heap H) := by
      intro b o e
      refine hidT_get (KX b o e) ?_
      cases q : H b with
      | none => rfl
      | some u =>
        obtain rfl := one q
        rw [hK (by rw [q]; simp)] at e
        cases e
    obtain ⟨mc, l1, l2⟩ := hlim
    have hM : Mod K mg (hidT s₁.heap H) := ⟨hKb, nsK hns, ⟨mb, nsK hb, hbb⟩, mc, nsK l1, l2⟩
    have no0 : ∀ b : Addr, b ∈ ([] : List Addr) → False := fun b z => by simp at z
    have e0 : Env0 P w K mg (hidT s₁.heap H) callerA [] s₁ H :=
      ⟨rfl, hM, fun b o e => of_hidT e, Nat.le_of_eq (hidT_size _ _), trivial, fun b z => (no0 b z).elim, hok, .of_eq hg⟩
    have go := (F _ hKb (nsK hns)).run callerA [] s₁ H ⟨[.ref a], []⟩ [.ref a] [.ref a] _ _ rfl hr e0
      (hbind s₁ (.ref a)) (.cons rfl .nil) (hsp H hO hS)
    refine codeAny_mono go ?_
    intro r s' h
    match r, h with
    | .error e, h => exact (hCX H e s' h).elim
    | .ok .next, h => exact False.elim h
    | .ok .brk, h => exact False.elim h
    | .ok .cont, h => exact False.elim h
    | .ok (.ret u), h =>
      obtain ⟨v, H', os, bare, un, hok', r', q⟩ := h
      have q' : v = .bl true := q
      subst q'
      obtain rfl : u = Value.bool true := r'
      refine ⟨rfl, OldK.of_keep ?_, os, bare⟩
      intro b o e
      cases q : H b with
      | none => exact un.keep b o e q (no0 b) (by simp)
      | some u =>
        rcases hO b with z | ⟨ob, xs, z⟩
        · rw [q] at z
          cases z
        · obtain ⟨e1, _⟩ := hok b _ z
          obtain ⟨e2, _⟩ := hok' b _ (un.frzs b ob _ z)
          rw [e] at e1
          cases e1
          exact e2
  cases hk : K.lookup a with
  | some o =>
    have e := KX a o hk
    rw [ha] at e
    cases e
    have sz : vs.toArray.size ≤ sizeLine := by
      rw [List.size_toArray, lenV]
      exact hl
    refine inner (fun _ => none) (fun _ => .inl rfl) (.inr ⟨_, vs.toArray, _, hk, rfl, rfl, rfl, sz, by simpa using rv⟩) ?_ ?_ ?_
    · intro b u z
      have z' : (none : Option HO) = some u := z
      cases z'
    · exact fun b z => absurd rfl z
    · exact fun z => absurd rfl z
  | none =>
    let u : HO := .frz { cls := .type "list", data := .seq vs.toArray } (.lst (ns.map V.int))
    have yes : ∀ {b : Addr}, b = a → (if b = a then some u else none) = some u := fun h => if_pos h
    have no : ∀ {b : Addr}, ¬ b = a → (if b = a then some u else none) = none := fun h => if_neg h
    refine inner (fun b => if b = a then some u else none) ?_ (.inl (.inr ⟨_, yes rfl⟩)) ?_ ?_ fun _ => hk
    · intro b
      by_cases hb : b = a
      · exact .inr ⟨_, _, yes hb⟩
      · exact .inl (no hb)
    · intro b v z
      by_cases hb : b = a
      · have z' := (yes hb).symm.trans z
        cases z'
        subst hb
        refine ⟨ha, ?_, vs, _, rv, ha⟩
        rw [List.length_map]
        exact hl
      · have z' := (no hb).symm.trans z
        cases z'
    · intro b z
      by_cases hb : b = a
      · exact hb
      · exact absurd (no hb) z
end

/-- the goal of the head, from the law's promise -/
theorem walk_ofG {l : PySem.W.OpenLaw} {n k : Nat} {q : Program} {loose : List Str} {XP : (Str → Option Value) → Heap → Prop}
    {YP : World → Heap → Prop} {d : DefRec} {K : Params → PySem.W.Frag} {CX : World → CXT} {sp : World → Sp} {x : Str}
    (hn : l.most = some n) (hn2 : n ≤ sizeLine) (hdf : d.params.defaults = []) (hr : Room k callerA)
    (hY : ∀ (w : World) (h : Heap), YP w h → (K w.params).In h)
    (F : ∀ (w : World) (mg : Str → Option Value) (fa : Addr) (h : Heap), (K w.params).In h → h.Ns mainGlobals mg →
      mg d.name = some (.ref fa) →
      ∃ fd : FuncData, (∀ (s : Shared) (u : Value), BindsTo s fd ⟨[u], []⟩ [(x, u)]) ∧
        ∀ base : Heap, (K w.params).In base → base.Ns mainGlobals mg → FnG l.prog w (K w.params) mg base (CX w) k fa fd [x] (sp w))
    (hsp : ∀ (w : World) (H : Hp) (a : Addr) (ns : List Int), ns.length ≤ n →
      (∀ z ∈ ns, Builtin.Int.intBits z ≤ 1048576) → Only H → SqL (K w.params) H a (ns.map V.int) →
      sp w [.ref a] H (fun v _ => v = .bl true) fun _ _ _ => False)
    (hCX : ∀ (w : World) (H : Hp) (s : Shared) (e : Value) (s' : Shared), CX w [] H s (fun _ _ _ => False) e s' → False) :
    PySem.W.WalkO q loose XP YP l.row.toRowW d [] (fun f vs => PySem.call f vs) := by
  refine Att.attach_callB hn hdf ?_
  intro w s₀ s₁ mg mb fa o pm cd doc a vs ns G Y ho hd hcd hmg hobj hints hlen hbits hg
  have KX := hY w _ Y
  obtain ⟨fd, hb, hF⟩ := F w mg fa _ KX G.T.g hmg
  exact law_callG KX G.T.g G.T.b G.T.builtins G.T.nolimit hg hobj hints (Nat.le_trans hlen hn2) hr hF hb
    (fun H hO hS => hsp w H a ns hlen hbits hO hS) fun H e s' => hCX w H s₁ e s'
end Kit

namespace Kit
open PySem PySem.Spec PyProof.Rows L2
section
variable {X : Cx}
/-- * of whole numbers, as great as the machine lets -/
theorem op_mulB : OpR X (binaryOp .Mult) (rI IntMulOk fun i j => .int (i * j)) :=
  opI fun i j t u s Q E hc q => mul_int q hc

/-- a text times a number -/
def rRepS : R2 := fun x y H Q => ∃ (z : Str) (k : Int), x = .str z ∧ y = .int k ∧ z.length ≤ 1000 ∧ 0 ≤ k ∧ k ≤ 1000 ∧ Q (.str (Txt.mul z k)) H
theorem op_repS : OpR X (binaryOp .Mult) rRepS := by
  intro pins s σ H x y v u Q I rx ry h
  obtain ⟨z, k, rfl, rfl, hz, h0, hk, q⟩ := h
  obtain ⟨t, rfl⟩ := rx
  obtain ⟨t', rfl⟩ := ry
  exact SB.mul (mulOk_of 1000 1000 hz hk (by omega) (by decide) (by decide)) fun t' k => ⟨.str _, H, I.tok _, ⟨_, rfl⟩, q⟩

/-- repr of lists and tuples of data -/
def rReprD (K : PySem.W.Frag) : List V → Hp → VK → Prop := fun xs H Q => ∃ (a : Addr) (d : PyData), xs = [.ref a] ∧ Dp K H (.ref a) d ∧
  d.showable = true ∧ d.hasDict = false ∧ d.depth ≤ 150 ∧ d.shown.length ≤ sizeLine ∧ Q (.str d.shown) H
theorem call_reprD (hq : Qt X.A) (hu : X.A.units + 200 < cLine) : CallR X (.builtin "repr") (rReprD X.K) := by
  intro pins s σ H xs us Q I r h
  obtain ⟨a, d, rfl, hd, hs, hn, hp, hz, q⟩ := h
  obtain ⟨u, rfl, ru⟩ := vals1 r
  obtain ⟨as, rd⟩ := Dp.reads I d _ _ hd ru
  obtain rfl : u = Value.ref a := ru
  refine repr_of_reads' rd hs (PyData.noDict_hsm hn) hq (by omega) (fun _ _ e => e) (fun h' u tk hk => ?_) hz
  exact ⟨.str _, H, I.kept hk, ⟨_, rfl⟩, q⟩

/-- a list of anything beside one without items -/
def rEqNil (K : PySem.W.Frag) : R2 := fun x y H Q => ∃ (a b : Addr) (xs : List V), x = .ref a ∧ y = .ref b ∧ SqL K H a xs ∧ SqL K H b [] ∧ Q (.bl xs.isEmpty) H
def rNeNil (K : PySem.W.Frag) : R2 := fun x y H Q => ∃ (a b : Addr) (xs : List V), x = .ref a ∧ y = .ref b ∧ SqL K H a xs ∧ SqL K H b [] ∧ Q (.bl (!xs.isEmpty)) H
theorem op_eqNil (hu : X.A.units + 200 < cLine) : OpR X (compareOp .Eq) (rEqNil X.K) := by
  intro pins s σ H x y v u Q I rx ry h
  obtain ⟨a, b, xs, rfl, rfl, ha, hb, q⟩ := h
  cases rx
  cases ry
  obtain ⟨its, r1, p1, _⟩ := I.list ha
  obtain ⟨its2, r2, p2, _⟩ := I.list hb
  cases r2
  cases xs with
  | nil =>
    cases r1
    exact SeqAt.eq_listAt (e := fun _ => true) p1.isList p2.isList rfl (by omega) (fun j h1 _ => absurd h1 (Nat.not_lt_zero j)) ⟨.bl true, H, I, rfl, q⟩
  | cons z zs =>
    cases r1
    exact SeqAt.eq_list_lengthsAt p1.isList p2.isList (by simp) (by omega) ⟨.bl false, H, I, rfl, q⟩
theorem op_neNil (hu : X.A.units + 200 < cLine) : OpR X (compareOp .NotEq) (rNeNil X.K) := by
  intro pins s σ H x y v u Q I rx ry h
  obtain ⟨a, b, xs, rfl, rfl, ha, hb, q⟩ := h
  cases rx
  cases ry
  obtain ⟨its, r1, p1, _⟩ := I.list ha
  obtain ⟨its2, r2, p2, _⟩ := I.list hb
  cases r2
  cases xs with
  | nil =>
    cases r1
    exact SeqAt.RcNeAt.lists (e := fun _ => true) p1.isList p2.isList rfl (by omega) (fun j h1 _ => absurd h1 (Nat.not_lt_zero j)) _ _ _ _ ⟨.bl false, H, I, rfl, q⟩
  | cons z zs =>
    cases r1
    exact SeqAt.RcNeAt.lists_lengths p1.isList p2.isList (by simp) (by omega) _ _ _ _ ⟨.bl true, H, I, rfl, q⟩

/-- a text from behind: what of it is told is its length -/
def tRevS (te : TE) : TE := fun σ H Q => te σ H fun x H1 => ∃ z : Str, x = .str z ∧ z.length ≤ sizeLine ∧ ∀ y : Str, y.length ≤ z.length → Q (.str y) H1
theorem pe_revS {e : Expr} {te : TE} {k : Nat} {p1 p2 p3 pos : Pos} (he : PE X e te)
    (hlt : ∀ (z : Str) (t : Tok) r, letTemporaryGo e (.str z t) r = pure () := by intro _ _ _; with_unfolding_all rfl) :
    PE X (.Subscript e (.Slice none none (some (.UnaryOp .USub (.Constant (.int 1) k p1) p2)) p3) pos) (tRevS te) := by
  constructor
  intro pins s σ H Q I h
  refine Subscript_ (thn (he.run pins s σ H _ I h) ?_)
  rintro v s1 ⟨x, H1, I1, r1, z, rfl, hz, q⟩
  obtain ⟨t, rfl⟩ := r1
  have hst : PO X (some (.UnaryOp .USub (.Constant (.int 1) k p1) p2)) (tPart (tUn (rU fun i => .int (-i)) (tC (.int 1)))) :=
    po_some (pe_un un_neg pe_int)
  refine wpAny_Slice (thn (po_none.run pins s1 σ H1 (fun o H2 => o = none ∧ H2 = H1) I1 ⟨rfl, rfl⟩) ?_)
  rintro vl s2 ⟨l, H2, I2, pl, rfl, rfl⟩
  refine thn (po_none.run pins s2 σ H2 (fun o H3 => o = none ∧ H3 = H2) I2 ⟨rfl, rfl⟩) ?_
  rintro vu s3 ⟨u, H3, I3, pu, rfl, rfl⟩
  refine thn (hst.run pins s3 σ H3 (fun o H4 => o = some (-1) ∧ H4 = H3) I3 ⟨1, rfl, -1, rfl, rfl, rfl⟩) ?_
  rintro vs s4 ⟨o, H4, I4, ps, rfl, rfl⟩
  cases pl
  cases pu
  cases ps with
  | int _ uk =>
    refine tail_of_ItemOn (ops := [.ref s4.heap.objs.size, .str z t]) ⟨"str", _, F.slot_str_getitem.lookup, typeIs_str _ _ _,
      wpAny_getItem_str_slice (l := none) (u := none) (st := some (-1, uk)) ⟨_, Heap.get?_push_size _ rfl, rfl, rfl⟩ rfl
        (post_val_or_str ⟨?_, ?_⟩)⟩ (by with_unfolding_all rfl) (hlt z t)
    · exact Nat.le_trans (Txt.sliceBy_le z none none (-1, uk) (by show (-1 : Int) ≠ 0; decide)) hz
    · intro t' c
      exact ⟨.str _, H4, I4.kept (fun b u e => Heap.get?_push_of_some _ e), ⟨_, rfl⟩, q _ (Txt.sliceBy_le z none none (-1, uk) (by show (-1 : Int) ≠ 0; decide))⟩

/-- the signs of a text, a text each -/
def sgV (z : Str) : List V := z.cps.toList.map fun c => .str ⟨#[c]⟩
theorem sgV_len (z : Str) : (sgV z).length = z.length := by
  unfold sgV
  rw [List.length_map, Array.length_toList]
  rfl
theorem vals_signs : ∀ (cs : List Nat) (us : List Value), us.length = cs.length → (∀ (j : Nat) (v : Value), us[j]? = some v → ∃ c t, cs[j]? = some c ∧ v = Value.str ⟨#[c]⟩ t) →
    Vals (cs.map fun c => V.str ⟨#[c]⟩) us
  | [], [], _, _ => .nil
  | [], _ :: _, h, _ => by cases h
  | _ :: _, [], h, _ => by cases h
  | c :: cs, u :: us, hl, h => by
    obtain ⟨c', t, e1, e2⟩ := h 0 u rfl
    have e1' : c = c' := Option.some.inj e1
    subst e1'
    exact .cons ⟨t, e2⟩ (vals_signs cs us (by simpa using hl) fun j v e => h (j + 1) v (by simpa using e))
/-- list(a text) -/
theorem call_listS (hc : X.calm = true) : CallR X (.type "list") (fun xs H Q => ∃ z : Str, xs = [.str z] ∧ z.length ≤ sizeLine ∧ ∀ l, H l = none → Q (.ref l) (upd H l (.lst (sgV z)))) := by
  intro pins s σ H xs us Q I r h
  obtain ⟨z, rfl, hz, q⟩ := h
  obtain ⟨u, rfl, t, rfl⟩ := vals1 r
  refine PySem.call_list_str (I.ok.hd hc) z t (fun h' tk acc c' kp e ia => ?_) hz
  have hv : Vals (sgV z) acc.toList := vals_signs _ _ (by rw [Array.length_toList, Array.length_toList]; exact ia.1) fun j v e => by
    obtain ⟨c, u, h1, h2⟩ := ia.2 j v (by rw [← Array.getElem?_toList]; exact e)
    exact ⟨c, u, by rw [Array.getElem?_toList]; exact h1, h2⟩
  exact ⟨.ref s.heap.objs.size, _, I.laid (t' := tk) kp (Nat.le_refl _)
    (show ObjOk X.prog X.w _ h' _ (.lst (sgV z)) from ⟨by rw [sgV_len]; exact hz, acc.toList, c', hv, by rw [Array.toArray_toList]; exact e⟩), rfl, q _ (I.hok.fresh (Nat.le_refl _))⟩
end

/-! ### a comprehension over the signs of a text -/
theorem lc_str {x : Str} {g : TG} {tt : TT} {te : TE} {vs : List Nat} {σ : L2.St} {H1 : Hp} {D : Addr} {Qd : Hp → Prop} (Pv : Nat → Hp → Prop)
    (h0 : Pv 0 (upd H1 D (.lst [])))
    (hs : ∀ i c H, x.cps.toList[i]? = some c → Pv i H → g (.str ⟨#[c]⟩) (wipe σ vs) H fun σ2 H2 => wipe σ2 vs = wipe σ vs ∧ tt σ2 H2 fun b H3 =>
      if b = true then te σ2 H3 fun y H4 => ∃ acc, H4 D = some (.lst acc) ∧ acc.length < sizeLine ∧ Pv (i + 1) (upd H4 D (.lst (acc ++ [y])))
      else Pv (i + 1) H3)
    (hd : ∀ H, Pv x.cps.size H → Qd H) :
    ∃ W : Nat → Nat → Hp → Prop, (∃ m, W 0 m (upd H1 D (.lst []))) ∧ ∀ i m H, W i m H →
      ((Its x).stop i H ∧ Qd H) ∨ ((Its x).go i H ∧ ∃ Nx : Hp → Prop, (∀ H', Nx H' → ∃ m', m' < m ∧ W (i + 1) m' H') ∧
        ∀ v H', (Its x).yld i H v H' → g v (wipe σ vs) H' fun σ2 H2 => wipe σ2 vs = wipe σ vs ∧ tt σ2 H2 fun b H3 =>
          if b = true then te σ2 H3 fun y H4 => ∃ acc, H4 D = some (.lst acc) ∧ acc.length < sizeLine ∧ Nx (upd H4 D (.lst (acc ++ [y]))) else Nx H3) := by
  refine ⟨fun i m H => m = x.cps.size - i ∧ i ≤ x.cps.size ∧ Pv i H, ⟨x.cps.size, rfl, Nat.zero_le _, h0⟩, ?_⟩
  rintro i m H ⟨rfl, hi, p⟩
  by_cases hlt : i < x.cps.size
  · refine .inr ⟨hlt, Pv (i + 1), fun H' q => ⟨x.cps.size - (i + 1), by omega, rfl, by omega, q⟩, ?_⟩
    rintro v H' ⟨rfl, c, e, rfl⟩
    exact hs i c H' (by rw [Array.getElem?_toList]; exact e) p
  · have e : i = x.cps.size := by omega
    subst e
    exact .inl ⟨Nat.le_refl _, hd H p⟩

theorem sgV_get {z : Str} {j : Nat} {x : V} (h : (sgV z)[j]? = some x) : ∃ k, x = .str ⟨#[k]⟩ ∧ z.cps.toList[j]? = some k := by
  unfold sgV at h
  rw [List.getElem?_map] at h
  cases q : z.cps.toList[j]? with
  | none =>
    rw [q] at h
    cases h
  | some k =>
    rw [q] at h
    exact ⟨k, (Option.some.inj h).symm, rfl⟩
/-! ### what may be drawn from: a list, a tuple, a text -/
inductive Sq (K : PySem.W.Frag) (H : Hp) : V → List V → Prop
  | lst {a : Addr} {xs : List V} (h : SqL K H a xs) : Sq K H (.ref a) xs
  | tup {a : Addr} {xs : List V} (h : SqT K H a xs) : Sq K H (.ref a) xs
  | str {z : Str} (h : z.length ≤ sizeLine) : Sq K H (.str z) (sgV z)
theorem atI_lt {α : Type} {xs : List α} {i : Int} {n : Nat} (h0 : 0 ≤ i) (h1 : i < (n : Int)) (hn : n = xs.length) : ∃ v, atI xs i = some v ∧ xs[i.toNat]? = some v := by
  subst hn
  obtain ⟨k, rfl⟩ := Int.eq_ofNat_of_zero_le h0
  have h2 : k < xs.length := by omega
  exact ⟨xs[k], atI_nat (List.getElem?_eq_getElem h2), List.getElem?_eq_getElem h2⟩

/-- a def of the module, as it stands behind the top -/
structure DefAt (K : PySem.W.Frag) (mg : Str → Option Value) (x : Str) (ps : List Str) (st : Stmt) (f : Addr) (fd : FuncData) : Prop where
  fn : L2.Fun K x x st f fd
  mgf : mg x = some (.ref f)
  bs : L2.Binds K fd ps []
  kbs : ps ≠ [] → KBinds K fd ps ps gK gK


theorem def_mk {K : PySem.W.Frag} {mg : Str → Option Value} {h : Heap} {x : Str} {ps : List Str} {st : Stmt} {f : Addr} {oc : Value} {od an : Option Addr} {osl : Array (Option Value)}
    {kV doc pm cdv ct : Value} (X : K.In h) (G : h.Ns mainGlobals mg) (a : PySem.W.nsIn K mainGlobals x = some (some (.ref f)))
    (l : K.lookup f = some ⟨oc, od, .func (PySem.W.fnOf x x (defArgs st) (defBody st) (defScope st) .none kV doc pm an cdv ct), osl⟩)
    (c : PySem.W.codeIn K cdv x = true) (k : PySem.W.keepIn K (.ref f) = true)
    (hb : ∀ (kV doc pm : Value) (an : Option Addr) (cdv ct : Value) (us : List Value), us.length = ps.length →
      bindArgs (PySem.W.fnOf x x (defArgs st) (defBody st) (defScope st) .none kV doc pm an cdv ct) ⟨us, []⟩ = pure (ps.zip us))
    (hk : ps ≠ [] → ∀ (kV doc pm : Value) (an : Option Addr) (cdv ct : Value) (ws : List Value), ws.length = ps.length →
      bindArgs (PySem.W.fnOf x x (defArgs st) (defBody st) (defScope st) .none kV doc pm an cdv ct) ⟨[], ps.zip ws⟩ = pure (ps.zip ws)) :
    DefAt K mg x ps st f (PySem.W.fnOf x x (defArgs st) (defBody st) (defScope st) .none kV doc pm an cdv ct) := by
  have F := fun_mk (st := st) l c k
  exact ⟨F, PySem.W.mg_of X G a, F.binds hb, fun h0 => kb_all h0 fun ws hl => hk h0 kV doc pm an cdv ct ws hl⟩

theorem room200 {A : Around} {k : Nat} (hr : Room k A) : A.units + 200 < cLine := by
  have h := hr.un
  omega

/-! ### heaps -/
theorem same_new {H : Hp} {p : Addr} {o : HO} (h : H p = none) : Same H (upd H p o) := fun b x e => by
  rw [upd_ne (ne_of_none e h)]
  exact e
theorem same_mut {H H' : Hp} {p : Addr} {o : HO} (s : Same H H') (h : H p = none) : Same H (upd H' p o) := fun b x e => by
  rw [upd_ne (ne_of_none e h)]
  exact s b x e
/-- all but two is as it was -/
def But (d c : Addr) (H H' : Hp) : Prop := ∀ b o, b ≠ d → b ≠ c → H b = some o → H' b = some o
theorem But.refl (d c : Addr) (H : Hp) : But d c H H := fun _ _ _ _ e => e
theorem But.trans {d c : Addr} {H H1 H2 : Hp} (a : But d c H H1) (b : But d c H1 H2) : But d c H H2 := fun x o h1 h2 e => b x o h1 h2 (a x o h1 h2 e)
theorem But.same {d c : Addr} {H H1 H2 : Hp} (a : But d c H H1) (b : Same H1 H2) : But d c H H2 := fun x o h1 h2 e => b x o (a x o h1 h2 e)
theorem But.of {d c : Addr} {H H1 : Hp} (b : Same H H1) : But d c H H1 := fun x o _ _ e => b x o e
theorem But.mut {d c p : Addr} {o : HO} {H H1 : Hp} (a : But d c H H1) (h : H p = none) : But d c H (upd H1 p o) := fun x u h1 h2 e => by
  rw [upd_ne (ne_of_none e h)]
  exact a x u h1 h2 e
theorem But.sql {K : PySem.W.Frag} {d c a : Addr} {H H1 : Hp} {xs : List V} (h : But d c H H1) (h1 : a ≠ d) (h2 : a ≠ c) (e : SqL K H a xs) : SqL K H1 a xs := by
  rcases e with (e | ⟨o, e⟩) | e
  · exact .inl (.inl (h _ _ h1 h2 e))
  · exact .inl (.inr ⟨o, h _ _ h1 h2 e⟩)
  · exact .inr e
theorem But.sqt {K : PySem.W.Frag} {d c a : Addr} {H H1 : Hp} {xs : List V} (h : But d c H H1) (h1 : a ≠ d) (h2 : a ≠ c) (e : SqT K H a xs) : SqT K H1 a xs := by
  rcases e with (e | ⟨o, e⟩) | e
  · exact .inl (.inl (h _ _ h1 h2 e))
  · exact .inl (.inr ⟨o, h _ _ h1 h2 e⟩)
  · exact .inr e
theorem But.sq {K : PySem.W.Frag} {d c : Addr} {H H1 : Hp} {v : V} {xs : List V} (h : But d c H H1) (h1 : v ≠ .ref d) (h2 : v ≠ .ref c) (e : Sq K H v xs) : Sq K H1 v xs := by
  cases e with
  | lst e => exact .lst (h.sql (fun z => h1 (by rw [z])) (fun z => h2 (by rw [z])) e)
  | tup e => exact .tup (h.sqt (fun z => h1 (by rw [z])) (fun z => h2 (by rw [z])) e)
  | str e => exact .str e
theorem Sq.lenV {K : PySem.W.Frag} {H : Hp} {v : V} {xs : List V} (h : Sq K H v xs) : LenV K v H xs.length := by
  cases h with
  | lst e => exact .inl ⟨_, e, rfl⟩
  | tup e => exact .inr ⟨_, e, rfl⟩
  | str e => exact ⟨e, sgV_len _⟩
/-- an item of it -/
theorem Sq.item {K : PySem.W.Frag} {H : Hp} {v y : V} {xs : List V} {i : Int} {Q : VK} (h : Sq K H v xs) (e : atI xs i = some y) (q : Q y H) : rIx K v (.int i) H Q := by
  cases h with
  | lst h => exact .inl ⟨_, _, _, _, rfl, rfl, h, e, q⟩
  | tup h => exact .inr (.inl ⟨_, _, _, _, rfl, rfl, h, e, q⟩)
  | @str z hz =>
    have e2 : (ixN (sgV z).length i).bind (fun j => (sgV z)[j]?) = some y := e
    have e3 : ∃ c, atI z.cps.toList i = some c ∧ y = .str ⟨#[c]⟩ := by
      unfold sgV at e2
      rw [List.length_map] at e2
      show ∃ c, (ixN z.cps.toList.length i).bind (fun j => z.cps.toList[j]?) = some c ∧ _
      cases q : ixN z.cps.toList.length i with
      | none =>
        rw [q] at e2
        cases e2
      | some j =>
        rw [q] at e2
        have e4 : (z.cps.toList.map fun c => V.str ⟨#[c]⟩)[j]? = some y := e2
        rw [List.getElem?_map] at e4
        show ∃ c, z.cps.toList[j]? = some c ∧ _
        cases q2 : z.cps.toList[j]? with
        | none =>
          rw [q2] at e4
          cases e4
        | some c =>
          rw [q2] at e4
          exact ⟨c, rfl, (Option.some.inj e4).symm⟩
    obtain ⟨c, h1, rfl⟩ := e3
    exact .inr (.inr ⟨z, i, c, rfl, rfl, hz, h1, q⟩)
end Kit

namespace K01
open PySem PySem.Spec PyProof.Rows L2 Kit
def topS (i : Nat) : Stmt := PySem.Challenge.pw_wiretongue_k01_names_and_kept_words.main.body.getD i (.Pass ⟨0, 0, 0, 0⟩)
abbrev s_is_name : Stmt := topS 4
abbrev N_is_name : List Str := ["thing", "sign"]
theorem S_is_name : FnScope N_is_name ["thing"] (defScope s_is_name) := ⟨rfl, rfl, rfl, by decide +kernel, rfl, by decide +kernel, by decide +kernel⟩
abbrev s_l_deck : Stmt := topS 6
abbrev N_l_deck : List Str := ["_law_script", "_law_cells", "_law_seed", "_law_cell"]
theorem S_l_deck : FnScope N_l_deck ["_law_script"] (defScope s_l_deck) := ⟨rfl, rfl, rfl, by decide +kernel, rfl, by decide +kernel, by decide +kernel⟩
abbrev s_l_draw : Stmt := topS 7
abbrev N_l_draw : List Str := ["_law_deck_here", "_law_sides", "_law_at", "_law_mixed", "_law_cell"]
theorem S_l_draw : FnScope N_l_draw ["_law_deck_here", "_law_sides"] (defScope s_l_draw) := ⟨rfl, rfl, rfl, by decide +kernel, rfl, by decide +kernel, by decide +kernel⟩
abbrev s_l_pick : Stmt := topS 8
abbrev N_l_pick : List Str := ["_law_deck_here", "_law_some"]
theorem S_l_pick : FnScope N_l_pick ["_law_deck_here", "_law_some"] (defScope s_l_pick) := ⟨rfl, rfl, rfl, by decide +kernel, rfl, by decide +kernel, by decide +kernel⟩
abbrev s_l_kept : Stmt := topS 9
abbrev N_l_kept : List Str := []
theorem S_l_kept : FnScope N_l_kept [] (defScope s_l_kept) := ⟨rfl, rfl, rfl, by decide +kernel, rfl, by decide +kernel, by decide +kernel⟩
abbrev s_l_name : Stmt := topS 10
abbrev N_l_name : List Str := ["_law_deck_here", "_law_letters", "_law_way", "_law_word", "_law_k", "_law_some"]
theorem S_l_name : FnScope N_l_name ["_law_deck_here"] (defScope s_l_name) := ⟨rfl, rfl, rfl, by decide +kernel, rfl, by decide +kernel, by decide +kernel⟩
abbrev s_l_due : Stmt := topS 15
abbrev N_l_due : List Str := ["_law_here", "_law_letters", "_law_sign"]
theorem S_l_due : FnScope N_l_due ["_law_here"] (defScope s_l_due) := ⟨rfl, rfl, rfl, by decide +kernel, rfl, by decide +kernel, by decide +kernel⟩
abbrev s_l_bent : Stmt := topS 16
abbrev N_l_bent : List Str := ["_law_deck_here", "_law_word", "_law_at", "_law_sign", "_law_some"]
theorem S_l_bent : FnScope N_l_bent ["_law_deck_here", "_law_word"] (defScope s_l_bent) := ⟨rfl, rfl, rfl, by decide +kernel, rfl, by decide +kernel, by decide +kernel⟩
abbrev s_law : Stmt := topS 17
abbrev N_law : List Str := ["_law_script", "_law_deck_here", "_law_things", "_law_k", "_law_word", "_law_here"]
theorem S_law : FnScope N_law ["_law_script"] (defScope s_law) := ⟨rfl, rfl, rfl, by decide +kernel, rfl, by decide +kernel, by decide +kernel⟩
structure Bi (mg : Str → Option Value) : Prop where
  isinstance_ : mg "isinstance" = none
  str_ : mg "str" = none
  len_ : mg "len" = none
  all_ : mg "all" = none
  list_ : mg "list" = none
  range_ : mg "range" = none
  int_ : mg "int" = none
  repr_ : mg "repr" = none
/-! ### the deck -/
abbrev big : Int := 170141183460469231731687303715884105727
def deckKv (c : Addr) (sd : Int) (t : Nat) : List (L2.Key × V) := [(.inr "cells", .ref c), (.inr "seed", .int sd), (.inr "at", .int (t : Int))]
structure Deck (H : Hp) (d c : Addr) (t : Nat) : Prop where
  ex : ∃ (cs : List Int) (sd : Int), H d = some (.dK (deckKv c sd t)) ∧ H c = some (.lst (cs.map V.int)) ∧ 0 ≤ sd ∧ sd < big ∧ cs.length ≤ 63 ∧
    ∀ z ∈ cs, Builtin.Int.intBits z ≤ 1048576


theorem put_at (c : Addr) (sd : Int) (t : Nat) (v : V) : putK (deckKv c sd t) (Sum.inr "at") v = [(.inr "cells", .ref c), (.inr "seed", .int sd), (.inr "at", v)] := by
  rfl
theorem get_at (c : Addr) (sd : Int) (t : Nat) : valV (deckKv c sd t) (Sum.inr "at") = some (.int (t : Int)) := rfl
theorem get_seed (c : Addr) (sd : Int) (t : Nat) : valV (deckKv c sd t) (Sum.inr "seed") = some (.int sd) := rfl
theorem get_cells (c : Addr) (sd : Int) (t : Nat) : valV (deckKv c sd t) (Sum.inr "cells") = some (.ref c) := rfl
theorem sl3 (c : Addr) (sd : Int) (t : Nat) : (deckKv c sd t).length < sizeLine := by
  show 3 < sizeLine
  decide

/-- what the draw makes of it is small again -/
theorem bits_lt {x : Int} {n : Nat} (h0 : 0 ≤ x) (h : x < 2 ^ n) : Builtin.Int.intBits x ≤ n := by
  refine PySem.intBits_le_iff.mpr ?_
  have e : ((2 ^ n : Nat) : Int) = (2 : Int) ^ n := by rw [Int.natCast_pow]; rfl
  have h2 : x < ((2 ^ n : Nat) : Int) := by rw [e]; exact h
  omega
theorem bits_add {x y : Int} {n : Nat} (hx : Builtin.Int.intBits x ≤ n) (hy : Builtin.Int.intBits y ≤ n) : Builtin.Int.intBits (x + y) ≤ n + 1 := by
  have h1 := PySem.intBits_le_iff.mp hx
  have h2 := PySem.intBits_le_iff.mp hy
  refine PySem.intBits_le_iff.mpr ?_
  have e : 2 ^ (n + 1) = 2 ^ n + 2 ^ n := by rw [Nat.pow_succ]; omega
  rw [e]
  omega

theorem snoc {α : Type} (cs : List α) : cs = [] ∨ ∃ l x, cs = l ++ [x] := by
  rcases List.eq_nil_or_concat cs with h | ⟨l, x, h⟩
  · exact .inl h
  · exact .inr ⟨l, x, by rw [h, List.concat_eq_append]⟩
theorem pos_big : (0 : Int) < 170141183460469231731687303715884105727 := by decide
theorem dp_ints {K : PySem.W.Frag} {H : Hp} : ∀ ns : List Int, DpAll K H (ns.map V.int) (ns.map PyData.int)
  | [] => .nil
  | n :: ns => .cons (.int n) (dp_ints ns)
def spDraw : Sp := fun vs H Q _ => ∃ (d c : Addr) (n : Int) (t : Nat), vs = [.ref d, .int n] ∧ 1 ≤ n ∧ n < 1000000000 ∧ Deck H d c t ∧ t < 1000000000000 ∧
  ∀ (r : Int) (H' : Hp), 0 ≤ r → r < n → But d c H H' → Deck H' d c (t + 1) → Q (.int r) H'

/-! ### heaps and the deck -/
theorem Deck.ne {H : Hp} {d c : Addr} {t : Nat} (h : Deck H d c t) : d ≠ c := by
  obtain ⟨cs, sd, h1, h2, _⟩ := h.ex
  exact ne_of h1 h2 (by intro z; cases z)
theorem Deck.keep {H H' : Hp} {d c : Addr} {t : Nat} (h : Deck H d c t) (hd : ∀ o, H d = some o → H' d = some o) (hc : ∀ o, H c = some o → H' c = some o) : Deck H' d c t := by
  obtain ⟨cs, sd, h1, h2, h3⟩ := h.ex
  exact ⟨cs, sd, hd _ h1, hc _ h2, h3⟩
theorem Deck.same {H H' : Hp} {d c : Addr} {t : Nat} (h : Deck H d c t) (s : Same H H') : Deck H' d c t := h.keep (fun o e => s _ o e) (fun o e => s _ o e)
theorem Deck.here {H : Hp} {d c : Addr} {t : Nat} (h : Deck H d c t) : H d ≠ none ∧ H c ≠ none := by
  obtain ⟨cs, sd, h1, h2, _⟩ := h.ex
  rw [h1, h2]
  exact ⟨fun z => (by cases z), fun z => (by cases z)⟩
theorem Deck.mut {H : Hp} {d c p : Addr} {o : HO} {t : Nat} (h : Deck H d c t) (n1 : d ≠ p) (n2 : c ≠ p) : Deck (upd H p o) d c t :=
  h.keep (fun o e => by rw [upd_ne n1]; exact e) (fun o e => by rw [upd_ne n2]; exact e)
theorem Deck.new {H : Hp} {d c p : Addr} {o : HO} {t : Nat} (h : Deck H d c t) (n : H p = none) : Deck (upd H p o) d c t := h.same (same_new n)
theorem Deck.free {H : Hp} {d c p : Addr} {t : Nat} (h : Deck H d c t) (n : H p = none) : p ≠ d ∧ p ≠ c :=
  ⟨fun z => h.here.1 (by rw [← z]; exact n), fun z => h.here.2 (by rw [← z]; exact n)⟩

/-! ### promises -/
def spDeck (K : PySem.W.Frag) : Sp := fun vs H Q _ => ∃ (a : Addr) (ns : List Int), vs = [.ref a] ∧ SqL K H a (ns.map V.int) ∧ ns.length ≤ 63 ∧
  (∀ z ∈ ns, Builtin.Int.intBits z ≤ 1048576) ∧ ∀ (d c : Addr) (H' : Hp), Same H H' → H d = none → H c = none → Deck H' d c 0 → Q (.ref d) H'
def spPick (K : PySem.W.Frag) : Sp := fun vs H Q _ => ∃ (d c : Addr) (t : Nat) (v : V) (xs : List V), vs = [.ref d, v] ∧ Sq K H v xs ∧ 1 ≤ xs.length ∧ xs.length < 1000000000 ∧
  v ≠ .ref d ∧ v ≠ .ref c ∧ Deck H d c t ∧ t < 1000000000000 ∧
  ∀ (i : Nat) (x : V) (H' : Hp), xs[i]? = some x → But d c H H' → Deck H' d c (t + 1) → Q x H'
section
variable {P : Program} {w : World} {K : PySem.W.Frag} {mg : Str → Option Value} {base : Heap}
theorem ok_draw {f : Addr} {fd : FuncData} (D : DefAt K mg "_law_draw" ["_law_deck_here", "_law_sides"] s_l_draw f fd) :
    Cal P w K mg base L2.CX0 1 "_law_draw" ["_law_deck_here", "_law_sides"] spDraw := by
  have S := S_l_draw
  refine cal_of D.fn D.mgf D.bs D.kbs S (fun vs H Q E h => ?_) (fun cdv A outer s H vs Q E hq hr h => ?_)
  · obtain ⟨d, c, n, t, rfl, _⟩ := h
    rfl
  · obtain ⟨d, c, n, t, rfl, hn1, hn2, ⟨cs, sd, hd, hc, hs0, hs1, hl, hz⟩, ht, q⟩ := h
    refine ⟨_, (pss_cons (ps_dput (hu_of hr) (pv 0) pe_str (pe_op op_add (pe_dget (hu_of hr) (pv 0) pe_str (fun _ _ => rfl)) pe_int) rfl)
 (pss_cons (ps_set (i := 2) S.nd rfl (.inl rfl) (pe_dget (hu_of hr) (pv 0) pe_str (fun _ _ => rfl)))
 (pss_cons (ps_set (i := 3) S.nd rfl (.inl rfl) (pe_op op_add (pe_dget (hu_of hr) (pv 0) pe_str (fun _ _ => rfl)) (pe_op op_mulB (pe_op op_mulB pe_int (pv 2)) (pv 2))))
 (C8.pss_cut (ps_if (pt_cmpR (op_neNil (room200 hr)) (pe_dget (hu_of hr) (pv 0) pe_str (fun _ _ => rfl)) (pe_lst pa_nil) (nomark _))
  (pss_cons (ps_set (i := 4) S.nd rfl (.inl rfl) (pe_bm0 PySem.F.plainAttrs_list PySem.F.slot_list_pop PySem.F.type_list_pop (mt_pop) (pe_dget (hu_of hr) (pv 0) pe_str (fun _ _ => rfl))))
 (pss_cons (ps_if (pt_cmpR op_ge (pv 4) (pe_op op_pow pe_int pe_int) (nomark _))
  (pss_cons (ps_expr (pe_bm PySem.F.plainAttrs_list PySem.F.slot_list_append PySem.F.type_list_append mt_append (pe_dget (hu_of hr) (pv 0) pe_str (fun _ _ => rfl)) (pa_cons (pe_op op_fdivN (pv 4) (pv 1)) pa_nil)))
 (pss_one (ps_ret (pe_op op_mod (pv 4) (pv 1)))))
  pss_nil)
 (pss_one (ps_set (i := 3) S.nd rfl (.inl rfl) (pe_op op_add (pv 3) (pe_op op_mulB pe_int (pv 4)))))))
  pss_nil)
 (pss_cons (ps_set (i := 3) S.nd rfl (.inl rfl) (pe_op op_mod (pe_op op_mulB (pv 3) (pe_op op_add (pv 3) (pe_op op_mulB pe_int (pv 2)))) pe_int))
 (pss_cons (ps_set (i := 3) S.nd rfl (.inl rfl) (pe_op op_mod (pe_op op_add (pe_op op_mulB (pv 3) (pv 3)) (pe_op op_mulB pe_int (pv 2))) pe_int))
 (pss_one (ps_ret (pe_op op_mod (pe_op op_fdivN (pv 3) pe_int) (pv 1)))))))))), ?_⟩
    have ndc : c ≠ d := ne_of hc hd (by intro z; cases z)
    have g1 : DGet H d (.str "at") (some (.int (t : Int))) := DGet.k (k := Sum.inr "at") hd
    refine ⟨.ref d, rfl, d, _, rfl, g1, t, 1, rfl, rfl, .ref d, rfl, d, _, rfl, DPut.k (k := Sum.inr "at") hd (sl3 c sd t), ?_⟩
    rw [put_at]
    have hd1 : (upd H d (.dK (deckKv c sd (t + 1)))) d = some (.dK (deckKv c sd (t + 1))) := upd_same
    have hc1 : (upd H d (.dK (deckKv c sd (t + 1)))) c = some (.lst (cs.map V.int)) := by
      rw [upd_ne ndc]
      exact hc
    have bt1 : But d c H (upd H d (.dK (deckKv c sd (t + 1)))) := fun b o h1 h2 e => by
      rw [upd_ne h1]
      exact e
    revert hd1 hc1 bt1
    show _ → _ → _ → tSeq _ _ _ _ (upd H d (.dK (deckKv c sd (t + 1))))
    generalize upd H d (.dK (deckKv c sd (t + 1))) = H1
    intro hd1 hc1 bt1
    have g2 : DGet H1 d (.str "at") (some (.int ((t + 1 : Nat) : Int))) := DGet.k (k := Sum.inr "at") hd1
    have g3 : DGet H1 d (.str "seed") (some (.int sd)) := DGet.k (k := Sum.inr "seed") hd1
    have g4 : DGet H1 d (.str "cells") (some (.ref c)) := DGet.k (k := Sum.inr "cells") hd1
    refine ⟨.ref d, rfl, d, _, rfl, g2, ?_⟩
    refine ⟨.ref d, rfl, d, _, rfl, g3, ?_⟩
    refine ⟨.int ((t + 1 : Nat) : Int), rfl, 7919, ((t + 1 : Nat) : Int), rfl, rfl, ?_, .int ((t + 1 : Nat) : Int), rfl, 7919 * ((t + 1 : Nat) : Int), ((t + 1 : Nat) : Int), rfl, rfl, ?_, sd, _, rfl, rfl, ?_⟩
    · exact IntMulOk.of_left (by decide)
    · exact IntMulOk.of_right (intBits_le_64 (by omega) (by omega))
    have T1 : (0 : Int) ≤ ((t + 1 : Nat) : Int) ∧ ((t + 1 : Nat) : Int) < 2 ^ 41 := by omega
    have T2 : (0 : Int) ≤ 7919 * ((t + 1 : Nat) : Int) * ((t + 1 : Nat) : Int) ∧ 7919 * ((t + 1 : Nat) : Int) * ((t + 1 : Nat) : Int) < 2 ^ 100 := by
      generalize ((t + 1 : Nat) : Int) = k at T1
      have h1 : (0 : Int) ≤ 7919 * k := by omega
      refine ⟨Int.mul_nonneg h1 T1.1, ?_⟩
      have h3 : 7919 * k * k ≤ 7919 * k * 2 ^ 41 := Int.mul_le_mul_of_nonneg_left (by omega) h1
      omega
    refine ⟨fun σ' H3 => ∃ (m : Int) (x4 : Option V), σ' = [some (.ref d), some (.int n), some (.int ((t + 1 : Nat) : Int)), some (.int m), x4] ∧ Builtin.Int.intBits m ≤ 1048700 ∧
      But d c H H3 ∧ Deck H3 d c (t + 1), ?_, ?_⟩
    · refine ⟨.ref d, rfl, d, _, rfl, g4, ?_⟩
      refine ⟨Nat.zero_le _, fun p np => ?_⟩
      have npc : c ≠ p := ne_of_none hc1 np
      have hcp : (upd H1 p (.lst [])) c = some (.lst (cs.map V.int)) := by
        rw [upd_ne npc]
        exact hc1
      have npd : d ≠ p := ne_of_none hd1 np
      have hdp : (upd H1 p (.lst [])) d = some (.dK (deckKv c sd (t + 1))) := by
        rw [upd_ne npd]
        exact hd1
      have btp : But d c H (upd H1 p (.lst [])) := fun b o h1 h2 e => by
        have e1 := bt1 b o h1 h2 e
        rw [upd_ne (ne_of_none e1 np)]
        exact e1
      refine ⟨c, p, _, rfl, rfl, .inl (.inl hcp), .inl (.inl upd_same), _, rfl, ?_⟩
      revert hcp hdp btp
      generalize upd H1 p (.lst []) = H2
      intro hc2 hd2 bt2
      have bm : Builtin.Int.intBits (sd + 7919 * ((t + 1 : Nat) : Int) * ((t + 1 : Nat) : Int)) ≤ 200 := by
        have hb : big < 2 ^ 127 := by decide
        exact bits_lt (by omega) (by omega)
      rcases snoc cs with rfl | ⟨l, x, rfl⟩
      · exact iteF ⟨_, _, rfl, Nat.le_trans bm (by decide), bt2, ⟨[], sd, hd2, hc2, hs0, hs1, hl, hz⟩⟩
      · have ne0 : ((l ++ [x]).map V.int).isEmpty = false := by
          cases l <;> rfl
        rw [ne0]
        refine iteT ?_
        have g5 : DGet H2 d (.str "cells") (some (.ref c)) := DGet.k (k := Sum.inr "cells") hd2
        have hx : Builtin.Int.intBits x ≤ 1048576 := hz x (List.mem_append_right _ (List.mem_singleton.mpr rfl))
        have hl' : l.length < 63 := by
          have e := hl
          rw [List.length_append, List.length_singleton] at e
          omega
        have hz' : ∀ z ∈ l, Builtin.Int.intBits z ≤ 1048576 := fun z hm => hz z (List.mem_append_left _ hm)
        have lst1 : ((l ++ [x]).map V.int)[((l ++ [x]).map V.int).length - 1]? = some (.int x) := by
          rw [List.map_append, List.length_append, List.length_map]
          show (l.map V.int ++ [V.int x])[l.length + 1 - 1]? = _
          rw [Nat.add_sub_cancel, List.getElem?_append_right (by rw [List.length_map]; exact Nat.le_refl _), List.length_map, Nat.sub_self]
          rfl
        have drop1 : ((l ++ [x]).map V.int).dropLast = l.map V.int := by
          rw [List.map_append]
          exact List.dropLast_concat
        -- the last cell is taken
        refine ⟨.ref d, rfl, d, _, rfl, g5, .inl ⟨rfl, _, .inl (.inl hc2)⟩, c, _, _, rfl, rfl, hc2, lst1, ?_⟩
        rw [drop1]
        have hd3 : (upd H2 c (.lst (l.map V.int))) d = some (.dK (deckKv c sd (t + 1))) := by
          rw [upd_ne ndc.symm]
          exact hd2
        have hc3 : (upd H2 c (.lst (l.map V.int))) c = some (.lst (l.map V.int)) := upd_same
        have bt3 : But d c H (upd H2 c (.lst (l.map V.int))) := fun b o h1 h2 e => by
          rw [upd_ne h2]
          exact bt2 b o h1 h2 e
        revert hd3 hc3 bt3
        show _ → _ → _ → tSeq _ _ _ _ (upd H2 c (.lst (l.map V.int)))
        generalize upd H2 c (.lst (l.map V.int)) = H3
        intro hd3 hc3 bt3
        refine ⟨.int x, rfl, 10, 18, rfl, rfl, ⟨by decide, by decide, by decide⟩, x, _, rfl, rfl, _, rfl, ite2 (fun _ => ?_) (fun _ => ?_)⟩
        · -- a digit of it
          have g6 : DGet H3 d (.str "cells") (some (.ref c)) := DGet.k (k := Sum.inr "cells") hd3
          refine ⟨.ref d, rfl, d, _, rfl, g6, .inl ⟨rfl, _, .inl (.inl hc3)⟩, .int x, rfl, .int n, rfl, x, n, rfl, rfl, ⟨by omega, by omega⟩, c, _, _, rfl, rfl, hc3, ?_, ?_⟩
          · rw [List.length_map]
            exact Nat.lt_of_lt_of_le hl' (by decide)
          refine ⟨.int x, rfl, .int n, rfl, x, n, rfl, rfl, by omega, ?_⟩
          refine q _ _ (Int.emod_nonneg _ (by omega)) (Int.emod_lt_of_pos _ (by omega)) (fun b o h1 h2 e => ?_) ⟨l ++ [x.fdiv n], sd, ?_, ?_, hs0, hs1, ?_, ?_⟩
          · rw [upd_ne h2]
            exact bt3 b o h1 h2 e
          · rw [upd_ne ndc.symm]
            exact hd3
          · rw [upd_same, List.map_append]
            rfl
          · rw [List.length_append]
            exact hl'
          · intro z hm
            rcases List.mem_append.mp hm with h1 | h1
            · exact hz' z h1
            · rw [List.mem_singleton.mp h1]
              exact PySem.intBits_fdiv_le hx
        · refine ⟨_, rfl, .int x, rfl, 69621, x, rfl, rfl, .of_left (by decide), _, _, rfl, rfl, ?_⟩
          refine ⟨_, _, rfl, ?_, bt3, ⟨l, sd, hd3, hc3, hs0, hs1, by omega, hz'⟩⟩
          have b1 : Builtin.Int.intBits (69621 * x) ≤ 1048650 := Nat.le_trans (PySem.intBits_mul_le (bits_lt (n := 20) (by decide) (by decide)) hx) (by decide)
          exact Nat.le_trans (bits_add (Nat.le_trans bm (by decide)) b1) (by decide)
    · rintro σ' H3 ⟨m, x4, rfl, hm, bt, dk⟩
      have T3 : Builtin.Int.intBits (48271 * ((t + 1 : Nat) : Int)) ≤ 100 := bits_lt (by omega) (by omega)
      have T4 : Builtin.Int.intBits (m + 48271 * ((t + 1 : Nat) : Int)) ≤ 1048701 := bits_add hm (Nat.le_trans T3 (by decide))
      refine ⟨.int m, rfl, .int m, rfl, .int ((t + 1 : Nat) : Int), rfl, 48271, ((t + 1 : Nat) : Int), rfl, rfl, .of_left (by decide), ?_⟩
      refine ⟨m, _, rfl, rfl, m, m + 48271 * ((t + 1 : Nat) : Int), rfl, rfl, .of_le hm T4 (by decide), _, _, rfl, rfl, pos_big, ?_⟩
      have b1 : (0 : Int) ≤ m * (m + 48271 * ((t + 1 : Nat) : Int)) % big := Int.emod_nonneg _ (by decide)
      have b2 : m * (m + 48271 * ((t + 1 : Nat) : Int)) % big < big := Int.emod_lt_of_pos _ (by decide)
      show tSeq _ _ _ [some (.ref d), some (.int n), some (.int ((t + 1 : Nat) : Int)), some (.int (m * (m + 48271 * ((t + 1 : Nat) : Int)) % big)), x4] _
      generalize m * (m + 48271 * ((t + 1 : Nat) : Int)) % big = r at b1 b2
      have b3 : Builtin.Int.intBits r ≤ 127 := bits_lt b1 (Int.lt_of_lt_of_le b2 (by decide))
      refine ⟨.int r, rfl, .int r, rfl, r, r, rfl, rfl, .of_le b3 b3 (by decide), .int ((t + 1 : Nat) : Int), rfl, 104729, ((t + 1 : Nat) : Int), rfl, rfl, .of_left (by decide), _, _, rfl, rfl, _, _, rfl, rfl, pos_big, ?_⟩
      refine ⟨_, rfl, _, 1048576, rfl, rfl, ⟨by decide, by decide⟩, .int n, rfl, _, n, rfl, rfl, by omega, ?_⟩
      exact q _ _ (Int.emod_nonneg _ (by omega)) (Int.emod_lt_of_pos _ (by omega)) bt dk

theorem ok_deck {f : Addr} {fd : FuncData} (D : DefAt K mg "_law_deck" ["_law_script"] s_l_deck f fd) (M : Bi mg) :
    Cal P w K mg base L2.CX0 1 "_law_deck" ["_law_script"] (spDeck K) := by
  have S := S_l_deck
  refine cal_of D.fn D.mgf D.bs D.kbs S (fun vs H Q E h => ?_) (fun cdv A outer s H vs Q E hq hr h => ?_)
  · obtain ⟨a, ns, rfl, _⟩ := h
    rfl
  · obtain ⟨a, ns, rfl, hs, hl, hb, q⟩ := h
    refine ⟨_, (pss_cons (ps_set (i := 1) S.nd rfl (.inl rfl) (pe_callTy call_list_of (by rfl) M.list_ (by decide +kernel) (pa_cons (pe_slice sl_list (pv 0) po_none (po_some pe_int)) pa_nil)))
 (pss_cons (ps_set (i := 2) S.nd rfl (.inl rfl) (pe_op op_add pe_int (pe_callB call_len_seq (by rfl) M.len_ (by decide +kernel) (pa_cons (pv 1) pa_nil))))
 (pss_cons (ps_for PassesOwn.never rfl (pi_list (pv 1)) (pg_name (i := 3) S.nd rfl (.inl rfl))
  (pss_one (ps_set (i := 2) S.nd rfl (.inl rfl) (pe_op op_mod (pe_op op_add (pe_op op_mulB (pv 2) pe_int) (pv 3)) pe_int))))
 (pss_one (ps_ret (pe_disp (pps_cons pe_str (pe_revL (pv 1)) (pps_cons pe_str (pv 2) (pps_cons pe_str pe_int pps_nil))) (by rfl) (by rfl) (fun z => by cases z) (by decide))))))), ?_⟩
    -- list(script[:63])
    refine ⟨.ref a, rfl, 63, rfl, a, _, rfl, hs, fun p np => ?_⟩
    have e63 : cutV (ns.map V.int) none (some 63) = ns.map V.int := by
      unfold cutV
      rw [HT.sIx_none, show HT.sIx (ns.map V.int).length (ns.map V.int).length (some 63) = min 63 (ns.map V.int).length from HT.sIx_nat _ _ 63]
      rw [List.length_map, Nat.min_eq_right hl]
      exact List.take_of_length_le (by rw [List.drop_zero, List.length_map]; exact Nat.le_refl _)
    rw [e63]
    refine ⟨p, _, rfl, .inl (.inl (.inl upd_same)), fun l nl => ?_⟩
    have s1 := same_new (o := .lst (ns.map V.int)) np
    have s2 := s1.trans (same_new (o := .lst (ns.map V.int)) nl)
    have el : (upd (upd H p (.lst (ns.map V.int))) l (.lst (ns.map V.int))) l = some (.lst (ns.map V.int)) := upd_same
    have fl : H l = none := s1.free nl
    revert s2 el
    show _ → _ → tSeq _ _ _ _ (upd (upd H p (.lst (ns.map V.int))) l (.lst (ns.map V.int)))
    generalize upd (upd H p (.lst (ns.map V.int))) l (.lst (ns.map V.int)) = H1
    intro s2 el
    -- the seed
    refine ⟨.ref l, rfl, l, _, rfl, .inl (.inl (.inl el)), 104729, _, rfl, rfl, ?_⟩
    have hlen : (ns.map V.int).length = ns.length := List.length_map _
    rw [hlen]
    refine ⟨.ref l, rfl, l, rfl, ⟨_, .inl (.inl el)⟩, for_list (xs := ns.map V.int)
      (fun i σ H' => H' = H1 ∧ ∃ (sd : Int) (x : Option V), σ = [some (.ref a), some (.ref l), some (.int sd), x] ∧ 0 ≤ sd ∧ sd < big) ?_ ?_ ?_ ?_⟩
    · exact ⟨rfl, 104729 + (ns.length : Int), none, rfl, by omega, by
        show (104729 : Int) + _ < 170141183460469231731687303715884105727
        omega⟩
    · rintro i σ H' _ ⟨rfl, _⟩
      exact .inl (.inl el)
    · rintro i x σ H' hx ⟨rfl, sd, y, rfl, h0, h1⟩
      rw [List.getElem?_map] at hx
      cases hz : ns[i]? with
      | none =>
        rw [hz] at hx
        cases hx
      | some z =>
        rw [hz] at hx
        obtain rfl : V.int z = x := Option.some.inj hx
        have bz := hb z (List.mem_of_getElem? hz)
        refine ⟨_, rfl, sd, 1000003, rfl, rfl, .of_right (by decide), _, rfl, _, _, rfl, rfl, _, _, rfl, rfl, pos_big, rfl, _, _, rfl, ?_, ?_⟩
        · exact Int.emod_nonneg _ (by decide)
        · exact Int.emod_lt_of_pos _ (by decide)
    · rintro σ H' ⟨rfl, sd, y, rfl, h0, h1⟩
      -- the dict
      intro r nr
      have npr : l ≠ r := ne_of_none el nr
      have el2 : (upd H' r (.dK [])) l = some (.lst (ns.map V.int)) := by
        rw [upd_ne npr]
        exact el
      refine ⟨.ref l, rfl, l, _, rfl, .inl (.inl el2), fun c nc => ?_⟩
      have ncr : r ≠ c := fun z => by
        rw [← z, upd_same] at nc
        cases nc
      refine ⟨_, rfl, ?_⟩
      refine ⟨by rw [upd_ne ncr, upd_same], deckKv c sd 0, rfl, by show 3 ≤ 15; decide, ?_⟩
      have fc : H' c = none := by
        rw [upd_ne (fun z => ncr z.symm)] at nc
        exact nc
      have fr : H r = none := s2.free nr
      have fc2 : H c = none := s2.free fc
      refine q r c _ ?_ fr fc2 ⟨ns.reverse, sd, ?_, ?_, h0, h1, ?_, ?_⟩
      · exact same_mut (same_mut (same_mut s2 fr) fc2) fr
      · exact upd_same
      · rw [upd_ne ncr.symm, upd_same, List.map_reverse]
      · rw [List.length_reverse]
        exact hl
      · intro z hz
        exact hb z (List.mem_reverse.mp hz)
theorem ok_pick {f : Addr} {fd : FuncData} (D : DefAt K mg "_law_pick" ["_law_deck_here", "_law_some"] s_l_pick f fd) (M : Bi mg)
    (C_l_draw : Cal P w K mg base L2.CX0 1 "_law_draw" ["_law_deck_here", "_law_sides"] spDraw) :
    Cal P w K mg base L2.CX0 2 "_law_pick" ["_law_deck_here", "_law_some"] (spPick K) := by
  have S := S_l_pick
  refine cal_of D.fn D.mgf D.bs D.kbs S (fun vs H Q E h => ?_) (fun cdv A outer s H vs Q E hq hr h => ?_)
  · obtain ⟨d, c, t, v, xs, rfl, _⟩ := h
    rfl
  · obtain ⟨d, c, t, v, xs, rfl, hs, h1, h2, n1, n2, dk, ht, q⟩ := h
    refine ⟨_, (pss_one (ps_ret (pe_ix ix_seq (pv 1) (pe_c C_l_draw pass0 hq hr (by decide) (by rfl) (pa_cons (pv 0) (pa_cons (pe_callB call_len (by rfl) M.len_ (by decide +kernel) (pa_cons (pv 1) pa_nil)) pa_nil))) (fun _ _ => rfl)))), ?_⟩
    refine ⟨v, rfl, .ref d, rfl, v, rfl, v, _, rfl, hs.lenV, d, c, _, t, rfl, by omega, by omega, dk, ht, fun r H' r0 r1 bt dk' => ?_⟩
    obtain ⟨y, e1, e2⟩ := atI_lt r0 r1 rfl
    exact (bt.sq n1 n2 hs).item e1 (q _ y H' e2 bt dk')

/-! ### names -/
abbrev letters : Str := "abcdefghijklmnopqrstuvwxyz"
abbrev keptT : Str := "clock in out wire box cross use num not and or xor sum same below pick join cut bit one"
def keptL : List Str := Txt.split keptT " "
theorem keptL_eq : keptL = ([("clock" : Str), "in", "out", "wire", "box", "cross", "use", "num", "not", "and", "or", "xor", "sum", "same", "below", "pick", "join", "cut", "bit", "one"] : List Str) := by decide +kernel
theorem keptL_len : keptL.length = 20 := by decide +kernel
theorem keptL_le : ∀ z ∈ keptL, z.length ≤ 5 := by
  rw [keptL_eq]
  decide +kernel
def spKept : Sp := fun vs H Q _ => vs = [] ∧ ∀ p, H p = none → Q (.ref p) (upd H p (.lst (keptL.map V.str)))
def spName : Sp := fun vs H Q _ => ∃ (d c : Addr) (t : Nat), vs = [.ref d] ∧ Deck H d c t ∧ t < 100000000000 ∧
  ∀ (z : Str) (t' : Nat) (H' : Hp), z.length ≤ 7 → t ≤ t' → t' ≤ t + 12 → But d c H H' → Deck H' d c t' → Q (.str z) H'
theorem inV_strs (z : Str) : ∀ ws : List Str, inV (.str z) (ws.map V.str) = decide (z ∈ ws)
  | [] => rfl
  | y :: ws => by
    have ih := inV_strs z ws
    unfold inV at ih ⊢
    rw [List.map_cons, List.any_cons, ih]
    show (y == z || decide (z ∈ ws)) = decide (z ∈ y :: ws)
    by_cases e : y = z
    · subst e
      simp
    · have e' : ¬ z = y := fun h => e h.symm
      simp [e, e']
theorem flat_strs (ws : List Str) : (ws.map V.str).all flatV = true := by
  rw [List.all_map]
  exact List.all_eq_true.mpr fun _ _ => rfl
theorem join_len : ∀ {ys : List Str}, (∀ y ∈ ys, y.length = 1) → (ys.map (·.length)).sum = ys.length
  | [], _ => rfl
  | y :: ys, h => by
    rw [List.map_cons, List.sum_cons, h y List.mem_cons_self, join_len fun z hz => h z (List.mem_cons_of_mem _ hz), List.length_cons]
    omega
theorem ok_kept {f : Addr} {fd : FuncData} (D : DefAt K mg "_law_kept" [] s_l_kept f fd) : Cal P w K mg base L2.CX0 1 "_law_kept" [] spKept := by
  have S := S_l_kept
  refine cal_of D.fn D.mgf D.bs D.kbs S (fun vs H Q E h => ?_) (fun cdv A outer s H vs Q E hq hr h => ?_)
  · obtain ⟨rfl, _⟩ := h
    rfl
  · obtain ⟨rfl, q⟩ := h
    refine ⟨_, (pss_one (ps_ret (pe_split pe_str pe_str))), ?_⟩
    exact ⟨⟨_, rfl⟩, _, _, rfl, rfl, by decide, by decide +kernel, fun p np => q p np⟩
theorem ok_name {f : Addr} {fd : FuncData} (D : DefAt K mg "_law_name" ["_law_deck_here"] s_l_name f fd) (M : Bi mg)
    (C_l_draw : Cal P w K mg base L2.CX0 1 "_law_draw" ["_law_deck_here", "_law_sides"] spDraw)
    (C_l_pick : Cal P w K mg base L2.CX0 2 "_law_pick" ["_law_deck_here", "_law_some"] (spPick K))
    (C_l_kept : Cal P w K mg base L2.CX0 1 "_law_kept" [] spKept) :
    Cal P w K mg base L2.CX0 3 "_law_name" ["_law_deck_here"] spName := by
  have S := S_l_name
  refine cal_of D.fn D.mgf D.bs D.kbs S (fun vs H Q E h => ?_) (fun cdv A outer s H vs Q E hq hr h => ?_)
  · obtain ⟨d, c, t, rfl, _⟩ := h
    rfl
  · obtain ⟨d, c, t, rfl, dk, ht, q⟩ := h
    refine ⟨_, (pss_cons (ps_set (i := 1) S.nd rfl (.inr rfl) pe_str)
 (pss_cons (ps_set (i := 2) S.nd rfl (.inl rfl) (pe_c C_l_draw pass0 hq hr (by decide) (by rfl) (pa_cons (pv 0) (pa_cons pe_int pa_nil))))
 (pss_cons (ps_set (i := 3) S.nd rfl (.inl rfl) (pe_join pe_str (pe_lc (own := [("_law_k", 4)]) (g := gName 4) (tt := tYes) rfl S.nd (pi_range1 (by rfl) M.range_ (pa_cons (pe_ix ix_list (pe_lst (pa_cons pe_int (pa_cons pe_int (pa_cons (pe_op op_add pe_int (pe_c C_l_draw pass0 hq hr (by decide) (by rfl) (pa_cons (pv 0) (pa_cons pe_int pa_nil)))) (pa_cons pe_int pa_nil))))) (pv 2) (fun _ _ => rfl)) pa_nil)) (blkOk_by (own := [("_law_k", 4)]) (N := N_l_name) (sc := defScope s_l_name) (by decide +kernel)) (fun _ _ _ _ _ => pg_name (i := 4) S.nd rfl (.inl rfl)) (fun _ _ _ _ _ => pts_nil) (fun _ _ _ _ _ => (pe_c C_l_pick pass0 hq hr (by decide) (by rfl) (pa_cons (pv 0) (pa_cons (pv 1) pa_nil)))))))
 (C8.pss_cut (ps_if (pt_cmpR op_eq (pv 2) pe_int (nomark _))
  (pss_cons (ps_set (i := 5) S.nd rfl (.inl rfl) (pe_c C_l_pick pass0 hq hr (by decide) (by rfl) (pa_cons (pv 0) (pa_cons (pe_c0 C_l_kept pass0 hq hr (by decide) (by rfl)) pa_nil))))
 (pss_one (ps_set (i := 3) S.nd rfl (.inl rfl) (pe_slice sl_str (pe_ix ix_list (pe_lst (pa_cons (pe_op op_add_str (pv 5) pe_str) (pa_cons (pe_slice sl_str (pv 5) po_none (po_some (pe_un un_neg pe_int))) (pa_cons (pe_op op_add_str pe_str (pv 5)) pa_nil)))) (pe_c C_l_draw pass0 hq hr (by decide) (by rfl) (pa_cons (pv 0) (pa_cons pe_int pa_nil))) (fun _ _ => rfl)) po_none (po_some pe_int)))))
  pss_nil)
 (pss_one (ps_ret (pe_op op_add_str (pv 3) (pe_op op_repS pe_str (pe_callTy call_int1 (by rfl) M.int_ (by decide +kernel) (pa_cons (pe_cmpR op_in_seq (pv 3) (pe_c0 C_l_kept pass0 hq hr (by decide) (by rfl)) rfl) pa_nil)))))))))), ?_⟩
    -- way
    refine ⟨.ref d, rfl, d, c, 4, t, rfl, by decide, by decide, dk, by omega, fun r H1 r0 r1 b1 dk1 => ?_⟩
    -- the length of the word
    refine ⟨⟨_, rfl⟩, ?_⟩
    refine ⟨.ref d, rfl, d, c, 6, t + 1, rfl, by decide, by decide, dk1, by omega, fun r2 H2 r20 r21 b2 dk2 => ?_⟩
    refine ⟨1, r2, rfl, rfl, by show 4 ≤ sizeLine; decide, fun p np => ?_⟩
    have bt2 := (b1.trans b2).same (same_new (o := .lst [.int 1, .int 6, .int (1 + r2), .int 1]) np)
    have dk3 := dk2.new (o := .lst [.int 1, .int 6, .int (1 + r2), .int 1]) np
    have ep : (upd H2 p (.lst [.int 1, .int 6, .int (1 + r2), .int 1])) p = some (.lst [.int 1, .int 6, .int (1 + r2), .int 1]) := upd_same
    obtain ⟨n, en, n1, n6⟩ : ∃ n : Nat, atI [V.int 1, .int 6, .int (1 + r2), .int 1] r = some (.int (n : Int)) ∧ 1 ≤ n ∧ n ≤ 6 := by
      have h : r = 0 ∨ r = 1 ∨ r = 2 ∨ r = 3 := by omega
      rcases h with rfl | rfl | rfl | rfl
      · exact ⟨1, rfl, by omega, by omega⟩
      · exact ⟨6, rfl, by omega, by omega⟩
      · obtain ⟨k, rfl⟩ := Int.eq_ofNat_of_zero_le r20
        refine ⟨1 + k, ?_, by omega, by omega⟩
        show some (V.int (1 + (k : Int))) = some (V.int ((1 + k : Nat) : Int))
        rw [Int.natCast_add]
        rfl
      · exact ⟨1, rfl, by omega, by omega⟩
    refine ⟨.int r, rfl, p, _, r, _, rfl, rfl, .inl (.inl ep), en, (n : Int), rfl, by omega, by omega, ?_⟩
    revert bt2 dk3
    generalize upd H2 p (.lst [.int 1, .int 6, .int (1 + r2), .int 1]) = H3
    intro bt3 dk3
    -- its signs
    intro D nD
    rw [Int.toNat_natCast]
    have fD := dk3.free nD
    refine lc_range (lo := 0) (n := n) (fun i H' => ∃ (t' : Nat) (ys : List Str), But d c H3 H' ∧ Deck H' d c t' ∧ t' = t + 2 + i ∧ H' D = some (.lst (ys.map V.str)) ∧ ys.length = i ∧ ∀ y ∈ ys, y.length = 1) ?_ ?_ ?_
    · exact ⟨t + 2, [], But.of (same_new nD), dk3.new nD, rfl, upd_same, rfl, fun _ h => by simp at h⟩
    · rintro i H' hi ⟨t', ys, bt', dk', rfl, eD, el, e1⟩
      refine ⟨rfl, ?_⟩
      unfold tYes
      refine iteT ?_
      refine ⟨.ref d, rfl, .str letters, rfl, d, c, t + 2 + i, .str letters, sgV letters, rfl, .str (by decide), by decide +kernel, by decide +kernel, (by intro z; cases z), (by intro z; cases z), dk', by omega, fun j x H4 ex bt4 dk4 => ?_⟩
      obtain ⟨k, rfl, _⟩ := sgV_get ex
      have eD4 : H4 D = some (.lst (ys.map V.str)) := bt4 _ _ fD.1 fD.2 eD
      refine ⟨_, eD4, ?_, t + 2 + i + 1, ys ++ [⟨#[k]⟩], (bt'.trans bt4).mut nD, dk4.mut fD.1.symm fD.2.symm, by omega, ?_, ?_, ?_⟩
      · rw [List.length_map, el]
        exact Nat.lt_of_lt_of_le (show i < 6 by omega) (by decide)
      · rw [upd_same, List.map_append]
        rfl
      · rw [List.length_append, el]
        rfl
      · intro y hy
        rcases List.mem_append.mp hy with h | h
        · exact e1 y h
        · rw [List.mem_singleton.mp h]
          rfl
    · rintro H' ⟨t', ys, bt', dk', rfl, eD, el, e1⟩
      have sz : (ys.map (·.length)).sum + ys.length * (Str.ofString "").length ≤ 16777216 := by
        rw [join_len e1, el]
        show n + n * 0 ≤ 16777216
        omega
      have zl : (Txt.join (Str.ofString "") ys).length ≤ 6 := by
        show (Builtin.Str.glued (Str.ofString "") ys).length ≤ 6
        rw [StrLaws.glued_eq_join]
        refine Nat.le_trans (StrLaws.join_length_le (Str.ofString "") ys) ?_
        rw [join_len e1, el]
        show n + n * 0 ≤ 6
        omega
      have bH : But d c H H' := bt3.trans bt'
      refine ⟨_, D, ys, rfl, rfl, .inl (.inl (.inl eD)), sz, ?_⟩
      revert zl
      generalize Txt.join (Str.ofString "") ys = z0
      intro zl
      refine ⟨fun σ' H' => ∃ (z : Str) (t' : Nat) (x4 x5 : Option V), σ' = [some (.ref d), some (.str letters), some (.int r), some (.str z), x4, x5] ∧ z.length ≤ 6 ∧
        t ≤ t' ∧ t' ≤ t + 12 ∧ But d c H H' ∧ Deck H' d c t', ?_, ?_⟩
      · refine ⟨.int r, rfl, rfl, _, rfl, ite2 (fun e => ?_) (fun e => ?_)⟩
        · -- a kept word with a sign more or less
          refine ⟨.ref d, rfl, rfl, fun p np => ?_⟩
          have fp := dk'.free np
          refine ⟨d, c, t + 2 + n, .ref p, keptL.map V.str, rfl, .lst (.inl (.inl upd_same)), ?_, ?_, fun h => fp.1 (V.ref.inj h), fun h => fp.2 (V.ref.inj h), dk'.new np, by omega, fun j x H4 ex bt4 dk4 => ?_⟩
          · rw [List.length_map, keptL_len]
            decide
          · rw [List.length_map, keptL_len]
            decide
          have bH4 : But d c H H4 := (bH.same (same_new np)).trans bt4
          rw [List.getElem?_map] at ex
          obtain ⟨kw, hkw, rfl⟩ : ∃ kw, keptL[j]? = some kw ∧ V.str kw = x := by
            cases hq : keptL[j]? with
            | none =>
              rw [hq] at ex
              cases ex
            | some kw =>
              rw [hq] at ex
              exact ⟨kw, rfl, Option.some.inj ex⟩
          have kl : kw.length ≤ 5 := keptL_le kw (List.mem_of_getElem? hkw)
          have l1 : kw.length + (Str.ofString "x").length ≤ sizeLine := by
            show kw.length + 1 ≤ sizeLine
            exact Nat.le_trans (show kw.length + 1 ≤ 6 by omega) (by decide)
          have l2 : kw.length ≤ sizeLine := Nat.le_trans kl (by decide)
          have l3 : (Str.ofString "a").length + kw.length ≤ sizeLine := by
            show 1 + kw.length ≤ sizeLine
            exact Nat.le_trans (show 1 + kw.length ≤ 6 by omega) (by decide)
          refine ⟨.str kw, rfl, kw, _, rfl, rfl, l1, .str kw, rfl, 1, rfl, -1, rfl, kw, rfl, l2, .str kw, rfl, _, kw, rfl, rfl, l3, by show 3 ≤ sizeLine; decide, fun p2 np2 => ?_⟩
          have fp2 := dk4.free np2
          refine ⟨.ref d, rfl, d, c, 3, t + 2 + n + 1, rfl, by decide, by decide, dk4.new np2, by omega, fun r3 H5 r30 r31 b5 dk5 => ?_⟩
          have eL := b5 p2 _ fp2.1 fp2.2 upd_same
          obtain ⟨y, ey, yl⟩ : ∃ y : Str, atI [V.str (kw ++ Str.ofString "x"), .str (cutS kw none (some (-1))), .str (Str.ofString "a" ++ kw)] r3 = some (.str y) ∧ y.length ≤ 6 := by
            have h : r3 = 0 ∨ r3 = 1 ∨ r3 = 2 := by omega
            rcases h with rfl | rfl | rfl
            · refine ⟨_, rfl, ?_⟩
              rw [strLen_append]
              show kw.length + 1 ≤ 6
              omega
            · exact ⟨_, rfl, Nat.le_trans (cutS_length _ _ _) (by omega)⟩
            · refine ⟨_, rfl, ?_⟩
              rw [strLen_append]
              show 1 + kw.length ≤ 6
              omega
          refine ⟨p2, _, r3, _, rfl, rfl, .inl (.inl eL), ey, 6, rfl, y, rfl, Nat.le_trans yl (by decide), ?_⟩
          exact ⟨_, t + 2 + n + 1 + 1, _, _, rfl, Nat.le_trans (cutS_length _ _ _) yl, by omega, by omega, (bH4.same (same_new np2)).trans b5, dk5⟩
        · exact ⟨z0, t + 2 + n, _, _, rfl, zl, by omega, by omega, bH, dk'⟩
      · rintro σ' H6 ⟨z, t', x4, x5, rfl, zl, t1, t2, b6, dk6⟩
        -- one sign more where it is kept
        refine ⟨.str z, rfl, .str z, rfl, rfl, fun p np => ?_⟩
        refine ⟨p, keptL.map V.str, rfl, .inl (.inl (.inl upd_same)), rfl, flat_strs _, .inr ⟨_, rfl, ?_⟩⟩
        have mk : ∀ k : Int, 0 ≤ k → k ≤ 1 → (Txt.mul (Str.ofString "q") k).length ≤ 1 := fun k _ h1 => len_mul_leN (L := 1) (N := 1) (by decide) h1
        have k01 : ∀ b : Bool, 0 ≤ (if b then (1 : Int) else 0) ∧ (if b then (1 : Int) else 0) ≤ 1 := fun b => by cases b <;> decide
        refine ⟨_, _, rfl, rfl, by decide, (k01 _).1, Int.le_trans (k01 _).2 (by decide), ?_⟩
        have ml := mk _ (k01 (if false = true then !inV (V.str z) (keptL.map V.str) else inV (V.str z) (keptL.map V.str))).1 (k01 _).2
        refine ⟨z, _, rfl, rfl, ?_, ?_⟩
        · exact Nat.le_trans (Nat.add_le_add zl ml) (by decide)
        · refine q _ t' _ ?_ t1 t2 (b6.same (same_new np)) (dk6.new np)
          rw [strLen_append]
          exact Nat.add_le_add zl ml

/-! ### what a name is -/
def isNm (z : Str) : Bool := decide (0 < z.length ∧ z.length < 7) && (!decide (z ∈ keptL) && z.cps.toList.all fun c => decide (c ∈ letters.cps.toList))
def nmV : V → Bool
  | .str z => isNm z
  | _ => false
/-- what may be asked of it -/
inductive Th (H : Hp) : V → Prop
  | non : Th H .non
  | bl (b : Bool) : Th H (.bl b)
  | int (i : Int) : Th H (.int i)
  | str {z : Str} (h : z.length ≤ 1000) : Th H (.str z)
  | lst {a : Addr} {xs : List V} (h : H a = some (.lst xs)) : Th H (.ref a)
  | tup {a : Addr} {xs : List V} (h : H a = some (.tup xs)) : Th H (.ref a)
  | dct {a : Addr} {kvs : List (L2.Key × V)} (h : H a = some (.dK kvs)) : Th H (.ref a)
theorem Th.keep {H H' : Hp} {v : V} (h : Th H v) (k : ∀ a, v = .ref a → ∀ o, H a = some o → H' a = some o) : Th H' v := by
  cases h with
  | non => exact .non
  | bl b => exact .bl b
  | int i => exact .int i
  | str h => exact .str h
  | lst h => exact .lst (k _ rfl _ h)
  | tup h => exact .tup (k _ rfl _ h)
  | dct h => exact .dct (k _ rfl _ h)
/-- whether it is a text -/
def isS : V → Bool
  | .str _ => true
  | _ => false
theorem Th.isi {K : PySem.W.Frag} {H : Hp} {v : V} (h : Th H v) : ∃ t, TyX K H v t ∧ PySem.W.kitOne K t (.type "str") = some (isS v) := by
  cases h with
  | non => exact ⟨_, .base .non, (show PySem.W.kitOne K (.type "NoneType") (.type "str") = some false from kit_ty (by decide +kernel))⟩
  | bl b => exact ⟨_, .base (.bl b), (show PySem.W.kitOne K (.type "bool") (.type "str") = some false from kit_ty (by decide +kernel))⟩
  | int i => exact ⟨_, .base (.int i), (show PySem.W.kitOne K (.type "int") (.type "str") = some false from kit_ty (by decide +kernel))⟩
  | str h => exact ⟨_, .base (.str _), (show PySem.W.kitOne K (.type "str") (.type "str") = some true from kit_ty (by decide +kernel))⟩
  | lst h => exact ⟨_, .base (.lst h), (show PySem.W.kitOne K (.type "list") (.type "str") = some false from kit_ty (by decide +kernel))⟩
  | tup h => exact ⟨_, .base (.tup h), (show PySem.W.kitOne K (.type "tuple") (.type "str") = some false from kit_ty (by decide +kernel))⟩
  | dct h => exact ⟨_, .base (.dK h), (show PySem.W.kitOne K (.type "dict") (.type "str") = some false from kit_ty (by decide +kernel))⟩
theorem nmV_not {v : V} (h : isS v = false) : nmV v = false := by
  cases v <;> first | rfl | cases h
def spIs : Sp := fun vs H Q _ => ∃ v, vs = [v] ∧ Th H v ∧ ∀ H', Same H H' → Q (.bl (nmV v)) H'
/-- the top's own names -/
structure Tp (K : PySem.W.Frag) (mg : Str → Option Value) : Prop where
  c_LETTERS : ∃ u, mg "LETTERS" = some u ∧ RelV (.str letters) u
  c_LONGEST_NAME : ∃ u, mg "LONGEST_NAME" = some u ∧ RelV (.int 6) u
structure Kw (K : PySem.W.Frag) (mg : Str → Option Value) (kw : Addr) : Prop where
  c_KEPT_WORDS : ∃ u, mg "KEPT_WORDS" = some u ∧ RelV (.ref kw) u
  sq : ∀ H, SqT K H kw (keptL.map V.str)
theorem ok_is_name {f : Addr} {fd : FuncData} (D : DefAt K mg "is_name" ["thing"] s_is_name f fd) (M : Bi mg) (T : Tp K mg) {kw : Addr} (W : Kw K mg kw) :
    Cal P w K mg base L2.CX0 1 "is_name" ["thing"] spIs := by
  have S := S_is_name
  refine cal_of D.fn D.mgf D.bs D.kbs S (fun vs H Q E h => ?_) (fun cdv A outer s H vs Q E hq hr h => ?_)
  · obtain ⟨v, rfl, _⟩ := h
    rfl
  · obtain ⟨v, rfl, th, q⟩ := h
    refine ⟨_, (pss_cons (ps_if (PW.pt (pw_or (pt_not (pt_val (pe_callB call_isi (by rfl) M.isinstance_ (by decide +kernel) (pa_cons (pv 0) (pa_cons (pe_bltn (v := .ty "str") (u := .type "str") (by rfl) M.str_ (by decide +kernel) rfl) pa_nil))))) (pw_or1 (pt_not (pt_chain op_le op_le pe_int (pe_callB call_len_str (by rfl) M.len_ (by decide +kernel) (pa_cons (pv 0) pa_nil)) (C8.pe_gc (by rfl) T.c_LONGEST_NAME))))))
  (pss_one (ps_ret pe_bl))
  pss_nil)
 (pss_one (ps_ret (pe_and (pe_cmpR op_notIn_seq (pv 0) (C8.pe_gc (by rfl) W.c_KEPT_WORDS) rfl) (pe_one (pe_callB (cr_all rfl) (by rfl) M.all_ (by decide +kernel) (pa_cons (pe_lc (own := [("sign", 1)]) (g := gName 1) (tt := tYes) rfl S.nd (pi_str (pv 0)) (blkOk_by (own := [("sign", 1)]) (N := N_is_name) (sc := defScope s_is_name) (by decide +kernel)) (fun _ _ _ _ _ => pg_name (i := 1) S.nd rfl (.inl rfl)) (fun _ _ _ _ _ => pts_nil) (fun _ _ _ _ _ => (pe_cmpR op_in_sign (pv 1) (C8.pe_gc (by rfl) T.c_LETTERS) rfl))) pa_nil))))))), ?_⟩
    obtain ⟨ty, h1, h2⟩ := th.isi (K := K)
    refine ⟨v, rfl, v, _, ty, _, _, rfl, .ty "str", h1, h2, ?_⟩
    cases hs : isS v with
    | false =>
      refine ⟨false, rfl, iteT (iteT ?_)⟩
      have q' := q H (Same.refl H)
      rw [nmV_not hs] at q'
      exact q'
    | true =>
      refine ⟨true, rfl, iteF ?_⟩
      cases th with
      | @str z hz =>
        have hz2 : z.length ≤ sizeLine := Nat.le_trans hz (by decide)
        refine ⟨.str z, rfl, z, rfl, hz2, 1, z.length, rfl, rfl, decide ((1 : Int) ≤ z.length), rfl, ?_⟩
        by_cases hl : 0 < z.length ∧ z.length < 7
        · have d1 : decide ((1 : Int) ≤ z.length) = true := decide_eq_true (by omega)
          have d2 : decide ((z.length : Int) ≤ 6) = true := decide_eq_true (by omega)
          rw [d1]
          refine iteT ⟨z.length, 6, rfl, rfl, decide ((z.length : Int) ≤ 6), rfl, ?_⟩
          rw [d2]
          refine iteF ?_
          -- no kept word
          refine ⟨.str z, rfl, kw, keptL.map V.str, rfl, .inr (W.sq H), rfl, flat_strs _, _, rfl, ?_⟩
          rw [if_pos rfl, inV_strs]
          by_cases hk : z ∈ keptL
          · rw [decide_eq_true hk]
            refine iteF ?_
            have q' := q H (Same.refl H)
            have e : nmV (.str z) = false := by
              show (decide _ && (!decide (z ∈ keptL) && _)) = false
              rw [decide_eq_true hk, Bool.not_true, Bool.false_and, Bool.and_false]
            rw [e] at q'
            exact q'
          · rw [decide_eq_false hk]
            refine iteT ?_
            refine ⟨.str z, rfl, z, rfl, fun D nD => ?_⟩
            refine lc_str (x := z) (fun i H' => Same H H' ∧ H' D = some (.lst (((z.cps.toList.take i).map fun c => decide (c ∈ letters.cps.toList)).map V.bl))) ?_ ?_ ?_
            · exact ⟨same_new nD, upd_same⟩
            · rintro i c H' hc ⟨sm, eD⟩
              refine ⟨rfl, ?_⟩
              unfold tYes
              refine iteT ?_
              refine ⟨.str ⟨#[c]⟩, rfl, c, letters, rfl, rfl, _, eD, ?_, same_mut sm nD, ?_⟩
              · rw [List.length_map, List.length_map, List.length_take]
                exact Nat.lt_of_le_of_lt (Nat.min_le_right _ _) (by
                  rw [Array.length_toList]
                  exact Nat.lt_of_le_of_lt hz (by decide))
              · rw [upd_same, List.take_add_one, hc, List.map_append, List.map_append]
                rfl
            · rintro H' ⟨sm, eD⟩
              refine ⟨D, _, rfl, .inl (.inl eD), ?_⟩
              have q' := q H' sm
              have e : nmV (.str z) = (((z.cps.toList.take z.cps.size).map fun c => decide (c ∈ letters.cps.toList))).all id := by
                show (decide (0 < z.length ∧ z.length < 7) && (!decide (z ∈ keptL) && _)) = _
                rw [decide_eq_false hk, Bool.not_false, Bool.true_and, decide_eq_true hl, Bool.true_and, List.all_map, List.take_of_length_le (by rw [Array.length_toList]; exact Nat.le_refl _)]
                rfl
              rw [e] at q'
              exact q'
        · have e : nmV (.str z) = false := by
            show (decide (0 < z.length ∧ z.length < 7) && _) = false
            rw [decide_eq_false hl, Bool.false_and]
          have q' := q H (Same.refl H)
          rw [e] at q'
          by_cases h0 : (1 : Int) ≤ z.length
          · rw [decide_eq_true h0]
            refine iteT ⟨z.length, 6, rfl, rfl, decide ((z.length : Int) ≤ 6), rfl, ?_⟩
            rw [decide_eq_false (show ¬ (z.length : Int) ≤ 6 by omega)]
            exact iteT q'
          · rw [decide_eq_false h0]
            exact iteF ⟨false, rfl, iteT q'⟩
      | _ => cases hs

end
end K01

namespace K01
open PySem PySem.Spec PyProof.Rows L2 Kit
section
variable {P : Program} {w : World} {K : PySem.W.Frag} {mg : Str → Option Value} {base : Heap}
/-! ### the law's own look -/
def odd1 (c : Nat) : Bool := !decide (c ∈ letters.cps.toList)
theorem odd_none (cs : List Nat) : (((cs.filter odd1).map fun c => (⟨#[c]⟩ : Str)).map V.str).isEmpty = cs.all fun c => decide (c ∈ letters.cps.toList) := by
  induction cs with
  | nil => rfl
  | cons c cs ih =>
    rw [List.all_cons, List.filter_cons]
    by_cases h : c ∈ letters.cps.toList
    · have e : odd1 c = false := by
        unfold odd1
        rw [decide_eq_true h]
        rfl
      rw [if_neg (by rw [e]; exact Bool.false_ne_true), decide_eq_true h, Bool.true_and]
      exact ih
    · have e : odd1 c = true := by
        unfold odd1
        rw [decide_eq_false h]
        rfl
      rw [if_pos e, decide_eq_false h, Bool.false_and]
      rfl
theorem ok_due {f : Addr} {fd : FuncData} (D : DefAt K mg "_law_due" ["_law_here"] s_l_due f fd) (M : Bi mg) (C_l_kept : Cal P w K mg base L2.CX0 1 "_law_kept" [] spKept) :
    Cal P w K mg base L2.CX0 2 "_law_due" ["_law_here"] spIs := by
  have S := S_l_due
  refine cal_of D.fn D.mgf D.bs D.kbs S (fun vs H Q E h => ?_) (fun cdv A outer s H vs Q E hq hr h => ?_)
  · obtain ⟨v, rfl, _⟩ := h
    rfl
  · obtain ⟨v, rfl, th, q⟩ := h
    refine ⟨_, (pss_cons (ps_set (i := 1) S.nd rfl (.inr rfl) pe_str)
 (pss_cons (ps_if (PW.pt (pw_or (pt_not (pt_val (pe_callB call_isi (by rfl) M.isinstance_ (by decide +kernel) (pa_cons (pv 0) (pa_cons (pe_bltn (v := .ty "str") (u := .type "str") (by rfl) M.str_ (by decide +kernel) rfl) pa_nil))))) (pw_or (pt_not (pt_chain op_lt op_lt pe_int (pe_callB call_len_str (by rfl) M.len_ (by decide +kernel) (pa_cons (pv 0) pa_nil)) pe_int)) (pw_or1 (pt_cmpR op_in_seq (pv 0) (pe_c0 C_l_kept pass0 hq hr (by decide) (by rfl)) rfl)))))
  (pss_one (ps_ret pe_bl))
  pss_nil)
 (pss_one (ps_ret (pe_cmpR (op_eqNil (room200 hr)) (pe_lc (own := [("_law_sign", 2)]) (g := gName 2) rfl S.nd (pi_str (pv 0)) (blkOk_by (own := [("_law_sign", 2)]) (N := N_l_due) (sc := defScope s_l_due) (by decide +kernel)) (fun _ _ _ _ _ => pg_name (i := 2) S.nd rfl (.inl rfl)) (fun _ _ _ _ _ => (pts_one (pt_cmpR op_notIn_sign (pv 2) (pv 1) rfl))) (fun _ _ _ _ _ => (pv 2))) (pe_lst pa_nil) (nomark _)))))), ?_⟩
    obtain ⟨ty, h1, h2⟩ := th.isi (K := K)
    refine ⟨v, rfl, v, _, ty, _, _, rfl, .ty "str", h1, h2, ?_⟩
    cases hs : isS v with
    | false =>
      refine ⟨false, rfl, iteT (iteT ?_)⟩
      have q' := q H (Same.refl H)
      rw [nmV_not hs] at q'
      exact q'
    | true =>
      refine ⟨true, rfl, iteF ?_⟩
      cases th with
      | @str z hz =>
        have hz2 : z.length ≤ sizeLine := Nat.le_trans hz (by decide)
        refine ⟨.str z, rfl, z, rfl, hz2, 0, z.length, rfl, rfl, decide ((0 : Int) < z.length), rfl, ?_⟩
        by_cases hl : 0 < z.length ∧ z.length < 7
        · have d1 : decide ((0 : Int) < z.length) = true := decide_eq_true (by omega)
          have d2 : decide ((z.length : Int) < 7) = true := decide_eq_true (by omega)
          rw [d1]
          refine iteT ⟨z.length, 7, rfl, rfl, decide ((z.length : Int) < 7), rfl, ?_⟩
          rw [d2]
          refine iteF ?_
          refine ⟨.str z, rfl, rfl, fun p np => ?_⟩
          refine ⟨p, keptL.map V.str, rfl, .inl (.inl (.inl upd_same)), rfl, flat_strs _, _, rfl, ?_⟩
          rw [if_neg Bool.false_ne_true, inV_strs]
          by_cases hk : z ∈ keptL
          · rw [decide_eq_true hk]
            refine iteT ?_
            have q' := q _ (same_new (o := .lst (keptL.map V.str)) np)
            have e : nmV (.str z) = false := by
              show (decide _ && (!decide (z ∈ keptL) && _)) = false
              rw [decide_eq_true hk, Bool.not_true, Bool.false_and, Bool.and_false]
            rw [e] at q'
            exact q'
          · rw [decide_eq_false hk]
            refine iteF ?_
            have s0 := same_new (o := .lst (keptL.map V.str)) np
            revert s0
            show _ → tNext _ _ (upd H p (.lst (keptL.map V.str)))
            generalize upd H p (.lst (keptL.map V.str)) = H0
            intro s0
            refine ⟨.str z, rfl, z, rfl, fun D nD => ?_⟩
            refine lc_str (x := z) (fun i H' => Same H0 H' ∧ H' D = some (.lst ((((z.cps.toList.take i).filter odd1).map fun c => (⟨#[c]⟩ : Str)).map V.str))) ?_ ?_ ?_
            · exact ⟨same_new nD, upd_same⟩
            · rintro i c H' hc ⟨sm, eD⟩
              refine ⟨rfl, .str ⟨#[c]⟩, rfl, .str letters, rfl, c, letters, rfl, rfl, _, rfl, ?_⟩
              have tk : (z.cps.toList.take (i + 1)).filter odd1 = (z.cps.toList.take i).filter odd1 ++ (if odd1 c = true then [c] else []) := by
                rw [List.take_add_one, hc, List.filter_append]
                show _ ++ List.filter odd1 [c] = _
                rw [List.filter_cons, List.filter_nil]
              by_cases ho : odd1 c = true
              · have ho' : (!decide (c ∈ letters.cps.toList)) = true := ho
                rw [ho']
                refine iteT ?_
                refine ⟨.str ⟨#[c]⟩, rfl, _, eD, ?_, same_mut sm nD, ?_⟩
                · rw [List.length_map, List.length_map]
                  refine Nat.lt_of_le_of_lt (List.length_filter_le _ _) ?_
                  rw [List.length_take]
                  exact Nat.lt_of_le_of_lt (Nat.min_le_right _ _) (by
                    rw [Array.length_toList]
                    exact Nat.lt_of_le_of_lt hz (by decide))
                · rw [upd_same, tk, if_pos ho, List.map_append, List.map_append]
                  rfl
              · have ho' : (!decide (c ∈ letters.cps.toList)) = false := by
                  cases h : (!decide (c ∈ letters.cps.toList)) with
                  | false => rfl
                  | true => exact absurd h ho
                rw [ho']
                refine iteF ⟨sm, ?_⟩
                rw [tk, if_neg ho, List.append_nil]
                exact eD
            · rintro H' ⟨sm, eD⟩
              refine ⟨Nat.zero_le _, fun p2 np2 => ?_⟩
              have eD2 := same_new (o := .lst []) np2 D _ eD
              refine ⟨D, p2, _, rfl, rfl, .inl (.inl eD2), .inl (.inl upd_same), ?_⟩
              rw [odd_none]
              have q' := q _ ((s0.trans sm).trans (same_new (o := .lst []) np2))
              have e : nmV (.str z) = (z.cps.toList.take z.cps.size).all fun c => decide (c ∈ letters.cps.toList) := by
                show (decide (0 < z.length ∧ z.length < 7) && (!decide (z ∈ keptL) && _)) = _
                rw [decide_eq_false hk, Bool.not_false, Bool.true_and, decide_eq_true hl, Bool.true_and, List.take_of_length_le (by rw [Array.length_toList]; exact Nat.le_refl _)]
              rw [e] at q'
              exact q'
        · have e : nmV (.str z) = false := by
            show (decide (0 < z.length ∧ z.length < 7) && _) = false
            rw [decide_eq_false hl, Bool.false_and]
          have q' := q H (Same.refl H)
          rw [e] at q'
          by_cases h0 : (0 : Int) < z.length
          · rw [decide_eq_true h0]
            refine iteT ⟨z.length, 7, rfl, rfl, decide ((z.length : Int) < 7), rfl, ?_⟩
            rw [decide_eq_false (show ¬ (z.length : Int) < 7 by omega)]
            exact iteT (iteT q')
          · rw [decide_eq_false h0]
            exact iteF ⟨false, rfl, iteT (iteT q')⟩
      | _ => cases hs

end
end K01

namespace K01
open PySem PySem.Spec PyProof.Rows L2 Kit
section
variable {P : Program} {w : World} {K : PySem.W.Frag} {mg : Str → Option Value} {base : Heap}
/-! ### a sign more, less, another one -/
def spBent : Sp := fun vs H Q _ => ∃ (d c : Addr) (t : Nat) (y : Str), vs = [.ref d, .str y] ∧ y.length ≤ 10 ∧ Deck H d c t ∧ t < 100000000000 ∧
  ∀ (z : Str) (H' : Hp), z.length ≤ 100 → But d c H H' → Deck H' d c (t + 3) → Q (.str z) H'
theorem ok_bent {f : Addr} {fd : FuncData} (D : DefAt K mg "_law_bent" ["_law_deck_here", "_law_word"] s_l_bent f fd) (M : Bi mg)
    (C_l_draw : Cal P w K mg base L2.CX0 1 "_law_draw" ["_law_deck_here", "_law_sides"] spDraw) :
    Cal P w K mg base L2.CX0 2 "_law_bent" ["_law_deck_here", "_law_word"] spBent := by
  have S := S_l_bent
  refine cal_of D.fn D.mgf D.bs D.kbs S (fun vs H Q E h => ?_) (fun cdv A outer s H vs Q E hq hr h => ?_)
  · obtain ⟨d, c, t, y, rfl, _⟩ := h
    rfl
  · obtain ⟨d, c, t, y, rfl, hy, dk, ht, q⟩ := h
    refine ⟨_, (pss_cons (ps_par (i := 2) (j := 3) rfl S.nd rfl rfl (by decide) rfl rfl (pa_cons (pe_c C_l_draw pass0 hq hr (by decide) (by rfl) (pa_cons (pv 0) (pa_cons (pe_op op_add (pe_callB call_len_str (by rfl) M.len_ (by decide +kernel) (pa_cons (pv 1) pa_nil)) pe_int) pa_nil))) (pa_cons (pe_ix ix_str pe_str (pe_c C_l_draw pass0 hq hr (by decide) (by rfl) (pa_cons (pv 0) (pa_cons pe_int pa_nil))) (fun _ _ => rfl)) pa_nil)) (by rfl))
 (pss_cons (ps_set (i := 4) S.nd rfl (.inl rfl) (pe_lst (pa_cons (pe_op op_add_str (pe_op op_add_str (pe_slice sl_str (pv 1) po_none (po_some (pv 2))) (pv 3)) (pe_slice sl_str (pv 1) (po_some (pv 2)) po_none)) (pa_cons (pe_op op_add_str (pe_slice sl_str (pv 1) po_none (po_some (pv 2))) (pe_slice sl_str (pv 1) (po_some (pe_op op_add (pv 2) pe_int)) po_none)) (pa_cons (pe_op op_add_str (pe_op op_add_str (pe_slice sl_str (pv 1) po_none (po_some (pv 2))) (pv 3)) (pe_slice sl_str (pv 1) (po_some (pe_op op_add (pv 2) pe_int)) po_none)) (pa_cons (pe_revS (pv 1)) pa_nil))))))
 (pss_one (ps_ret (pe_ix ix_list (pe_op op_cat (pv 4) (pe_lst (pa_cons (pe_upper (pv 1)) (pa_cons (pe_op op_add_str (pv 1) (pv 1)) pa_nil)))) (pe_c C_l_draw pass0 hq hr (by decide) (by rfl) (pa_cons (pv 0) (pa_cons pe_int pa_nil))) (fun _ _ => rfl)))))), ?_⟩
    have hy2 : y.length ≤ sizeLine := Nat.le_trans hy (by decide)
    -- a place and a sign
    refine ⟨.ref d, rfl, .str y, rfl, y, rfl, hy2, y.length, 1, rfl, rfl, d, c, _, t, rfl, by omega, by omega, dk, by omega, fun a H1 a0 a1 b1 dk1 => ?_⟩
    refine ⟨.ref d, rfl, d, c, 13, t + 1, rfl, by decide, by decide, dk1, by omega, fun r H2 r0 r1 b2 dk2 => ?_⟩
    obtain ⟨sg, es, _⟩ := atI_lt (xs := (Str.ofString "aqz09 .\n-AZ_{").cps.toList) r0 r1 (by decide +kernel)
    refine ⟨_, r, sg, rfl, rfl, by decide, es, _, _, rfl, ?_⟩
    have bH2 := b1.trans b2
    have l1 : ∀ lo hi, (cutS y lo hi).length ≤ 10 := fun lo hi => Nat.le_trans (cutS_length _ _ _) hy
    have lsg : (⟨#[sg]⟩ : Str).length = 1 := rfl
    have sz : ∀ {n : Nat}, n ≤ 100 → n ≤ sizeLine := fun h => Nat.le_trans h (by decide)
    have ap2 : ∀ u v : Str, (u ++ v).length = u.length + v.length := fun u v => strLen_append u v
    -- four of them
    refine ⟨.str y, rfl, .int a, rfl, a, rfl, y, rfl, hy2, .str ⟨#[sg]⟩, rfl, _, _, rfl, rfl, ?_, .str y, rfl, .int a, rfl, a, rfl, y, rfl, hy2, _, _, rfl, rfl, ?_, ?_⟩
    · have h := l1 none (some a)
      exact sz (by rw [lsg]; omega)
    · have h := l1 none (some a)
      have h2 := l1 (some a) none
      exact sz (by rw [ap2, lsg]; omega)
    refine ⟨.str y, rfl, .int a, rfl, a, rfl, y, rfl, hy2, .str y, rfl, .int a, rfl, a, 1, rfl, rfl, a + 1, rfl, y, rfl, hy2, _, _, rfl, rfl, ?_, ?_⟩
    · have h := l1 none (some a)
      have h2 := l1 (some (a + 1)) none
      exact sz (by omega)
    refine ⟨.str y, rfl, .int a, rfl, a, rfl, y, rfl, hy2, .str ⟨#[sg]⟩, rfl, _, _, rfl, rfl, ?_, .str y, rfl, .int a, rfl, a, 1, rfl, rfl, a + 1, rfl, y, rfl, hy2, _, _, rfl, rfl, ?_, ?_⟩
    · have h := l1 none (some a)
      exact sz (by rw [lsg]; omega)
    · have h := l1 none (some a)
      have h2 := l1 (some (a + 1)) none
      exact sz (by rw [ap2, lsg]; omega)
    refine ⟨.str y, rfl, y, rfl, hy2, fun y4 l4 => ⟨by show 4 ≤ sizeLine; decide, fun p np => ?_⟩⟩
    have e1 : (cutS y none (some a) ++ ⟨#[sg]⟩ ++ cutS y (some a) none : Str).length ≤ 100 := by
      have h := l1 none (some a)
      have h2 := l1 (some a) none
      rw [ap2, ap2, lsg]
      omega
    have e2 : (cutS y none (some a) ++ cutS y (some (a + 1)) none : Str).length ≤ 100 := by
      have h := l1 none (some a)
      have h2 := l1 (some (a + 1)) none
      rw [ap2]
      omega
    have e3 : (cutS y none (some a) ++ ⟨#[sg]⟩ ++ cutS y (some (a + 1)) none : Str).length ≤ 100 := by
      have h := l1 none (some a)
      have h2 := l1 (some (a + 1)) none
      rw [ap2, ap2, lsg]
      omega
    have e4 : y4.length ≤ 100 := by omega
    revert e1 e2 e3
    generalize (cutS y none (some a) ++ ⟨#[sg]⟩ ++ cutS y (some a) none : Str) = z1
    generalize (cutS y none (some a) ++ cutS y (some (a + 1)) none : Str) = z2
    generalize (cutS y none (some a) ++ ⟨#[sg]⟩ ++ cutS y (some (a + 1)) none : Str) = z3
    intro e1 e2 e3
    have fp := dk2.free np
    have bH3 := bH2.same (same_new (o := .lst [.str z1, .str z2, .str z3, .str y4]) np)
    have dk3 := dk2.new (o := .lst [.str z1, .str z2, .str z3, .str y4]) np
    have hp3 : (upd H2 p (.lst [.str z1, .str z2, .str z3, .str y4])) p = some (.lst [.str z1, .str z2, .str z3, .str y4]) := upd_same
    revert bH3 dk3 hp3
    generalize upd H2 p (.lst [.str z1, .str z2, .str z3, .str y4]) = H3
    intro bH3 dk3 hp3
    -- two more
    have eu : (Txt.upper y).length ≤ 100 := by
      have h := len_upper y
      omega
    have ew : (y ++ y).length ≤ 100 := by
      rw [ap2]
      omega
    refine ⟨.ref p, rfl, .str y, rfl, ⟨_, rfl⟩, y, rfl, rfl, Nat.le_trans hy (by decide), .str y, rfl, .str y, rfl, y, y, rfl, rfl, sz (by omega), by show 2 ≤ sizeLine; decide, fun p2 np2 => ?_⟩
    have n12 : p ≠ p2 := ne_of_none hp3 np2
    have hp4 := same_new (o := .lst [.str (Txt.upper y), .str (y ++ y)]) np2 p _ hp3
    refine ⟨p, p2, _, _, rfl, rfl, hp4, upd_same, by show 4 + 2 ≤ sizeLine; decide, fun p3 np3 => ?_⟩
    have s4 := (same_new (o := .lst [.str (Txt.upper y), .str (y ++ y)]) np2).trans (same_new (o := .lst ([.str z1, .str z2, .str z3, .str y4] ++ [.str (Txt.upper y), .str (y ++ y)])) np3)
    have dk4 := dk3.same s4
    have f3 := (dk3.new (o := .lst [.str (Txt.upper y), .str (y ++ y)]) np2).free np3
    refine ⟨.ref d, rfl, d, c, 6, t + 2, rfl, by decide, by decide, dk4, by omega, fun r2 H5 r20 r21 b5 dk5 => ?_⟩
    have e5 := b5 p3 _ f3.1 f3.2 upd_same
    obtain ⟨x, ex, ex2⟩ := atI_lt (xs := [V.str z1, .str z2, .str z3, .str y4, .str (Txt.upper y), .str (y ++ y)]) r20 r21 rfl
    have hx : ∃ z : Str, x = .str z ∧ z.length ≤ 100 := by
      have hm := List.mem_of_getElem? ex2
      simp only [List.mem_cons, List.not_mem_nil, or_false] at hm
      rcases hm with rfl | rfl | rfl | rfl | rfl | rfl
      · exact ⟨_, rfl, e1⟩
      · exact ⟨_, rfl, e2⟩
      · exact ⟨_, rfl, e3⟩
      · exact ⟨_, rfl, e4⟩
      · exact ⟨_, rfl, eu⟩
      · exact ⟨_, rfl, ew⟩
    obtain ⟨z, rfl, hz⟩ := hx
    exact ⟨p3, _, r2, _, rfl, rfl, .inl (.inl e5), ex, q z H5 hz ((bH3.same s4).trans b5) dk5⟩

end
end K01

namespace K01
open PySem PySem.Spec PyProof.Rows L2 Kit
section
variable {P : Program} {w : World} {K : PySem.W.Frag} {mg : Str → Option Value} {base : Heap}
/-! ### the law -/
def spLaw (K : PySem.W.Frag) : Sp := fun vs H Q _ => ∃ (a : Addr) (ns : List Int), vs = [.ref a] ∧ SqL K H a (ns.map V.int) ∧ ns.length ≤ 63 ∧
  (∀ z ∈ ns, Builtin.Int.intBits z ≤ 1048576) ∧ ∀ H', Q (.bl true) H'
/-- a thing, and none of the deck's -/
def Ok (d c : Addr) (H : Hp) (v : V) : Prop := Th H v ∧ v ≠ .ref d ∧ v ≠ .ref c
theorem Ok.but {d c : Addr} {H H' : Hp} {v : V} (h : Ok d c H v) (b : But d c H H') : Ok d c H' v :=
  ⟨h.1.keep fun a e o ho => b a o (fun z => h.2.1 (by rw [e, z])) (fun z => h.2.2 (by rw [e, z])) ho, h.2⟩
theorem Ok.same {d c : Addr} {H H' : Hp} {v : V} (h : Ok d c H v) (b : Same H H') : Ok d c H' v := h.but (But.of b)
theorem Ok.flat {d c : Addr} {H : Hp} {v : V} (h : Th H v) (h1 : ∀ a, v ≠ .ref a) : Ok d c H v := ⟨h, h1 d, h1 c⟩
theorem Ok.str {d c : Addr} {H : Hp} {z : Str} (h : z.length ≤ 1000) : Ok d c H (.str z) := ⟨.str h, fun z => (by cases z), fun z => (by cases z)⟩
theorem two_repr (b : Bool) : PyData.showable (.list [.bool b, .bool b]) = true ∧ PyData.hasDict (.list [.bool b, .bool b]) = false ∧
    PyData.depth (.list [.bool b, .bool b]) ≤ 150 ∧ (PyData.shown (.list [.bool b, .bool b])).length ≤ sizeLine := by
  cases b <;> decide +kernel
theorem dp_two {K : PySem.W.Frag} {H : Hp} {a : Addr} {b : Bool} (h : H a = some (.lst [.bl b, .bl b])) : Dp K H (.ref a) (.list [.bool b, .bool b]) :=
  .lst (.inl (.inl h)) (.cons (.bl b) (.cons (.bl b) .nil))
theorem ok_law {f : Addr} {fd : FuncData} (D : DefAt K mg "law" ["_law_script"] s_law f fd) (M : Bi mg)
    (C_is_name : Cal P w K mg base L2.CX0 1 "is_name" ["thing"] spIs)
    (C_l_deck : Cal P w K mg base L2.CX0 1 "_law_deck" ["_law_script"] (spDeck K))
    (C_l_draw : Cal P w K mg base L2.CX0 1 "_law_draw" ["_law_deck_here", "_law_sides"] spDraw)
    (C_l_pick : Cal P w K mg base L2.CX0 2 "_law_pick" ["_law_deck_here", "_law_some"] (spPick K))
    (C_l_kept : Cal P w K mg base L2.CX0 1 "_law_kept" [] spKept)
    (C_l_name : Cal P w K mg base L2.CX0 3 "_law_name" ["_law_deck_here"] spName)
    (C_l_due : Cal P w K mg base L2.CX0 2 "_law_due" ["_law_here"] spIs)
    (C_l_bent : Cal P w K mg base L2.CX0 2 "_law_bent" ["_law_deck_here", "_law_word"] spBent) :
    FnG P w K mg base L2.CX0 4 f fd ["_law_script"] (spLaw K) := by
  have S := S_law
  refine fng_of D.fn S (fun vs H Q E h => ?_) (fun cdv A outer s H vs Q E hq hr h => ?_)
  · obtain ⟨a, ns, rfl, _⟩ := h
    rfl
  · obtain ⟨a, ns, rfl, hs, hl, hb, q⟩ := h
    refine ⟨_, (pss_cons (ps_set (i := 1) S.nd rfl (.inl rfl) (pe_c C_l_deck pass0 hq hr (by decide) (by rfl) (pa_cons (pv 0) pa_nil)))
 (pss_cons (ps_set (i := 2) S.nd rfl (.inl rfl) (pe_lst (pa_cons pe_non (pa_cons pe_bl (pa_cons pe_int (pa_cons pe_int (pa_cons (pe_tup pa_nil) (pa_cons (pe_tup (pa_cons pe_str pa_nil)) (pa_cons (pe_lst pa_nil) (pa_cons (pe_lst (pa_cons pe_str pa_nil)) (pa_cons pe_dnewK (pa_cons pe_str (pa_cons (pe_op op_repS pe_str pe_int) (pa_cons (pe_op op_repS pe_str pe_int) (pa_cons pe_str (pa_cons pe_str (pa_cons pe_str (pa_cons (pe_op op_pow pe_int pe_int) pa_nil))))))))))))))))))
 (pss_cons (ps_set (i := 2) S.nd rfl (.inl rfl) (pe_op op_cat (pe_op op_cat (pv 2) (pe_c0 C_l_kept pass0 hq hr (by decide) (by rfl))) (pe_callTy (call_listS rfl) (by rfl) M.list_ (by decide +kernel) (pa_cons pe_str pa_nil))))
 (pss_cons (ps_for PassesOwn.never rfl (pi_range1 (by rfl) M.range_ (pa_cons pe_int pa_nil)) (pg_name (i := 3) S.nd rfl (.inl rfl))
  (pss_cons (ps_set (i := 4) S.nd rfl (.inl rfl) (pe_ix ix_list (pe_lst (pa_cons (pe_c C_l_name pass0 hq hr (by decide) (by rfl) (pa_cons (pv 1) pa_nil)) (pa_cons (pe_c C_l_pick pass0 hq hr (by decide) (by rfl) (pa_cons (pv 1) (pa_cons (pe_c0 C_l_kept pass0 hq hr (by decide) (by rfl)) pa_nil))) pa_nil))) (pe_c C_l_draw pass0 hq hr (by decide) (by rfl) (pa_cons (pv 1) (pa_cons pe_int pa_nil))) (fun _ _ => rfl)))
 (pss_one (ps_set (i := 2) S.nd rfl (.inl rfl) (pe_op op_cat (pv 2) (pe_lst (pa_cons (pv 4) (pa_cons (pe_c C_l_bent pass0 hq hr (by decide) (by rfl) (pa_cons (pv 1) (pa_cons (pv 4) pa_nil))) pa_nil))))))))
 (pss_cons (ps_for PassesOwn.never rfl (pi_list (pv 2)) (pg_name (i := 5) S.nd rfl (.inl rfl))
  (pss_one (ps_if (pt_cmpR op_ne (pe_callB (call_reprD hq (room200 hr)) (by rfl) M.repr_ (by decide +kernel) (pa_cons (pe_lst (pa_cons (pe_c C_is_name pass0 hq hr (by decide) (by rfl) (pa_cons (pv 5) pa_nil)) (pa_cons (pe_cK C_is_name pass0 hq hr (by decide) (by rfl) (by decide) (pk_cons (pv 5) pk_nil)) pa_nil))) pa_nil)) (pe_callB (call_reprD hq (room200 hr)) (by rfl) M.repr_ (by decide +kernel) (pa_cons (pe_op op_rep (pe_lst (pa_cons (pe_c C_l_due pass0 hq hr (by decide) (by rfl) (pa_cons (pv 5) pa_nil)) pa_nil)) pe_int) pa_nil)) (nomark _))
  (pss_one (ps_ret pe_bl))
  pss_nil)))
 (pss_one (ps_ret pe_bl))))))), ?_⟩
    refine ⟨.ref a, rfl, a, ns, rfl, hs, hl, hb, fun d c H1 s1 nd nc dk => ?_⟩
    -- things of other kinds
    refine ⟨Nat.zero_le _, fun p1 n1 => ?_⟩
    refine ⟨by show 1 ≤ sizeLine; decide, fun p2 n2 => ?_⟩
    refine ⟨Nat.zero_le _, fun p3 n3 => ?_⟩
    refine ⟨by show 1 ≤ sizeLine; decide, fun p4 n4 => ?_⟩
    intro p5 n5
    have t1 := same_new (o := .tup []) n1
    have t2 := t1.trans (same_new (o := .tup [.str (Str.ofString "a")]) n2)
    have t3 := t2.trans (same_new (o := .lst []) n3)
    have t4 := t3.trans (same_new (o := .lst [.str (Str.ofString "a")]) n4)
    have t5 := t4.trans (same_new (o := .dK []) n5)
    have m1 := dk.free n1
    have m2 := dk.free (t1.free n2)
    have m3 := dk.free (t2.free n3)
    have m4 := dk.free (t3.free n4)
    have m5 := dk.free (t4.free n5)
    have dk5 := dk.same t5
    have e5 : upd (upd (upd (upd (upd H1 p1 (.tup [])) p2 (.tup [.str (Str.ofString "a")])) p3 (.lst [])) p4 (.lst [.str (Str.ofString "a")])) p5 (.dK []) p5 = some (.dK []) := upd_same
    have e4 := same_new (o := .dK []) n5 p4 _ upd_same
    have e3 := same_new (o := .dK []) n5 p3 _ (same_new (o := .lst [.str (Str.ofString "a")]) n4 p3 _ upd_same)
    have e2 := same_new (o := .dK []) n5 p2 _ (same_new (o := .lst [.str (Str.ofString "a")]) n4 p2 _ (same_new (o := .lst []) n3 p2 _ upd_same))
    have e1 := same_new (o := .dK []) n5 p1 _ (same_new (o := .lst [.str (Str.ofString "a")]) n4 p1 _ (same_new (o := .lst []) n3 p1 _ (same_new (o := .tup [.str (Str.ofString "a")]) n2 p1 _ upd_same)))
    revert dk5 e1 e2 e3 e4 e5
    generalize upd (upd (upd (upd (upd H1 p1 (.tup [])) p2 (.tup [.str (Str.ofString "a")])) p3 (.lst [])) p4 (.lst [.str (Str.ofString "a")])) p5 (.dK []) = H2
    intro dk5 e5 e4 e3 e2 e1
    refine ⟨_, 6, rfl, rfl, by decide, by decide, by decide, _, 7, rfl, rfl, by decide, by decide, by decide, 10, 39, rfl, rfl, ⟨by decide, by decide, by decide⟩, by show 16 ≤ sizeLine; decide, fun l0 nl0 => ?_⟩
    have ok0 : ∀ v ∈ [V.non, .bl true, .int 0, .int 7, .ref p1, .ref p2, .ref p3, .ref p4, .ref p5, .str (Str.ofString ""), .str (Txt.mul (Str.ofString "a") 6), .str (Txt.mul (Str.ofString "a") 7), .str (Str.ofString "a.b"), .str (Str.ofString "top"), .str (Str.ofString "abcdefg"), .int (10 ^ (39 : Int).toNat)], Ok d c H2 v := by
      intro v hv
      simp only [List.mem_cons, List.not_mem_nil, or_false] at hv
      rcases hv with rfl | rfl | rfl | rfl | rfl | rfl | rfl | rfl | rfl | rfl | rfl | rfl | rfl | rfl | rfl | rfl
      · exact .flat .non fun _ z => (by cases z)
      · exact .flat (.bl _) fun _ z => (by cases z)
      · exact .flat (.int _) fun _ z => (by cases z)
      · exact .flat (.int _) fun _ z => (by cases z)
      · exact ⟨.tup e1, fun z => m1.1 (V.ref.inj z), fun z => m1.2 (V.ref.inj z)⟩
      · exact ⟨.tup e2, fun z => m2.1 (V.ref.inj z), fun z => m2.2 (V.ref.inj z)⟩
      · exact ⟨.lst e3, fun z => m3.1 (V.ref.inj z), fun z => m3.2 (V.ref.inj z)⟩
      · exact ⟨.lst e4, fun z => m4.1 (V.ref.inj z), fun z => m4.2 (V.ref.inj z)⟩
      · exact ⟨.dct e5, fun z => m5.1 (V.ref.inj z), fun z => m5.2 (V.ref.inj z)⟩
      · exact .str (by decide)
      · exact .str (Nat.le_trans (len_mul_leN (L := 1) (N := 6) (by decide) (by decide)) (by decide))
      · exact .str (Nat.le_trans (len_mul_leN (L := 1) (N := 7) (by decide) (by decide)) (by decide))
      · exact .str (by decide)
      · exact .str (by decide)
      · exact .str (by decide)
      · exact .flat (.int _) fun _ z => (by cases z)
    have len0 : [V.non, .bl true, .int 0, .int 7, .ref p1, .ref p2, .ref p3, .ref p4, .ref p5, .str (Str.ofString ""), .str (Txt.mul (Str.ofString "a") 6), .str (Txt.mul (Str.ofString "a") 7), .str (Str.ofString "a.b"), .str (Str.ofString "top"), .str (Str.ofString "abcdefg"), .int (10 ^ (39 : Int).toNat)].length = 16 := rfl
    revert ok0 len0
    show _ → _ → tSeq _ _ _ [some (.ref a), some (.ref d), some (.ref l0), none, none, none] (upd H2 l0 (.lst [V.non, .bl true, .int 0, .int 7, .ref p1, .ref p2, .ref p3, .ref p4, .ref p5, .str (Str.ofString ""), .str (Txt.mul (Str.ofString "a") 6), .str (Txt.mul (Str.ofString "a") 7), .str (Str.ofString "a.b"), .str (Str.ofString "top"), .str (Str.ofString "abcdefg"), .int (10 ^ (39 : Int).toNat)]))
    generalize [V.non, .bl true, .int 0, .int 7, .ref p1, .ref p2, .ref p3, .ref p4, .ref p5, .str (Str.ofString ""), .str (Txt.mul (Str.ofString "a") 6), .str (Txt.mul (Str.ofString "a") 7), .str (Str.ofString "a.b"), .str (Str.ofString "top"), .str (Str.ofString "abcdefg"), .int (10 ^ (39 : Int).toNat)] = xs0
    intro ok0 len0
    have dk6 := dk5.new (o := .lst xs0) nl0
    have ml0 := dk5.free nl0
    have el0 : (upd H2 l0 (.lst xs0)) l0 = some (.lst xs0) := upd_same
    have ok1 : ∀ v ∈ xs0, Ok d c (upd H2 l0 (.lst xs0)) v := fun v hv => (ok0 v hv).same (same_new nl0)
    revert dk6 el0 ok1
    generalize upd H2 l0 (.lst xs0) = H3
    intro dk6 el0 ok1
    -- all kept words, all letters
    refine ⟨.ref l0, rfl, rfl, fun p6 n6 => ?_⟩
    have h6 := same_new (o := .lst (keptL.map V.str)) n6
    refine ⟨l0, p6, xs0, keptL.map V.str, rfl, rfl, h6 _ _ el0, upd_same, by rw [len0, List.length_map, keptL_len]; decide, fun p7 n7 => ?_⟩
    have h7 := h6.trans (same_new (o := .lst (xs0 ++ keptL.map V.str)) n7)
    have e7 : (upd (upd H3 p6 (.lst (keptL.map V.str))) p7 (.lst (xs0 ++ keptL.map V.str))) p7 = some (.lst (xs0 ++ keptL.map V.str)) := upd_same
    revert h7 e7
    generalize upd (upd H3 p6 (.lst (keptL.map V.str))) p7 (.lst (xs0 ++ keptL.map V.str)) = H4
    intro h7 e7
    refine ⟨_, rfl, by decide, fun p8 n8 => ?_⟩
    have h8 := same_new (o := .lst (sgV (Str.ofString "abcdefghijklmnopqrstuvwxyz{\x40["))) n8
    refine ⟨p7, p8, _, _, rfl, rfl, h8 _ _ e7, upd_same, ?_, fun l1 n9 => ?_⟩
    · rw [List.length_append, len0, List.length_map, keptL_len, sgV_len]
      decide
    have ok2 : ∀ v ∈ xs0 ++ keptL.map V.str ++ sgV (Str.ofString "abcdefghijklmnopqrstuvwxyz{\x40["), Ok d c H3 v := by
      intro v hv
      rcases List.mem_append.mp hv with hv | hv
      · rcases List.mem_append.mp hv with hv | hv
        · exact ok1 v hv
        · obtain ⟨z, hz, rfl⟩ := List.mem_map.mp hv
          exact .str (Nat.le_trans (keptL_le z hz) (by decide))
      · unfold sgV at hv
        obtain ⟨z, hz, rfl⟩ := List.mem_map.mp hv
        exact .str (by show 1 ≤ 1000; decide)
    have len2 : (xs0 ++ keptL.map V.str ++ sgV (Str.ofString "abcdefghijklmnopqrstuvwxyz{\x40[")).length ≤ 100 := by
      rw [List.length_append, List.length_append, len0, List.length_map, keptL_len, sgV_len]
      decide
    revert ok2 len2
    generalize xs0 ++ keptL.map V.str ++ sgV (Str.ofString "abcdefghijklmnopqrstuvwxyz{\x40[") = xs2
    intro ok2 len2
    have h9 : Same H3 (upd (upd H4 p8 (.lst (sgV (Str.ofString "abcdefghijklmnopqrstuvwxyz{\x40[")))) l1 (.lst xs2)) := (h7.trans h8).trans (same_new n9)
    have e9 : (upd (upd H4 p8 (.lst (sgV (Str.ofString "abcdefghijklmnopqrstuvwxyz{\x40[")))) l1 (.lst xs2)) l1 = some (.lst xs2) := upd_same
    have m9 := dk6.free ((h7.trans h8).free n9)
    revert h9 e9
    generalize upd (upd H4 p8 (.lst (sgV (Str.ofString "abcdefghijklmnopqrstuvwxyz{\x40[")))) l1 (.lst xs2) = H5
    intro h9 e9
    have dk9 := dk6.same h9
    have ok9 : ∀ v ∈ xs2, Ok d c H5 v := fun v hv => (ok2 v hv).same h9
    -- forty texts more
    refine ⟨40, rfl, by decide, by decide, for_range (lo := 0) (n := 40) (fun i σ H' => ∃ (l : Addr) (xs : List V) (t : Nat) (x3 x4 x5 : Option V),
      σ = [some (.ref a), some (.ref d), some (.ref l), x3, x4, x5] ∧ Deck H' d c t ∧ t ≤ 100 * i ∧ H' l = some (.lst xs) ∧ l ≠ d ∧ l ≠ c ∧ xs.length ≤ 100 + 2 * i ∧ ∀ v ∈ xs, Ok d c H' v) ?_ ?_ ?_⟩
    · exact ⟨l1, xs2, 0, none, none, none, rfl, dk9, Nat.le_refl _, e9, m9.1, m9.2, by omega, ok9⟩
    · rintro i σ H' hi ⟨l, xs, t, x3, x4, x5, rfl, dk', ht, el, n1', n2', hlen, oks⟩
      -- a name, or a kept word
      refine ⟨.ref d, rfl, d, c, t, rfl, dk', by omega, fun z1 t1 G1 hz1 t1a t1b b1 dkA => ?_⟩
      refine ⟨.ref d, rfl, rfl, fun q1 nq1 => ?_⟩
      have fq1 := dkA.free nq1
      refine ⟨d, c, t1, .ref q1, keptL.map V.str, rfl, .lst (.inl (.inl upd_same)), ?_, ?_, fun h => fq1.1 (V.ref.inj h), fun h => fq1.2 (V.ref.inj h), dkA.new nq1, by omega, fun j x G2 ex b2 dkB => ?_⟩
      · rw [List.length_map, keptL_len]
        decide
      · rw [List.length_map, keptL_len]
        decide
      obtain ⟨kw, hkw, rfl⟩ : ∃ kw, kw ∈ keptL ∧ V.str kw = x := by
        obtain ⟨kw, h1, h2⟩ := List.mem_map.mp (List.mem_of_getElem? ex)
        exact ⟨kw, h1, h2⟩
      have kl := keptL_le kw hkw
      have b12 : But d c H' G2 := (b1.same (same_new nq1)).trans b2
      refine ⟨by show 2 ≤ sizeLine; decide, fun q2 nq2 => ?_⟩
      have fq2 := dkB.free nq2
      refine ⟨.ref d, rfl, d, c, 2, t1 + 1, rfl, by decide, by decide, dkB.new nq2, by omega, fun r G3 r0 r1 b3 dkC => ?_⟩
      have eq2 := b3 q2 _ fq2.1 fq2.2 upd_same
      obtain ⟨y, ey, hy⟩ : ∃ y : Str, atI [V.str z1, .str kw] r = some (.str y) ∧ y.length ≤ 10 := by
        have h : r = 0 ∨ r = 1 := by omega
        rcases h with rfl | rfl
        · exact ⟨z1, rfl, by omega⟩
        · exact ⟨kw, rfl, by omega⟩
      have b123 : But d c H' G3 := (b12.same (same_new nq2)).trans b3
      refine ⟨q2, _, r, _, rfl, rfl, .inl (.inl eq2), ey, ?_⟩
      -- it, and one bent
      refine ⟨.ref l, rfl, .str y, rfl, .ref d, rfl, .str y, rfl, d, c, t1 + 2, y, rfl, hy, dkC, by omega, fun z2 G4 hz2 b4 dkD => ?_⟩
      refine ⟨by show 2 ≤ sizeLine; decide, fun q3 nq3 => ?_⟩
      have b1234 := b123.trans b4
      have el4 := b1234 l _ n1' n2' el
      have s3 := same_new (o := .lst [.str y, .str z2]) nq3
      refine ⟨l, q3, xs, _, rfl, rfl, s3 _ _ el4, upd_same, ?_, fun q4 nq4 => ?_⟩
      · exact Nat.le_trans (Nat.add_le_add_right hlen _) (Nat.le_trans (show 100 + 2 * i + 2 ≤ 1000 by omega) (by decide))
      have s4 := s3.trans (same_new (o := .lst (xs ++ [.str y, .str z2])) nq4)
      have fq4 := dkD.free (s3.free nq4)
      refine ⟨q4, _, t1 + 5, _, _, _, rfl, dkD.same s4, by omega, upd_same, fq4.1, fq4.2, ?_, ?_⟩
      · rw [List.length_append]
        show xs.length + 2 ≤ _
        omega
      · intro v hv
        rcases List.mem_append.mp hv with hv | hv
        · exact ((oks v hv).but b1234).same s4
        · simp only [List.mem_cons, List.not_mem_nil, or_false] at hv
          rcases hv with rfl | rfl
          · exact .str (by omega)
          · exact .str (by omega)
    · rintro σ H' ⟨l, xs, t, x3, x4, x5, rfl, dk', ht, el, n1', n2', hlen, oks⟩
      -- each of them, asked twice
      refine ⟨.ref l, rfl, l, rfl, ⟨_, .inl (.inl el)⟩, for_list (xs := xs) (fun i σ G => Same H' G ∧ ∃ (y3 y4 y5 : Option V), σ = [some (.ref a), some (.ref d), some (.ref l), y3, y4, y5]) ?_ ?_ ?_ ?_⟩
      · exact ⟨Same.refl _, _, _, _, rfl⟩
      · rintro i σ G _ ⟨sm, _⟩
        exact .inl (.inl (sm _ _ el))
      · rintro i v σ G hv ⟨sm, y3, y4, y5, rfl⟩
        have okv := (oks v (List.mem_of_getElem? hv)).1
        have kp : ∀ G', Same H' G' → Th G' v := fun G' h => okv.keep fun b _ o e => h b o e
        refine ⟨v, rfl, v, rfl, kp G sm, fun G1 g1 => ?_⟩
        have sm1 := sm.trans g1
        refine ⟨v, rfl, v, rfl, kp G1 sm1, fun G2 g2 => ?_⟩
        have sm2 := sm1.trans g2
        refine ⟨by show 2 ≤ sizeLine; decide, fun q1 nq1 => ?_⟩
        have sm3 := sm2.trans (same_new (o := .lst [.bl (nmV v), .bl (nmV v)]) nq1)
        have tr := two_repr (nmV v)
        refine ⟨q1, _, rfl, dp_two upd_same, tr.1, tr.2.1, tr.2.2.1, tr.2.2.2, ?_⟩
        refine ⟨v, rfl, v, rfl, kp _ sm3, fun G3 g3 => ?_⟩
        have sm4 := sm3.trans g3
        refine ⟨by show 1 ≤ sizeLine; decide, fun q2 nq2 => ?_⟩
        have sm5 := sm4.trans (same_new (o := .lst [.bl (nmV v)]) nq2)
        refine ⟨q2, 2, _, rfl, rfl, upd_same, by decide, by decide, by show 1 * 2 ≤ sizeLine; decide, fun q3 nq3 => ?_⟩
        have sm6 := sm5.trans (same_new (o := .lst (List.replicate (2 : Int).toNat [.bl (nmV v)]).flatten) nq3)
        have e3 : (upd (upd G3 q2 (.lst [.bl (nmV v)])) q3 (.lst (List.replicate (2 : Int).toNat [.bl (nmV v)]).flatten)) q3 = some (.lst [.bl (nmV v), .bl (nmV v)]) := upd_same
        refine ⟨q3, _, rfl, dp_two e3, tr.1, tr.2.1, tr.2.2.1, tr.2.2.2, ?_⟩
        refine ⟨rfl, _, rfl, iteNS rfl ?_⟩
        exact ⟨sm6, _, _, _, rfl⟩
      · rintro σ G ⟨sm, y3, y4, y5, rfl⟩
        exact q _

end
end K01

namespace K01
open PySem PySem.Spec PyProof.Rows L2 Kit
theorem vals_size {its : Array Value} (h : Vals (keptL.map V.str) its.toList) : its.size ≤ sizeLine := by
  have e := h.length
  rw [List.length_map, keptL_len, Array.length_toList] at e
  rw [← e]
  decide
theorem all_mk {l : PySem.W.OpenLaw} {w : World} {K : PySem.W.Frag} {h : Heap} {mg : Str → Option Value} {fa : Addr} (X : K.In h) (G : h.Ns mainGlobals mg) (hfa : mg "law" = some (.ref fa))
    {f_is_name : Addr} {oc_is_name kV_is_name dc_is_name pm_is_name cd_is_name ct_is_name : Value} {od_is_name an_is_name : Option Addr} {sl_is_name : Array (Option Value)}
    (a_is_name : PySem.W.nsIn K mainGlobals "is_name" = some (some (.ref f_is_name)))
    (l_is_name : K.lookup f_is_name = some ⟨oc_is_name, od_is_name, .func (PySem.W.fnOf "is_name" "is_name" (defArgs s_is_name) (defBody s_is_name) (defScope s_is_name) .none kV_is_name dc_is_name pm_is_name an_is_name cd_is_name ct_is_name), sl_is_name⟩)
    (c_is_name : PySem.W.codeIn K cd_is_name "is_name" = true)
    (k_is_name : PySem.W.keepIn K (.ref f_is_name) = true)
    {f_l_deck : Addr} {oc_l_deck kV_l_deck dc_l_deck pm_l_deck cd_l_deck ct_l_deck : Value} {od_l_deck an_l_deck : Option Addr} {sl_l_deck : Array (Option Value)}
    (a_l_deck : PySem.W.nsIn K mainGlobals "_law_deck" = some (some (.ref f_l_deck)))
    (l_l_deck : K.lookup f_l_deck = some ⟨oc_l_deck, od_l_deck, .func (PySem.W.fnOf "_law_deck" "_law_deck" (defArgs s_l_deck) (defBody s_l_deck) (defScope s_l_deck) .none kV_l_deck dc_l_deck pm_l_deck an_l_deck cd_l_deck ct_l_deck), sl_l_deck⟩)
    (c_l_deck : PySem.W.codeIn K cd_l_deck "_law_deck" = true)
    (k_l_deck : PySem.W.keepIn K (.ref f_l_deck) = true)
    {f_l_draw : Addr} {oc_l_draw kV_l_draw dc_l_draw pm_l_draw cd_l_draw ct_l_draw : Value} {od_l_draw an_l_draw : Option Addr} {sl_l_draw : Array (Option Value)}
    (a_l_draw : PySem.W.nsIn K mainGlobals "_law_draw" = some (some (.ref f_l_draw)))
    (l_l_draw : K.lookup f_l_draw = some ⟨oc_l_draw, od_l_draw, .func (PySem.W.fnOf "_law_draw" "_law_draw" (defArgs s_l_draw) (defBody s_l_draw) (defScope s_l_draw) .none kV_l_draw dc_l_draw pm_l_draw an_l_draw cd_l_draw ct_l_draw), sl_l_draw⟩)
    (c_l_draw : PySem.W.codeIn K cd_l_draw "_law_draw" = true)
    (k_l_draw : PySem.W.keepIn K (.ref f_l_draw) = true)
    {f_l_pick : Addr} {oc_l_pick kV_l_pick dc_l_pick pm_l_pick cd_l_pick ct_l_pick : Value} {od_l_pick an_l_pick : Option Addr} {sl_l_pick : Array (Option Value)}
    (a_l_pick : PySem.W.nsIn K mainGlobals "_law_pick" = some (some (.ref f_l_pick)))
    (l_l_pick : K.lookup f_l_pick = some ⟨oc_l_pick, od_l_pick, .func (PySem.W.fnOf "_law_pick" "_law_pick" (defArgs s_l_pick) (defBody s_l_pick) (defScope s_l_pick) .none kV_l_pick dc_l_pick pm_l_pick an_l_pick cd_l_pick ct_l_pick), sl_l_pick⟩)
    (c_l_pick : PySem.W.codeIn K cd_l_pick "_law_pick" = true)
    (k_l_pick : PySem.W.keepIn K (.ref f_l_pick) = true)
    {f_l_kept : Addr} {oc_l_kept kV_l_kept dc_l_kept pm_l_kept cd_l_kept ct_l_kept : Value} {od_l_kept an_l_kept : Option Addr} {sl_l_kept : Array (Option Value)}
    (a_l_kept : PySem.W.nsIn K mainGlobals "_law_kept" = some (some (.ref f_l_kept)))
    (l_l_kept : K.lookup f_l_kept = some ⟨oc_l_kept, od_l_kept, .func (PySem.W.fnOf "_law_kept" "_law_kept" (defArgs s_l_kept) (defBody s_l_kept) (defScope s_l_kept) .none kV_l_kept dc_l_kept pm_l_kept an_l_kept cd_l_kept ct_l_kept), sl_l_kept⟩)
    (c_l_kept : PySem.W.codeIn K cd_l_kept "_law_kept" = true)
    (k_l_kept : PySem.W.keepIn K (.ref f_l_kept) = true)
    {f_l_name : Addr} {oc_l_name kV_l_name dc_l_name pm_l_name cd_l_name ct_l_name : Value} {od_l_name an_l_name : Option Addr} {sl_l_name : Array (Option Value)}
    (a_l_name : PySem.W.nsIn K mainGlobals "_law_name" = some (some (.ref f_l_name)))
    (l_l_name : K.lookup f_l_name = some ⟨oc_l_name, od_l_name, .func (PySem.W.fnOf "_law_name" "_law_name" (defArgs s_l_name) (defBody s_l_name) (defScope s_l_name) .none kV_l_name dc_l_name pm_l_name an_l_name cd_l_name ct_l_name), sl_l_name⟩)
    (c_l_name : PySem.W.codeIn K cd_l_name "_law_name" = true)
    (k_l_name : PySem.W.keepIn K (.ref f_l_name) = true)
    {f_l_due : Addr} {oc_l_due kV_l_due dc_l_due pm_l_due cd_l_due ct_l_due : Value} {od_l_due an_l_due : Option Addr} {sl_l_due : Array (Option Value)}
    (a_l_due : PySem.W.nsIn K mainGlobals "_law_due" = some (some (.ref f_l_due)))
    (l_l_due : K.lookup f_l_due = some ⟨oc_l_due, od_l_due, .func (PySem.W.fnOf "_law_due" "_law_due" (defArgs s_l_due) (defBody s_l_due) (defScope s_l_due) .none kV_l_due dc_l_due pm_l_due an_l_due cd_l_due ct_l_due), sl_l_due⟩)
    (c_l_due : PySem.W.codeIn K cd_l_due "_law_due" = true)
    (k_l_due : PySem.W.keepIn K (.ref f_l_due) = true)
    {f_l_bent : Addr} {oc_l_bent kV_l_bent dc_l_bent pm_l_bent cd_l_bent ct_l_bent : Value} {od_l_bent an_l_bent : Option Addr} {sl_l_bent : Array (Option Value)}
    (a_l_bent : PySem.W.nsIn K mainGlobals "_law_bent" = some (some (.ref f_l_bent)))
    (l_l_bent : K.lookup f_l_bent = some ⟨oc_l_bent, od_l_bent, .func (PySem.W.fnOf "_law_bent" "_law_bent" (defArgs s_l_bent) (defBody s_l_bent) (defScope s_l_bent) .none kV_l_bent dc_l_bent pm_l_bent an_l_bent cd_l_bent ct_l_bent), sl_l_bent⟩)
    (c_l_bent : PySem.W.codeIn K cd_l_bent "_law_bent" = true)
    (k_l_bent : PySem.W.keepIn K (.ref f_l_bent) = true)
    {f_law : Addr} {oc_law kV_law dc_law pm_law cd_law ct_law : Value} {od_law an_law : Option Addr} {sl_law : Array (Option Value)}
    (a_law : PySem.W.nsIn K mainGlobals "law" = some (some (.ref f_law)))
    (l_law : K.lookup f_law = some ⟨oc_law, od_law, .func (PySem.W.fnOf "law" "law" (defArgs s_law) (defBody s_law) (defScope s_law) .none kV_law dc_law pm_law an_law cd_law ct_law), sl_law⟩)
    (c_law : PySem.W.codeIn K cd_law "law" = true)
    (k_law : PySem.W.keepIn K (.ref f_law) = true)
    (z_isinstance : PySem.W.nsIn K mainGlobals "isinstance" = some none)
    (z_str : PySem.W.nsIn K mainGlobals "str" = some none)
    (z_len : PySem.W.nsIn K mainGlobals "len" = some none)
    (z_all : PySem.W.nsIn K mainGlobals "all" = some none)
    (z_list : PySem.W.nsIn K mainGlobals "list" = some none)
    (z_range : PySem.W.nsIn K mainGlobals "range" = some none)
    (z_int : PySem.W.nsIn K mainGlobals "int" = some none)
    (z_repr : PySem.W.nsIn K mainGlobals "repr" = some none)
    {tL tN : Tok} {kw : Addr} {dk : Option Addr} {its : Array Value} {nk : Nat} {sk : Array (Option Value)}
    (t_L : PySem.W.nsIn K mainGlobals "LETTERS" = some (some (.str letters tL)))
    (t_N : PySem.W.nsIn K mainGlobals "LONGEST_NAME" = some (some (.int 6 tN)))
    (t_K : PySem.W.nsIn K mainGlobals "KEPT_WORDS" = some (some (.ref kw)))
    (t_K2 : K.lookup kw = some ⟨.type "tuple", dk, .seq its nk, sk⟩)
    (t_K3 : Vals (keptL.map V.str) its.toList)
    : ∃ fd : FuncData, (∀ (s : Shared) (v : Value), BindsTo s fd ⟨[v], []⟩ [("_law_script", v)]) ∧ ∀ base : Heap, K.In base → base.Ns mainGlobals mg → FnG l.prog w K mg base L2.CX0 4 fa fd ["_law_script"] (spLaw K) := by
  have e := hfa.symm.trans (PySem.W.mg_of X G a_law)
  cases e
  have D_is_name := def_mk (ps := ["thing"]) (st := s_is_name) X G a_is_name l_is_name c_is_name k_is_name (fun _ _ _ _ _ _ us hl => match us, hl with | [_], _ => rfl) (fun _ _ _ _ _ _ _ ws hl => match ws, hl with | [_], _ => rfl)
  have D_l_deck := def_mk (ps := ["_law_script"]) (st := s_l_deck) X G a_l_deck l_l_deck c_l_deck k_l_deck (fun _ _ _ _ _ _ us hl => match us, hl with | [_], _ => rfl) (fun _ _ _ _ _ _ _ ws hl => match ws, hl with | [_], _ => rfl)
  have D_l_draw := def_mk (ps := ["_law_deck_here", "_law_sides"]) (st := s_l_draw) X G a_l_draw l_l_draw c_l_draw k_l_draw (fun _ _ _ _ _ _ us hl => match us, hl with | [_, _], _ => rfl) (fun _ _ _ _ _ _ _ ws hl => match ws, hl with | [_, _], _ => rfl)
  have D_l_pick := def_mk (ps := ["_law_deck_here", "_law_some"]) (st := s_l_pick) X G a_l_pick l_l_pick c_l_pick k_l_pick (fun _ _ _ _ _ _ us hl => match us, hl with | [_, _], _ => rfl) (fun _ _ _ _ _ _ _ ws hl => match ws, hl with | [_, _], _ => rfl)
  have D_l_kept := def_mk (ps := []) (st := s_l_kept) X G a_l_kept l_l_kept c_l_kept k_l_kept (fun _ _ _ _ _ _ us hl => match us, hl with | [], _ => rfl) (fun h0 => absurd rfl h0)
  have D_l_name := def_mk (ps := ["_law_deck_here"]) (st := s_l_name) X G a_l_name l_l_name c_l_name k_l_name (fun _ _ _ _ _ _ us hl => match us, hl with | [_], _ => rfl) (fun _ _ _ _ _ _ _ ws hl => match ws, hl with | [_], _ => rfl)
  have D_l_due := def_mk (ps := ["_law_here"]) (st := s_l_due) X G a_l_due l_l_due c_l_due k_l_due (fun _ _ _ _ _ _ us hl => match us, hl with | [_], _ => rfl) (fun _ _ _ _ _ _ _ ws hl => match ws, hl with | [_], _ => rfl)
  have D_l_bent := def_mk (ps := ["_law_deck_here", "_law_word"]) (st := s_l_bent) X G a_l_bent l_l_bent c_l_bent k_l_bent (fun _ _ _ _ _ _ us hl => match us, hl with | [_, _], _ => rfl) (fun _ _ _ _ _ _ _ ws hl => match ws, hl with | [_, _], _ => rfl)
  have D_law := def_mk (ps := ["_law_script"]) (st := s_law) X G a_law l_law c_law k_law (fun _ _ _ _ _ _ us hl => match us, hl with | [_], _ => rfl) (fun _ _ _ _ _ _ _ ws hl => match ws, hl with | [_], _ => rfl)
  have M : Bi mg := ⟨PySem.W.mg_none_of X G z_isinstance, PySem.W.mg_none_of X G z_str, PySem.W.mg_none_of X G z_len, PySem.W.mg_none_of X G z_all, PySem.W.mg_none_of X G z_list, PySem.W.mg_none_of X G z_range, PySem.W.mg_none_of X G z_int, PySem.W.mg_none_of X G z_repr⟩
  have T : Tp K mg := ⟨⟨_, PySem.W.mg_of X G t_L, _, rfl⟩, ⟨_, PySem.W.mg_of X G t_N, _, rfl⟩⟩
  have W : Kw K mg kw := ⟨⟨_, PySem.W.mg_of X G t_K, rfl⟩, fun H => .inr ⟨_, its, nk, t_K2, rfl, rfl, vals_size t_K3, t_K3⟩⟩
  refine ⟨PySem.W.fnOf "law" "law" (defArgs s_law) (defBody s_law) (defScope s_law) .none kV_law dc_law pm_law an_law cd_law ct_law, fun s v => .of_eq rfl, fun base _ _ => ?_⟩
  · have C_l_draw := ok_draw (P := l.prog) (w := w) (base := base) D_l_draw
    have C_l_deck := ok_deck (P := l.prog) (w := w) (base := base) D_l_deck M
    have C_l_pick := ok_pick D_l_pick M C_l_draw
    have C_l_kept := ok_kept (P := l.prog) (w := w) (base := base) D_l_kept
    have C_l_name := ok_name D_l_name M C_l_draw C_l_pick C_l_kept
    have C_l_due := ok_due D_l_due M C_l_kept
    have C_l_bent := ok_bent D_l_bent M C_l_draw
    have C_is_name := ok_is_name (P := l.prog) (w := w) (base := base) D_is_name M T W
    exact ok_law D_law M C_is_name C_l_deck C_l_draw C_l_pick C_l_kept C_l_name C_l_due C_l_bent
end K01
open PySem PySem.W PyProof.Rows
set_option maxRecDepth 100000 in
set_option maxHeartbeats 0 in
theorem PySem.Challenge.cw_wiretongue_k01_names_and_kept_words_holds : PySem.Challenge.rw_wiretongue_k01_names_and_kept_words.Holds := by
  w_on; o_law; k_head; (case hw => w_witness2)
  k_fill
  refine Kit.walk_ofG (l := PySem.Challenge.rw_wiretongue_k01_names_and_kept_words) (n := 63) (k := 4) (x := "_law_script") (CX := fun _ => L2.CX0) (sp := fun w => K01.spLaw _) rfl (by decide) rfl ⟨rfl, by decide, by decide⟩ (fun w h Y => PySem.W.kIn_of Y) ?F (fun _ _ a ns hl hb _ hS => ⟨a, ns, rfl, hS, hl, hb, fun _ => rfl⟩) (fun _ _ _ _ _ h => h)
  case F =>
    intro w mg fa h KX G hmg
    refine' K01.all_mk KX G hmg ?a_is_name ?l_is_name ?c_is_name ?k_is_name ?a_l_deck ?l_l_deck ?c_l_deck ?k_l_deck ?a_l_draw ?l_l_draw ?c_l_draw ?k_l_draw ?a_l_pick ?l_l_pick ?c_l_pick ?k_l_pick ?a_l_kept ?l_l_kept ?c_l_kept ?k_l_kept ?a_l_name ?l_l_name ?c_l_name ?k_l_name ?a_l_due ?l_l_due ?c_l_due ?k_l_due ?a_l_bent ?l_l_bent ?c_l_bent ?k_l_bent ?a_law ?l_law ?c_law ?k_law ?z_isinstance ?z_str ?z_len ?z_all ?z_list ?z_range ?z_int ?z_repr ?t_L ?t_N ?t_K ?t_K2 ?t_K3
    (case a_is_name => k_is)
    (case l_is_name => k_is)
    (case c_is_name => k_is)
    (case k_is_name => k_is)
    (case a_l_deck => k_is)
    (case l_l_deck => k_is)
    (case c_l_deck => k_is)
    (case k_l_deck => k_is)
    (case a_l_draw => k_is)
    (case l_l_draw => k_is)
    (case c_l_draw => k_is)
    (case k_l_draw => k_is)
    (case a_l_pick => k_is)
    (case l_l_pick => k_is)
    (case c_l_pick => k_is)
    (case k_l_pick => k_is)
    (case a_l_kept => k_is)
    (case l_l_kept => k_is)
    (case c_l_kept => k_is)
    (case k_l_kept => k_is)
    (case a_l_name => k_is)
    (case l_l_name => k_is)
    (case c_l_name => k_is)
    (case k_l_name => k_is)
    (case a_l_due => k_is)
    (case l_l_due => k_is)
    (case c_l_due => k_is)
    (case k_l_due => k_is)
    (case a_l_bent => k_is)
    (case l_l_bent => k_is)
    (case c_l_bent => k_is)
    (case k_l_bent => k_is)
    (case a_law => k_is)
    (case l_law => k_is)
    (case c_law => k_is)
    (case k_law => k_is)
    (case z_isinstance => k_is)
    (case z_str => k_is)
    (case z_len => k_is)
    (case z_all => k_is)
    (case z_list => k_is)
    (case z_range => k_is)
    (case z_int => k_is)
    (case z_repr => k_is)
    (case t_L => k_is)
    (case t_N => k_is)
    (case t_K => k_is)
    (case t_K2 => k_is)
    (case t_K3 => (rw [K01.keptL_eq]; repeat (first | exact Paired.nil | refine Paired.cons ⟨_, rfl⟩ ?_)))

