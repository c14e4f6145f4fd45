import PyProof.Rows.All
import Wide.All
import OpenK.AllK
import Wide.FinOn
import HandS.ForMost
import HandS.Style
import HandS.IsInst
import HandS.EndBits
import HandS.MakeKwOnly
import KE.IntBitsLaws
import HandS.SortKw
import HandS.TupLe
import HandS.Walk
import HandS.Zip
import KE.GoesEnum
import HandS.HeadNt
import HandS.List
import HandS.Text
import HandS.TupMul
import KE.KRevSl
import HandS.Lambda
import HandS.Nested
import HandS.EndTab
import HandS.Deep
import HandS.NoneIn
import PyProof.P3In
import HandS.Codes
import PyProof.ReprLen
import HandS.Flow
import PySem.Challenge.RW_wiretongue_k53_whole_delays_put_otherwis
set_option Elab.async false
set_option linter.all false
set_option maxRecDepth 100000
set_option maxHeartbeats 4000000
/-! promises of defs that may show things: what runs around holds nothing that is being shown -/
namespace Kit
open PySem PySem.Spec PyProof.Rows L2

/-- nothing is being shown -/
abbrev Qt (A : Around) : Prop := A.guards = some []
theorem Qt.deeper {A : Around} (h : Qt A) (env : Env) : Qt (A.deeper env) := h

structure FnG (P : Program) (w : World) (K : PySem.W.Frag) (mg : Str → Option Value)
    (base : Heap) (CX : CXT) (k : Nat) (f : Addr) (fd : FuncData) (ps : List Str) (sp : Sp) : Prop where
  len : ∀ vs H Q E, sp vs H Q E → vs.length = ps.length
  run : ∀ (A : Around) (outer : List Env) (s : Shared) (H : Hp) (args : Args) (us : List Value)
    (vs : List V) (Q : VK) (E : XK), Qt A → Room k A → Env0 P w K mg base A outer s H →
    BindsTo s fd args (ps.zip us) → Vals vs us → sp vs H Q E →
    codeAny (model P w) A (.call (.ref f) args) (CR CX outer P w H s Q E) s

section
variable {P : Program} {w : World} {K : PySem.W.Frag} {mg : Str → Option Value} {base : Heap} {CX : CXT}

theorem FnG.of {k : Nat} {f : Addr} {fd : FuncData} {ps : List Str} {sp : Sp}
    (F : FnOk P w K mg base CX k f fd ps sp) : FnG P w K mg base CX k f fd ps sp :=
  ⟨F.len, fun A outer s H args us vs Q E _ => F.run A outer s H args us vs Q E⟩

/-- by its body -/
theorem fn_ofG {k : Nat} {f : Addr} {name qual : Str} {params : Arguments} {body : List Stmt} {scope : Scope}
    {dV kV doc pm cdv ct oc : Value} {an od : Option Addr} {osl : Array (Option Value)} {N ps : List Str} {sp : Sp}
    (lk : K.lookup f = some ⟨oc, od, .func (PySem.W.fnOf name qual params body scope dV kV doc pm an cdv ct), osl⟩)
    (hcd : PySem.W.codeIn K cdv qual = true) (S : FnScope N ps scope)
    (len : ∀ vs H Q E, sp vs H Q E → vs.length = ps.length)
    (hbody : ∀ (A : Around) (outer : List Env) (s : Shared) (H : Hp) (vs : List V) (Q : VK) (E : XK),
      Qt (A.deeper (envOfC qual scope s.heap.objs.size f cdv)) →
      Room k (A.deeper (envOfC qual scope s.heap.objs.size f cdv)) → sp vs H Q E →
      ∃ t, PSs (cxOf CX P w K mg base N qual scope f cdv A outer s H E) body t ∧
        t { nx := fun _ H' => Q .non H', rt := Q } (start N vs) H) :
    FnG P w K mg base CX (k + 1) f (PySem.W.fnOf name qual params body scope dV kV doc pm an cdv ct) ps sp := by
  refine ⟨len, ?_⟩
  intro A outer s H args us vs Q E hq hr e0 hb r hsp
  have hl := len _ _ _ _ hsp
  have kept : ∀ b o, base.get? b = some o → s.heap.get? b = some o := fun b o e => (e0.bs b o e).1
  have KX : K.In s.heap := e0.mod.kin.keeps kept
  have lim : s.heap.NoLimit := e0.mod.nolimit.keeps kept
  have hkind : ∀ y ∈ ps.zip us, scope.names.lookup y.1 = some .local ∨
      (scope.names.lookup y.1 = some .cell ∧
        ((cellsFrom (s.heap.objs.size + 1) scope.names []).lookup y.1).isSome = true) := by
    intro y hy
    rcases S.par y.1 (List.of_mem_zip (a := y.1) (b := y.2) hy).1 with q | q
    · exact .inl q
    · exact .inr ⟨q, PySem.W.cellsFrom_some _ _ _ (.inl q)⟩
  refine codeAny_call_function hr.depth (KX _ _ lk) rfl S.co S.gen rfl
    (PySem.W.codeRec_of KX hcd) (hb _ _ _ _ ?_)
  refine wpAny_newFunctionEnv_cells S.kind hkind fun env he s1 x => ?_
  subst he
  refine ⟨lim.keeps x.toInCall.keep, codeAny_func ?_⟩
  obtain ⟨t, ht, go⟩ := hbody A outer s H vs Q E (hq.deeper _) (hr.deeper _) hsp
  have I : Inv (cxOf CX P w K mg base N qual scope f cdv A outer s H E) [] (start N vs) H s1 :=
    inv_start S hr.hd e0 hl r x
  refine wpAny_mono (ht.run [] s1 (start N vs) H _ I go) (fun fl s' hs => ?_) fun e s' hs => hs
  cases fl with
  | ret u =>
    obtain ⟨v, σ', H', J, rv, q⟩ := hs
    exact ⟨v, H', J.os, J.bare, J.base, J.hok, rv, q⟩
  | next =>
    obtain ⟨σ', H', J, q⟩ := hs
    exact ⟨V.non, H', J.os, J.bare, J.base, J.hok, rfl, q⟩
  | brk => obtain ⟨_, _, _, q⟩ := hs; exact False.elim q
  | cont => obtain ⟨_, _, _, q⟩ := hs; exact False.elim q
end

section
variable {X : Cx} {CX : CXT} {k : Nat} {f : Addr} {fd : FuncData} {ps : List Str} {sp : Sp} {ds : List Value} {dvs : List V} {E : XK}

theorem run_fnG {pins : List (Addr × Obj)} {σ : L2.St} {H : Hp} {s : Shared} {Q : VK} {us ws : List Value} {vs zs : List V} {ks : List Str}
    {g : List Value → List Value → List Value} {gV : List V → List V → List V}
    (F : FnG X.prog X.w X.K X.mg X.base CX k f fd ps sp) (hq : Qt X.A) (hr : Room k X.A)
    (hb : KBinds X.K fd ps ks g gV) (hx : Passes CX X E) (I : Inv X pins σ H s) (r : Vals vs us) (rz : Vals zs ws)
    (h : sp (gV vs zs) H Q E) :
    wpAny (model X.prog X.w) X.A (call (.ref f) us (ks.zip ws)) (EP X pins σ Q) X.xe s := by
  have r2 := hb.rel r rz
  have hl : (g us ws).length = ps.length := by
    rw [← r2.length]
    exact F.len _ _ _ _ h
  have z := F.run X.A X.stack s H ⟨us, ks.zip ws⟩ (g us ws) (gV vs zs) Q E hq hr I.env0 (hb.to s us ws I.kIn hl) r2 h
  refine wpAny_call (codeAny_mono z ?_)
  intro o s' ho
  match o, ho with
  | .error e, ho => exact hx pins σ H s e s' I ho
  | .ok (.ret u), ho => exact I.after ho
  | .ok .next, ho => exact False.elim ho
  | .ok .brk, ho => exact False.elim ho
  | .ok .cont, ho => exact False.elim ho

/-- all by their names, or nothing -/
def gK {α : Type} : List α → List α → List α
  | [], ws => ws
  | _ :: _, _ => []

/-- a def of the module that may be called by its name, all parameters given -/
structure Cal (P : Program) (w : World) (K : PySem.W.Frag) (mg : Str → Option Value)
    (base : Heap) (CX : CXT) (k : Nat) (x : Str) (ps : List Str) (sp : Sp) : Prop where
  ex : ∃ (f : Addr) (fd : FuncData), FnG P w K mg base CX k f fd ps sp ∧ mg x = some (.ref f) ∧
    PySem.W.keepIn K (.ref f) = true ∧ Binds K fd ps [] ∧
    (ps ≠ [] → KBinds K fd ps ps gK gK)

variable {x : Str} {p pos : Pos} {e : Expr} {es : List Expr} {kws : List Keyword} {t tk : TA} {j : Nat}

theorem kb_of {fd : FuncData} (hb : Binds X.K fd ps []) : KBinds X.K fd ps [] (fun us _ => us) (fun vs _ => vs) :=
  ⟨fun s us ws hK hl => by
    have z := hb s us hK (by rw [List.append_nil]; exact hl)
    rw [List.append_nil] at z
    exact z, fun r _ => r⟩

theorem pe_c (c : Cal X.prog X.w X.K X.mg X.base CX k x ps sp) (hx : Passes CX X E) (hq : Qt X.A) (hr : Room j X.A) (hk : k ≤ j)
    (hg : Gl X x) (ha : PA X (e :: es) t) (hdb : (x == ("__debug__" : Str)) = false := by decide)
    (he : starEach (e :: es) X.env = (false, eval e X.env) :: starEach es X.env := by rfl)
    (hpl : (backTo pos (starEach es X.env)).any (·.1) = false := by rfl) :
    PE X (.Call (.Name x p) (e :: es) [] pos) (tCall sp [] E t) := by
  obtain ⟨f, fd, F, hm, hkp, hb, _⟩ := c.ex
  constructor
  intro pins s σ H Q I h
  refine wpAny_Call_Name_kw (ld_glob I hg hm ?_ hdb)
  refine PySem.W.callWith_K (h₀ := X.base) I.ok.mod.kin hkp ?_ he hpl
  refine thn (ha.run pos pins s σ H _ I h) ?_
  rintro us s1 ⟨vs, H1, I1, r, q⟩
  rw [List.append_nil] at q
  exact ⟨I1.kIn, run_fnG (ks := []) (ws := []) F hq (hr.mono hk) (kb_of hb) hx I1 r .nil q⟩

theorem pe_c0 (c : Cal X.prog X.w X.K X.mg X.base CX k x ps sp) (hx : Passes CX X E) (hq : Qt X.A) (hr : Room j X.A) (hk : k ≤ j)
    (hg : Gl X x) (hdb : (x == ("__debug__" : Str)) = false := by decide) :
    PE X (.Call (.Name x p) [] [] pos) (tCall sp [] E tNil) := by
  obtain ⟨f, fd, F, hm, hkp, hb, _⟩ := c.ex
  constructor
  intro pins s σ H Q I h
  refine wpAny_Call_Name_kw (ld_glob I hg hm ?_ hdb)
  exact PySem.W.callWith_K0 I.kIn hkp (run_fnG (ks := []) (us := []) (ws := []) F hq (hr.mono hk) (kb_of hb) hx I .nil .nil h)

/-- all by their names, in the parameters' order -/
theorem pe_cK (c : Cal X.prog X.w X.K X.mg X.base CX k x ps sp) (hx : Passes CX X E) (hq : Qt X.A) (hr : Room j X.A) (hk : k ≤ j)
    (hg : Gl X x) (h0 : ps ≠ []) (hkw : PK X kws tk)
    (hall : (backToKw pos (keywordEach kws X.env)).all (·.1.isSome) = true := by rfl)
    (hks : (backToKw pos (keywordEach kws X.env)).filterMap (·.1) = ps := by rfl)
    (hdb : (x == ("__debug__" : Str)) = false := by decide)
    (hpl : ((backTo pos (starEach [] X.env)).any (·.1) || (backToKw pos (keywordEach kws X.env)).any (·.1.isNone)) = false := by rfl) :
    PE X (.Call (.Name x p) [] kws pos) (tCall sp [] E tk) := by
  obtain ⟨f, fd, F, hm, hkp, _, hb⟩ := c.ex
  constructor
  intro pins s σ H Q I h
  refine wpAny_Call_Name_kw (ld_glob I hg hm ?_ hdb)
  refine PySem.W.callWith_KW0 (h₀ := X.base) I.ok.mod.kin hkp hall ?_ hpl
  refine thn (hkw.run pos pins s σ H _ I h) ?_
  rintro ws s1 ⟨zs, H1, I1, r, q⟩
  rw [List.append_nil] at q
  refine ⟨I1.kIn, ?_⟩
  rw [hks]
  exact run_fnG (us := []) (vs := []) F hq (hr.mono hk) (hb h0) hx I1 .nil r q
end

section
variable {P : Program} {w : World} {K : PySem.W.Frag} {mg : Str → Option Value} {base : Heap}
theorem kb_all {fd : FuncData} {ps : List Str} (h0 : ps ≠ [])
    (h : ∀ ws : List Value, ws.length = ps.length → bindArgs fd ⟨[], ps.zip ws⟩ = pure (ps.zip ws)) : KBinds K fd ps ps gK gK where
  to := fun s us ws _ hl => by
    cases us with
    | nil => exact .of_eq (h ws hl)
    | cons u us =>
      exfalso
      cases ps with
      | nil => exact h0 rfl
      | cons y ps => cases hl
  rel := fun {vs us zs ws} r rz => by
    cases r with
    | nil => exact rz
    | cons _ _ => exact .nil
/-- a def by its body; nothing leaves it by a raise -/
theorem fng_of {x0 x : Str} {st : Stmt} {f : Addr} {fd : FuncData} {N ps : List Str} {k : Nat} {sp : Sp}
    (F : L2.Fun K x0 x st f fd)
    (S : FnScope N ps (defScope st)) (len : ∀ vs H Q E, sp vs H Q E → vs.length = ps.length)
    (hbody : ∀ (cdv : Value) (A : Around) (outer : List Env) (s : Shared) (H : Hp) (vs : List V) (Q : VK) (E : XK),
      Qt (A.deeper (envOfC x (defScope st) s.heap.objs.size f cdv)) →
      Room k (A.deeper (envOfC x (defScope st) s.heap.objs.size f cdv)) → sp vs H Q E →
      ∃ t, PSs (cxOf L2.CX0 P w K mg base N x (defScope st) f cdv A outer s H E).nox (defBody st) t ∧
        t { nx := fun _ H' => Q .non H', rt := Q } (start N vs) H) :
    FnG P w K mg base L2.CX0 (k + 1) f fd ps sp := by
  obtain ⟨oc, od, kV, doc, pm, an, cdv, ct, osl, rfl, lk, hcd⟩ := F.ex
  refine fn_ofG lk hcd S len ?_
  intro A outer s H vs Q E hq hr hsp
  obtain ⟨t, h, q⟩ := hbody cdv A outer s H vs Q E hq hr hsp
  exact ⟨t, h.nox, q⟩
theorem cal_of {x : Str} {st : Stmt} {f : Addr} {fd : FuncData} {N ps : List Str} {k : Nat} {sp : Sp}
    (F : L2.Fun K x x st f fd) (hm : mg x = some (.ref f)) (hb : Binds K fd ps []) (hkb : ps ≠ [] → KBinds K fd ps ps gK gK)
    (S : FnScope N ps (defScope st)) (len : ∀ vs H Q E, sp vs H Q E → vs.length = ps.length)
    (hbody : ∀ (cdv : Value) (A : Around) (outer : List Env) (s : Shared) (H : Hp) (vs : List V) (Q : VK) (E : XK),
      Qt (A.deeper (envOfC x (defScope st) s.heap.objs.size f cdv)) →
      Room k (A.deeper (envOfC x (defScope st) s.heap.objs.size f cdv)) → sp vs H Q E →
      ∃ t, PSs (cxOf L2.CX0 P w K mg base N x (defScope st) f cdv A outer s H E).nox (defBody st) t ∧
        t { nx := fun _ H' => Q .non H', rt := Q } (start N vs) H) :
    Cal P w K mg base L2.CX0 (k + 1) x ps sp :=
  ⟨f, fd, fng_of F S len hbody, hm, F.kp, hb, hkb⟩

/-- the law's call, from the world outside -/
theorem law_callG {mb : Str → Option Value} {CX : CXT} {k : Nat} {fa a : Addr} {fd : FuncData} {x : Str} {sp : Sp}
    {s₁ : Shared} {vs : List Value} {ns : List Int}
    (KX : K.In s₁.heap) (hns : s₁.heap.Ns mainGlobals mg) (hb : s₁.heap.Ns builtinsNs mb)
    (hbb : ∀ x : Str, x ≠ "__name__" → mb x = bootBuiltins x) (hlim : s₁.heap.NoLimit) (hg : s₁.gens = #[])
    (ha : s₁.heap.get? a = some { cls := .type "list", data := .seq vs.toArray }) (hi : IntsAre vs ns)
    (hl : ns.length ≤ sizeLine) (hr : Room k callerA)
    (F : ∀ base : Heap, K.In base → base.Ns mainGlobals mg → FnG P w K mg base CX k fa fd [x] sp)
    (hbind : ∀ (s : Shared) (u : Value), BindsTo s fd ⟨[u], []⟩ [(x, u)])
    (hsp : ∀ H : Hp, Only H → SqL K H a (ns.map V.int) → sp [.ref a] H (fun v _ => v = .bl true) fun _ _ _ => False)
    (hCX : ∀ H e s', CX [] H s₁ (fun _ _ _ => False) e s' → False) :
    codeAny (model P w) callerA (.call (.ref fa) ⟨[.ref a], []⟩)
      (fun r s' => r = .ok (.ret (.bool true)) ∧ OldK s₁.heap s'.heap ∧ s'.os = s₁.os ∧ AllBare s'.gens) s₁ := by
  have rv := vals_ints hi
  have lenV := hi.length
  -- over any abstract heap that tracks the script at most
  have inner : ∀ H : Hp, Only H → SqL K H a (ns.map V.int) → HOk P w H s₁.heap → (∀ b, H b ≠ none → b = a) →
      (H a ≠ none → K.lookup a = none) →
      codeAny (model P w) callerA (.call (.ref fa) ⟨[.ref a], []⟩)
        (fun r s' => r = .ok (.ret (.bool true)) ∧ OldK s₁.heap s'.heap ∧ s'.os = s₁.os ∧ AllBare s'.gens) s₁ := by
    intro H hO hS hok hA hK
    have one : ∀ {b : Addr} {u : HO}, H b = some u → b = a := fun {b u} z => hA b (by rw [z]; simp)
    have noD : ∀ {b : Addr} {o : Obj} {es : Array DictEntry} {ep : Nat},
        s₁.heap.get? b = some o → o.data = .dict es ep → H b = none := by
      intro b o es ep e d
      cases q : H b with
      | none => rfl
      | some u =>
        obtain rfl := one q
        rw [ha] at e
        cases e
        have d' : Data.seq vs.toArray _ = Data.dict es ep := d
        cases d'
    have nsK : ∀ {b : Addr} {m : Str → Option Value}, s₁.heap.Ns b m → (hidT s₁.heap H).Ns b m := by
      rintro b m ⟨o, es, ep, e, d, r⟩
      exact ⟨o, es, ep, hidT_get e (noD e d), d, r⟩
    have hKb : K.In (hidT s₁.heap H) := by
      intro b o e
      refine hidT_get (KX b o e) ?_
      cases q : H b with
      | none => rfl
      | some u =>
        obtain rfl := one q
        rw [hK (by rw [q]; simp)] at e
        cases e
    obtain ⟨mc, l1, l2⟩ := hlim
    have hM : Mod K mg (hidT s₁.heap H) := ⟨hKb, nsK hns, ⟨mb, nsK hb, hbb⟩, mc, nsK l1, l2⟩
    have no0 : ∀ b : Addr, b ∈ ([] : List Addr) → False := fun b z => by simp at z
    have e0 : Env0 P w K mg (hidT s₁.heap H) callerA [] s₁ H :=
      ⟨rfl, hM, fun b o e => of_hidT e, Nat.le_of_eq (hidT_size _ _), trivial, fun b z => (no0 b z).elim, hok, .of_eq hg⟩
    have go := (F _ hKb (nsK hns)).run callerA [] s₁ H ⟨[.ref a], []⟩ [.ref a] [.ref a] _ _ rfl hr e0
      (hbind s₁ (.ref a)) (.cons rfl .nil) (hsp H hO hS)
    refine codeAny_mono go ?_
    intro r s' h
    match r, h with
    | .error e, h => exact (hCX H e s' h).elim
    | .ok .next, h => exact False.elim h
    | .ok .brk, h => exact False.elim h
    | .ok .cont, h => exact False.elim h
    | .ok (.ret u), h =>
      obtain ⟨v, H', os, bare, un, hok', r', q⟩ := h
      have q' : v = .bl true := q
      subst q'
      obtain rfl : u = Value.bool true := r'
      refine ⟨rfl, OldK.of_keep ?_, os, bare⟩
      intro b o e
      cases q : H b with
      | none => exact un.keep b o e q (no0 b) (by simp)
      | some u =>
        rcases hO b with z | ⟨ob, xs, z⟩
        · rw [q] at z
          cases z
        · obtain ⟨e1, _⟩ := hok b _ z
          obtain ⟨e2, _⟩ := hok' b _ (un.frzs b ob _ z)
          rw [e] at e1
          cases e1
          exact e2
  cases hk : K.lookup a with
  | some o =>
    have e := KX a o hk
    rw [ha] at e
    cases e
    have sz : vs.toArray.size ≤ sizeLine := by
      rw [List.size_toArray, lenV]
      exact hl
    refine inner (fun _ => none) (fun _ => .inl rfl) (.inr ⟨_, vs.toArray, _, hk, rfl, rfl, rfl, sz, by simpa using rv⟩) ?_ ?_ ?_
    · intro b u z
      have z' : (none : Option HO) = some u := z
      cases z'
    · exact fun b z => absurd rfl z
    · exact fun z => absurd rfl z
  | none =>
    let u : HO := .frz { cls := .type "list", data := .seq vs.toArray } (.lst (ns.map V.int))
    have yes : ∀ {b : Addr}, b = a → (if b = a then some u else none) = some u := fun h => if_pos h
    have no : ∀ {b : Addr}, ¬ b = a → (if b = a then some u else none) = none := fun h => if_neg h
    refine inner (fun b => if b = a then some u else none) ?_ (.inl (.inr ⟨_, yes rfl⟩)) ?_ ?_ fun _ => hk
    · intro b
      by_cases hb : b = a
      · exact .inr ⟨_, _, yes hb⟩
      · exact .inl (no hb)
    · intro b v z
      by_cases hb : b = a
      · have z' := (yes hb).symm.trans z
        cases z'
        subst hb
        refine ⟨ha, ?_, vs, _, rv, ha⟩
        rw [List.length_map]
        exact hl
      · have z' := (no hb).symm.trans z
        cases z'
    · intro b z
      by_cases hb : b = a
      · exact hb
      · exact absurd (no hb) z
end

/-- the goal of the head, from the law's promise -/
theorem walk_ofG {l : PySem.W.OpenLaw} {n k : Nat} {q : Program} {loose : List Str} {XP : (Str → Option Value) → Heap → Prop}
    {YP : World → Heap → Prop} {d : DefRec} {K : Params → PySem.W.Frag} {CX : World → CXT} {sp : World → Sp} {x : Str}
    (hn : l.most = some n) (hn2 : n ≤ sizeLine) (hdf : d.params.defaults = []) (hr : Room k callerA)
    (hY : ∀ (w : World) (h : Heap), YP w h → (K w.params).In h)
    (F : ∀ (w : World) (mg : Str → Option Value) (fa : Addr) (h : Heap), (K w.params).In h → h.Ns mainGlobals mg →
      mg d.name = some (.ref fa) →
      ∃ fd : FuncData, (∀ (s : Shared) (u : Value), BindsTo s fd ⟨[u], []⟩ [(x, u)]) ∧
        ∀ base : Heap, (K w.params).In base → base.Ns mainGlobals mg → FnG l.prog w (K w.params) mg base (CX w) k fa fd [x] (sp w))
    (hsp : ∀ (w : World) (H : Hp) (a : Addr) (ns : List Int), ns.length ≤ n →
      (∀ z ∈ ns, Builtin.Int.intBits z ≤ 1048576) → Only H → SqL (K w.params) H a (ns.map V.int) →
      sp w [.ref a] H (fun v _ => v = .bl true) fun _ _ _ => False)
    (hCX : ∀ (w : World) (H : Hp) (s : Shared) (e : Value) (s' : Shared), CX w [] H s (fun _ _ _ => False) e s' → False) :
    PySem.W.WalkO q loose XP YP l.row.toRowW d [] (fun f vs => PySem.call f vs) := by
  refine Att.attach_callB hn hdf ?_
  intro w s₀ s₁ mg mb fa o pm cd doc a vs ns G Y ho hd hcd hmg hobj hints hlen hbits hg
  have KX := hY w _ Y
  obtain ⟨fd, hb, hF⟩ := F w mg fa _ KX G.T.g hmg
  exact law_callG KX G.T.g G.T.b G.T.builtins G.T.nolimit hg hobj hints (Nat.le_trans hlen hn2) hr hF hb
    (fun H hO hS => hsp w H a ns hlen hbits hO hS) fun H e s' => hCX w H s₁ e s'
end Kit

namespace Kit
open PySem PySem.Spec PyProof.Rows L2
section
variable {X : Cx}
/-- * of whole numbers, as great as the machine lets -/
theorem op_mulB : OpR X (binaryOp .Mult) (rI IntMulOk fun i j => .int (i * j)) :=
  opI fun i j t u s Q E hc q => mul_int q hc

/-- a text times a number -/
def rRepS : R2 := fun x y H Q => ∃ (z : Str) (k : Int), x = .str z ∧ y = .int k ∧ z.length ≤ 1000 ∧ 0 ≤ k ∧ k ≤ 1000 ∧ Q (.str (Txt.mul z k)) H
theorem op_repS : OpR X (binaryOp .Mult) rRepS := by
  intro pins s σ H x y v u Q I rx ry h
  obtain ⟨z, k, rfl, rfl, hz, h0, hk, q⟩ := h
  obtain ⟨t, rfl⟩ := rx
  obtain ⟨t', rfl⟩ := ry
  exact SB.mul (mulOk_of 1000 1000 hz hk (by omega) (by decide) (by decide)) fun t' k => ⟨.str _, H, I.tok _, ⟨_, rfl⟩, q⟩

/-- repr of lists and tuples of data -/
def rReprD (K : PySem.W.Frag) : List V → Hp → VK → Prop := fun xs H Q => ∃ (a : Addr) (d : PyData), xs = [.ref a] ∧ Dp K H (.ref a) d ∧
  d.showable = true ∧ d.hasDict = false ∧ d.depth ≤ 150 ∧ d.shown.length ≤ sizeLine ∧ Q (.str d.shown) H
theorem call_reprD (hq : Qt X.A) (hu : X.A.units + 200 < cLine) : CallR X (.builtin "repr") (rReprD X.K) := by
  intro pins s σ H xs us Q I r h
  obtain ⟨a, d, rfl, hd, hs, hn, hp, hz, q⟩ := h
  obtain ⟨u, rfl, ru⟩ := vals1 r
  obtain ⟨as, rd⟩ := Dp.reads I d _ _ hd ru
  obtain rfl : u = Value.ref a := ru
  refine repr_of_reads' rd hs (PyData.noDict_hsm hn) hq (by omega) (fun _ _ e => e) (fun h' u tk hk => ?_) hz
  exact ⟨.str _, H, I.kept hk, ⟨_, rfl⟩, q⟩

/-- a list of anything beside one without items -/
def rEqNil (K : PySem.W.Frag) : R2 := fun x y H Q => ∃ (a b : Addr) (xs : List V), x = .ref a ∧ y = .ref b ∧ SqL K H a xs ∧ SqL K H b [] ∧ Q (.bl xs.isEmpty) H
def rNeNil (K : PySem.W.Frag) : R2 := fun x y H Q => ∃ (a b : Addr) (xs : List V), x = .ref a ∧ y = .ref b ∧ SqL K H a xs ∧ SqL K H b [] ∧ Q (.bl (!xs.isEmpty)) H
theorem op_eqNil (hu : X.A.units + 200 < cLine) : OpR X (compareOp .Eq) (rEqNil X.K) := by
  intro pins s σ H x y v u Q I rx ry h
  obtain ⟨a, b, xs, rfl, rfl, ha, hb, q⟩ := h
  cases rx
  cases ry
  obtain ⟨its, r1, p1, _⟩ := I.list ha
  obtain ⟨its2, r2, p2, _⟩ := I.list hb
  cases r2
  cases xs with
  | nil =>
    cases r1
    exact SeqAt.eq_listAt (e := fun _ => true) p1.isList p2.isList rfl (by omega) (fun j h1 _ => absurd h1 (Nat.not_lt_zero j)) ⟨.bl true, H, I, rfl, q⟩
  | cons z zs =>
    cases r1
    exact SeqAt.eq_list_lengthsAt p1.isList p2.isList (by simp) (by omega) ⟨.bl false, H, I, rfl, q⟩
theorem op_neNil (hu : X.A.units + 200 < cLine) : OpR X (compareOp .NotEq) (rNeNil X.K) := by
  intro pins s σ H x y v u Q I rx ry h
  obtain ⟨a, b, xs, rfl, rfl, ha, hb, q⟩ := h
  cases rx
  cases ry
  obtain ⟨its, r1, p1, _⟩ := I.list ha
  obtain ⟨its2, r2, p2, _⟩ := I.list hb
  cases r2
  cases xs with
  | nil =>
    cases r1
    exact SeqAt.RcNeAt.lists (e := fun _ => true) p1.isList p2.isList rfl (by omega) (fun j h1 _ => absurd h1 (Nat.not_lt_zero j)) _ _ _ _ ⟨.bl false, H, I, rfl, q⟩
  | cons z zs =>
    cases r1
    exact SeqAt.RcNeAt.lists_lengths p1.isList p2.isList (by simp) (by omega) _ _ _ _ ⟨.bl true, H, I, rfl, q⟩

/-- a text from behind: what of it is told is its length -/
def tRevS (te : TE) : TE := fun σ H Q => te σ H fun x H1 => ∃ z : Str, x = .str z ∧ z.length ≤ sizeLine ∧ ∀ y : Str, y.length ≤ z.length → Q (.str y) H1
theorem pe_revS {e : Expr} {te : TE} {k : Nat} {p1 p2 p3 pos : Pos} (he : PE X e te)
    (hlt : ∀ (z : Str) (t : Tok) r, letTemporaryGo e (.str z t) r = pure () := by intro _ _ _; with_unfolding_all rfl) :
    PE X (.Subscript e (.Slice none none (some (.UnaryOp .USub (.Constant (.int 1) k p1) p2)) p3) pos) (tRevS te) := by
  constructor
  intro pins s σ H Q I h
  refine Subscript_ (thn (he.run pins s σ H _ I h) ?_)
  rintro v s1 ⟨x, H1, I1, r1, z, rfl, hz, q⟩
  obtain ⟨t, rfl⟩ := r1
  have hst : PO X (some (.UnaryOp .USub (.Constant (.int 1) k p1) p2)) (tPart (tUn (rU fun i => .int (-i)) (tC (.int 1)))) :=
    po_some (pe_un un_neg pe_int)
  refine wpAny_Slice (thn (po_none.run pins s1 σ H1 (fun o H2 => o = none ∧ H2 = H1) I1 ⟨rfl, rfl⟩) ?_)
  rintro vl s2 ⟨l, H2, I2, pl, rfl, rfl⟩
  refine thn (po_none.run pins s2 σ H2 (fun o H3 => o = none ∧ H3 = H2) I2 ⟨rfl, rfl⟩) ?_
  rintro vu s3 ⟨u, H3, I3, pu, rfl, rfl⟩
  refine thn (hst.run pins s3 σ H3 (fun o H4 => o = some (-1) ∧ H4 = H3) I3 ⟨1, rfl, -1, rfl, rfl, rfl⟩) ?_
  rintro vs s4 ⟨o, H4, I4, ps, rfl, rfl⟩
  cases pl
  cases pu
  cases ps with
  | int _ uk =>
    refine tail_of_ItemOn (ops := [.ref s4.heap.objs.size, .str z t]) ⟨"str", _, F.slot_str_getitem.lookup, typeIs_str _ _ _,
      wpAny_getItem_str_slice (l := none) (u := none) (st := some (-1, uk)) ⟨_, Heap.get?_push_size _ rfl, rfl, rfl⟩ rfl
        (post_val_or_str ⟨?_, ?_⟩)⟩ (by with_unfolding_all rfl) (hlt z t)
    · exact Nat.le_trans (Txt.sliceBy_le z none none (-1, uk) (by show (-1 : Int) ≠ 0; decide)) hz
    · intro t' c
      exact ⟨.str _, H4, I4.kept (fun b u e => Heap.get?_push_of_some _ e), ⟨_, rfl⟩, q _ (Txt.sliceBy_le z none none (-1, uk) (by show (-1 : Int) ≠ 0; decide))⟩

/-- the signs of a text, a text each -/
def sgV (z : Str) : List V := z.cps.toList.map fun c => .str ⟨#[c]⟩
theorem sgV_len (z : Str) : (sgV z).length = z.length := by
  unfold sgV
  rw [List.length_map, Array.length_toList]
  rfl
theorem vals_signs : ∀ (cs : List Nat) (us : List Value), us.length = cs.length → (∀ (j : Nat) (v : Value), us[j]? = some v → ∃ c t, cs[j]? = some c ∧ v = Value.str ⟨#[c]⟩ t) →
    Vals (cs.map fun c => V.str ⟨#[c]⟩) us
  | [], [], _, _ => .nil
  | [], _ :: _, h, _ => by cases h
  | _ :: _, [], h, _ => by cases h
  | c :: cs, u :: us, hl, h => by
    obtain ⟨c', t, e1, e2⟩ := h 0 u rfl
    have e1' : c = c' := Option.some.inj e1
    subst e1'
    exact .cons ⟨t, e2⟩ (vals_signs cs us (by simpa using hl) fun j v e => h (j + 1) v (by simpa using e))
/-- list(a text) -/
theorem call_listS (hc : X.calm = true) : CallR X (.type "list") (fun xs H Q => ∃ z : Str, xs = [.str z] ∧ z.length ≤ sizeLine ∧ ∀ l, H l = none → Q (.ref l) (upd H l (.lst (sgV z)))) := by
  intro pins s σ H xs us Q I r h
  obtain ⟨z, rfl, hz, q⟩ := h
  obtain ⟨u, rfl, t, rfl⟩ := vals1 r
  refine PySem.call_list_str (I.ok.hd hc) z t (fun h' tk acc c' kp e ia => ?_) hz
  have hv : Vals (sgV z) acc.toList := vals_signs _ _ (by rw [Array.length_toList, Array.length_toList]; exact ia.1) fun j v e => by
    obtain ⟨c, u, h1, h2⟩ := ia.2 j v (by rw [← Array.getElem?_toList]; exact e)
    exact ⟨c, u, by rw [Array.getElem?_toList]; exact h1, h2⟩
  exact ⟨.ref s.heap.objs.size, _, I.laid (t' := tk) kp (Nat.le_refl _)
    (show ObjOk X.prog X.w _ h' _ (.lst (sgV z)) from ⟨by rw [sgV_len]; exact hz, acc.toList, c', hv, by rw [Array.toArray_toList]; exact e⟩), rfl, q _ (I.hok.fresh (Nat.le_refl _))⟩
end

/-! ### a comprehension over the signs of a text -/
theorem lc_str {x : Str} {g : TG} {tt : TT} {te : TE} {vs : List Nat} {σ : L2.St} {H1 : Hp} {D : Addr} {Qd : Hp → Prop} (Pv : Nat → Hp → Prop)
    (h0 : Pv 0 (upd H1 D (.lst [])))
    (hs : ∀ i c H, x.cps.toList[i]? = some c → Pv i H → g (.str ⟨#[c]⟩) (wipe σ vs) H fun σ2 H2 => wipe σ2 vs = wipe σ vs ∧ tt σ2 H2 fun b H3 =>
      if b = true then te σ2 H3 fun y H4 => ∃ acc, H4 D = some (.lst acc) ∧ acc.length < sizeLine ∧ Pv (i + 1) (upd H4 D (.lst (acc ++ [y])))
      else Pv (i + 1) H3)
    (hd : ∀ H, Pv x.cps.size H → Qd H) :
    ∃ W : Nat → Nat → Hp → Prop, (∃ m, W 0 m (upd H1 D (.lst []))) ∧ ∀ i m H, W i m H →
      ((Its x).stop i H ∧ Qd H) ∨ ((Its x).go i H ∧ ∃ Nx : Hp → Prop, (∀ H', Nx H' → ∃ m', m' < m ∧ W (i + 1) m' H') ∧
        ∀ v H', (Its x).yld i H v H' → g v (wipe σ vs) H' fun σ2 H2 => wipe σ2 vs = wipe σ vs ∧ tt σ2 H2 fun b H3 =>
          if b = true then te σ2 H3 fun y H4 => ∃ acc, H4 D = some (.lst acc) ∧ acc.length < sizeLine ∧ Nx (upd H4 D (.lst (acc ++ [y]))) else Nx H3) := by
  refine ⟨fun i m H => m = x.cps.size - i ∧ i ≤ x.cps.size ∧ Pv i H, ⟨x.cps.size, rfl, Nat.zero_le _, h0⟩, ?_⟩
  rintro i m H ⟨rfl, hi, p⟩
  by_cases hlt : i < x.cps.size
  · refine .inr ⟨hlt, Pv (i + 1), fun H' q => ⟨x.cps.size - (i + 1), by omega, rfl, by omega, q⟩, ?_⟩
    rintro v H' ⟨rfl, c, e, rfl⟩
    exact hs i c H' (by rw [Array.getElem?_toList]; exact e) p
  · have e : i = x.cps.size := by omega
    subst e
    exact .inl ⟨Nat.le_refl _, hd H p⟩

theorem sgV_get {z : Str} {j : Nat} {x : V} (h : (sgV z)[j]? = some x) : ∃ k, x = .str ⟨#[k]⟩ ∧ z.cps.toList[j]? = some k := by
  unfold sgV at h
  rw [List.getElem?_map] at h
  cases q : z.cps.toList[j]? with
  | none =>
    rw [q] at h
    cases h
  | some k =>
    rw [q] at h
    exact ⟨k, (Option.some.inj h).symm, rfl⟩
/-! ### what may be drawn from: a list, a tuple, a text -/
inductive Sq (K : PySem.W.Frag) (H : Hp) : V → List V → Prop
  | lst {a : Addr} {xs : List V} (h : SqL K H a xs) : Sq K H (.ref a) xs
  | tup {a : Addr} {xs : List V} (h : SqT K H a xs) : Sq K H (.ref a) xs
  | str {z : Str} (h : z.length ≤ sizeLine) : Sq K H (.str z) (sgV z)
theorem atI_lt {α : Type} {xs : List α} {i : Int} {n : Nat} (h0 : 0 ≤ i) (h1 : i < (n : Int)) (hn : n = xs.length) : ∃ v, atI xs i = some v ∧ xs[i.toNat]? = some v := by
  subst hn
  obtain ⟨k, rfl⟩ := Int.eq_ofNat_of_zero_le h0
  have h2 : k < xs.length := by omega
  exact ⟨xs[k], atI_nat (List.getElem?_eq_getElem h2), List.getElem?_eq_getElem h2⟩

/-- a def of the module, as it stands behind the top -/
structure DefAt (K : PySem.W.Frag) (mg : Str → Option Value) (x : Str) (ps : List Str) (st : Stmt) (f : Addr) (fd : FuncData) : Prop where
  fn : L2.Fun K x x st f fd
  mgf : mg x = some (.ref f)
  bs : L2.Binds K fd ps []
  kbs : ps ≠ [] → KBinds K fd ps ps gK gK


theorem def_mk {K : PySem.W.Frag} {mg : Str → Option Value} {h : Heap} {x : Str} {ps : List Str} {st : Stmt} {f : Addr} {oc : Value} {od an : Option Addr} {osl : Array (Option Value)}
    {kV doc pm cdv ct : Value} (X : K.In h) (G : h.Ns mainGlobals mg) (a : PySem.W.nsIn K mainGlobals x = some (some (.ref f)))
    (l : K.lookup f = some ⟨oc, od, .func (PySem.W.fnOf x x (defArgs st) (defBody st) (defScope st) .none kV doc pm an cdv ct), osl⟩)
    (c : PySem.W.codeIn K cdv x = true) (k : PySem.W.keepIn K (.ref f) = true)
    (hb : ∀ (kV doc pm : Value) (an : Option Addr) (cdv ct : Value) (us : List Value), us.length = ps.length →
      bindArgs (PySem.W.fnOf x x (defArgs st) (defBody st) (defScope st) .none kV doc pm an cdv ct) ⟨us, []⟩ = pure (ps.zip us))
    (hk : ps ≠ [] → ∀ (kV doc pm : Value) (an : Option Addr) (cdv ct : Value) (ws : List Value), ws.length = ps.length →
      bindArgs (PySem.W.fnOf x x (defArgs st) (defBody st) (defScope st) .none kV doc pm an cdv ct) ⟨[], ps.zip ws⟩ = pure (ps.zip ws)) :
    DefAt K mg x ps st f (PySem.W.fnOf x x (defArgs st) (defBody st) (defScope st) .none kV doc pm an cdv ct) := by
  have F := fun_mk (st := st) l c k
  exact ⟨F, PySem.W.mg_of X G a, F.binds hb, fun h0 => kb_all h0 fun ws hl => hk h0 kV doc pm an cdv ct ws hl⟩

theorem room200 {A : Around} {k : Nat} (hr : Room k A) : A.units + 200 < cLine := by
  have h := hr.un
  omega

/-! ### heaps -/
theorem same_new {H : Hp} {p : Addr} {o : HO} (h : H p = none) : Same H (upd H p o) := fun b x e => by
  rw [upd_ne (ne_of_none e h)]
  exact e
theorem same_mut {H H' : Hp} {p : Addr} {o : HO} (s : Same H H') (h : H p = none) : Same H (upd H' p o) := fun b x e => by
  rw [upd_ne (ne_of_none e h)]
  exact s b x e
/-- all but two is as it was -/
def But (d c : Addr) (H H' : Hp) : Prop := ∀ b o, b ≠ d → b ≠ c → H b = some o → H' b = some o
theorem But.refl (d c : Addr) (H : Hp) : But d c H H := fun _ _ _ _ e => e
theorem But.trans {d c : Addr} {H H1 H2 : Hp} (a : But d c H H1) (b : But d c H1 H2) : But d c H H2 := fun x o h1 h2 e => b x o h1 h2 (a x o h1 h2 e)
theorem But.same {d c : Addr} {H H1 H2 : Hp} (a : But d c H H1) (b : Same H1 H2) : But d c H H2 := fun x o h1 h2 e => b x o (a x o h1 h2 e)
theorem But.of {d c : Addr} {H H1 : Hp} (b : Same H H1) : But d c H H1 := fun x o _ _ e => b x o e
theorem But.mut {d c p : Addr} {o : HO} {H H1 : Hp} (a : But d c H H1) (h : H p = none) : But d c H (upd H1 p o) := fun x u h1 h2 e => by
  rw [upd_ne (ne_of_none e h)]
  exact a x u h1 h2 e
theorem But.sql {K : PySem.W.Frag} {d c a : Addr} {H H1 : Hp} {xs : List V} (h : But d c H H1) (h1 : a ≠ d) (h2 : a ≠ c) (e : SqL K H a xs) : SqL K H1 a xs := by
  rcases e with (e | ⟨o, e⟩) | e
  · exact .inl (.inl (h _ _ h1 h2 e))
  · exact .inl (.inr ⟨o, h _ _ h1 h2 e⟩)
  · exact .inr e
theorem But.sqt {K : PySem.W.Frag} {d c a : Addr} {H H1 : Hp} {xs : List V} (h : But d c H H1) (h1 : a ≠ d) (h2 : a ≠ c) (e : SqT K H a xs) : SqT K H1 a xs := by
  rcases e with (e | ⟨o, e⟩) | e
  · exact .inl (.inl (h _ _ h1 h2 e))
  · exact .inl (.inr ⟨o, h _ _ h1 h2 e⟩)
  · exact .inr e
theorem But.sq {K : PySem.W.Frag} {d c : Addr} {H H1 : Hp} {v : V} {xs : List V} (h : But d c H H1) (h1 : v ≠ .ref d) (h2 : v ≠ .ref c) (e : Sq K H v xs) : Sq K H1 v xs := by
  cases e with
  | lst e => exact .lst (h.sql (fun z => h1 (by rw [z])) (fun z => h2 (by rw [z])) e)
  | tup e => exact .tup (h.sqt (fun z => h1 (by rw [z])) (fun z => h2 (by rw [z])) e)
  | str e => exact .str e
theorem Sq.lenV {K : PySem.W.Frag} {H : Hp} {v : V} {xs : List V} (h : Sq K H v xs) : LenV K v H xs.length := by
  cases h with
  | lst e => exact .inl ⟨_, e, rfl⟩
  | tup e => exact .inr ⟨_, e, rfl⟩
  | str e => exact ⟨e, sgV_len _⟩
/-- an item of it -/
theorem Sq.item {K : PySem.W.Frag} {H : Hp} {v y : V} {xs : List V} {i : Int} {Q : VK} (h : Sq K H v xs) (e : atI xs i = some y) (q : Q y H) : rIx K v (.int i) H Q := by
  cases h with
  | lst h => exact .inl ⟨_, _, _, _, rfl, rfl, h, e, q⟩
  | tup h => exact .inr (.inl ⟨_, _, _, _, rfl, rfl, h, e, q⟩)
  | @str z hz =>
    have e2 : (ixN (sgV z).length i).bind (fun j => (sgV z)[j]?) = some y := e
    have e3 : ∃ c, atI z.cps.toList i = some c ∧ y = .str ⟨#[c]⟩ := by
      unfold sgV at e2
      rw [List.length_map] at e2
      show ∃ c, (ixN z.cps.toList.length i).bind (fun j => z.cps.toList[j]?) = some c ∧ _
      cases q : ixN z.cps.toList.length i with
      | none =>
        rw [q] at e2
        cases e2
      | some j =>
        rw [q] at e2
        have e4 : (z.cps.toList.map fun c => V.str ⟨#[c]⟩)[j]? = some y := e2
        rw [List.getElem?_map] at e4
        show ∃ c, z.cps.toList[j]? = some c ∧ _
        cases q2 : z.cps.toList[j]? with
        | none =>
          rw [q2] at e4
          cases e4
        | some c =>
          rw [q2] at e4
          exact ⟨c, rfl, (Option.some.inj e4).symm⟩
    obtain ⟨c, h1, rfl⟩ := e3
    exact .inr (.inr ⟨z, i, c, rfl, rfl, hz, h1, q⟩)
end Kit

/-! methods over promises of the quiet kind; data made of tuples -/
namespace Kit
open PySem PySem.Spec PyProof.Rows L2
section
variable {X : Cx} {CX : CXT} {k j : Nat} {C : Addr} {m : Str} {ps : List Str} {sp : Sp} {E : XK} {o e : Expr} {es : List Expr} {ta : TE} {t : TA} {pos apos : Pos}
/-- a method of the class at C -/
structure Met (P : Program) (w : World) (K : PySem.W.Frag) (mg : Str → Option Value) (base : Heap) (CX : CXT) (k : Nat) (C : Addr) (m : Str) (ps : List Str) (sp : Sp) : Prop where
  cl : Cls K C
  ex : ∃ (f : Addr) (fd : FuncData), Meth K C m f ∧ FnG P w K mg base CX k f fd ps sp ∧ Binds K fd ps []
theorem pe_m {pl : Sem Bool} (c : Met X.prog X.w X.K X.mg X.base CX k C m ps sp) (hx : Passes CX X E) (hq : Qt X.A) (hr : Room j X.A) (hk : k ≤ j)
    (he : PE X o ta) (ha : PA X (e :: es) t)
    (hst : starEach (e :: es) X.env = (false, eval e X.env) :: starEach es X.env := by rfl)
    (hpl : (backTo pos (starEach es X.env)).any (·.1) = false := by rfl)
    (ht : eval (.Call (.Attribute o m apos) (e :: es) [] pos) X.env = (eval o X.env >>= fun ov => standAt apos.atName >>= fun _ =>
      holding [ov] (getMethod ov m pl) >>= fun q =>
        callWith pos q.1 q.2 (backTo pos (starEach (e :: es) X.env)) (backToKw pos (keywordEach [] X.env))) := by rfl) :
    PE X (.Call (.Attribute o m apos) (e :: es) [] pos) (tMeth C m sp [] E ta t) := by
  obtain ⟨f, fd, hm, F, hb⟩ := c.ex
  constructor
  intro pins s σ H Q I h
  refine PySem.W.methodCall_KW (pl := pl) (thn (he.run pins s σ H _ I h) ?_) ht
  rintro u s1 ⟨x, H1, I1, rx, a, dx, fs, rfl, ea, l, q⟩
  obtain rfl : u = Value.ref a := rx
  refine getmeth_ok I1 ea c.cl hm l ?_
  refine PySem.W.callWith_K (first := [.ref a]) (h₀ := X.base) I.ok.mod.kin hm.kp (thn (ha.run pos pins s1 σ H1 _ I1 q) ?_) hst hpl
  rintro us s2 ⟨vs, H2, I2, r, q2⟩
  rw [List.append_nil] at q2
  exact ⟨I2.kIn, run_fnG (ks := []) (ws := []) (us := .ref a :: us) (vs := .ref a :: vs) F hq (hr.mono hk) (kb_of hb) hx I2 (.cons rfl r) .nil q2⟩
theorem pe_m0 {pl : Sem Bool} (c : Met X.prog X.w X.K X.mg X.base CX k C m ps sp) (hx : Passes CX X E) (hq : Qt X.A) (hr : Room j X.A) (hk : k ≤ j)
    (he : PE X o ta)
    (ht : eval (.Call (.Attribute o m apos) [] [] pos) X.env = (eval o X.env >>= fun ov => standAt apos.atName >>= fun _ =>
      holding [ov] (getMethod ov m pl) >>= fun q =>
        callWith pos q.1 q.2 (backTo pos (starEach [] X.env)) (backToKw pos (keywordEach [] X.env))) := by rfl) :
    PE X (.Call (.Attribute o m apos) [] [] pos) (tMeth C m sp [] E ta tNil) := by
  obtain ⟨f, fd, hm, F, hb⟩ := c.ex
  constructor
  intro pins s σ H Q I h
  refine PySem.W.methodCall_KW (pl := pl) (thn (he.run pins s σ H _ I h) ?_) ht
  rintro u s1 ⟨x, H1, I1, rx, a, dx, fs, rfl, ea, l, q⟩
  obtain rfl : u = Value.ref a := rx
  refine getmeth_ok I1 ea c.cl hm l ?_
  exact PySem.W.callWith_K0 (first := [.ref a]) I1.kIn hm.kp (run_fnG (ks := []) (ws := []) (us := [.ref a]) (vs := [.ref a]) F hq (hr.mono hk) (kb_of hb) hx I1 (.cons rfl .nil) .nil q)
end
end Kit

/-! max of a list whose items lie in the heap (pairs of whole numbers), and max with a default -/
namespace PySem
namespace Mx
open PySem.W PyProof.Rows
/-- all but the iterator and the list of the best stands as it stood -/
def Kp (I S : Addr) (h0 h : Heap) : Prop := ∀ b o, b ≠ I → b ≠ S → h0.get? b = some o → h.get? b = some o
theorem Kp.refl (I S : Addr) (h : Heap) : Kp I S h h := fun _ _ _ _ e => e
theorem Kp.list {I S l : Addr} {h0 h : Heap} {its : Array Value} (k : Kp I S h0 h) (n1 : l ≠ I) (n2 : l ≠ S) (e : h0.IsList l its) : h.IsList l its := e.at fun o q => k l o n1 n2 q
section
variable {prog : Program} {w : World} {A : Around} {R : Result → Shared → Prop} {I S l : Addr} {its : Array Value} {bt : Nat → Nat → Bool} {kws : List (Str × Value)} {h0 : Heap}
def CmpIn (prog : Program) (w : World) (A : Around) (I S : Addr) (h0 : Heap) (its : Array Value) (bt : Nat → Nat → Bool) : Prop :=
  ∀ (i j : Nat) (u v : Value) (s : Shared) (Q : Value → Shared → Prop) (E : Value → Shared → Prop), Kp I S h0 s.heap → its[i]? = some u → its[j]? = some v → Q (.bool (bt i j)) s → wpAny (model prog w) A (richCompare .Gt u v) Q E s
theorem loop (hh : A.in1.handled = none) (n1 : l ≠ I) (n2 : l ≠ S) (n3 : S ≠ I) (hl : h0.IsList l its) (hc : CmpIn prog w A.in1 I S h0 its bt) :
    ∀ (k j : Nat) (s : Shared) (vb : Value) (c : Nat), its.size - (j + 1) = k → j + 1 ≤ its.size → s.heap.IsListIter I l (j + 1) → Kp I S h0 s.heap → its[argBest bt j]? = some vb →
      s.heap.get? S = some { cls := .type "list", dict := none, data := .seq #[vb, vb] c, slots := #[] } →
      (∀ v h' tk, its[argBest bt (its.size - 1)]? = some v → Kp I S h0 h' → R (.ok (.ret v)) { s with heap := h', toks := tk }) →
      codeAny (model prog w) A (.builtin "max.loop" ⟨[.ref I, .none, .ref S], kws⟩) R s := by
  have W := Walks.list (prog := prog) (w := w) (A := A.in1) hh I l n1 its
  have nm : (toString "max" ++ toString ".loop" : String) = "max.loop" := by decide
  have SnI : S ∉ [I] := by simp [n3]
  intro k
  induction k with
  | zero =>
    intro j s vb c hk hj it kp pb hS hR
    have e : j + 1 = its.size := by omega
    apply codeAny_builtin F.entry_max_loop
    rw [Around.under_plainId F.plain_max_loop _]
    change wpAny _ A.in1 (seqItems? (.ref S) >>= _) _ _ s
    refine wpAny_bind (wpAny_seqItems hS rfl ?_)
    change wpAny _ A.in1 (tryCatch (pyNext (.ref I)) _ >>= _) _ _ s
    refine wpAny_bind (wpAny_tryCatch (W.done s _ _ (e ▸ ⟨it, kp.list n1 n2 hl⟩) fun h' tk kk => ?_))
    change wpAny _ A.in1 (updateSeq S (fun _ => #[]) >>= _) _ _ _
    refine wpAny_bind (wpAny_updateSeq (kk S _ SnI hS) rfl (wpAny_bind (wpAny_letGo (wpAny_pure (hR vb _ tk (by rw [← e]; exact pb) ?_)))))
    intro b o h1 h2 q
    exact (Heap.get?_update_other _ _ (Ne.symm h2)).trans (kk b o (by simp [h1]) (kp b o h1 h2 q))
  | succ k ih =>
    intro j s vb c hk hj it kp pb hS hR
    have lt : j + 1 < its.size := by omega
    apply codeAny_builtin F.entry_max_loop
    rw [Around.under_plainId F.plain_max_loop _]
    change wpAny _ A.in1 (seqItems? (.ref S) >>= _) _ _ s
    refine wpAny_bind (wpAny_seqItems hS rfl ?_)
    change wpAny _ A.in1 (tryCatch (pyNext (.ref I)) _ >>= _) _ _ s
    refine wpAny_bind (wpAny_tryCatch (W.item (j + 1) s _ _ lt ⟨it, kp.list n1 n2 hl⟩ fun v h' tk pv st kk => ?_))
    have hS' := kk S _ SnI hS
    have kp' : Kp I S h0 h' := fun b o h1 h2 q => kk b o (by simp [h1]) (kp b o h1 h2 q)
    change wpAny _ A.in1 (tryCatch (holding [v, v] (richCompare .Gt v vb >>= _)) _ >>= _) _ _ _
    refine wpAny_bind (wpAny_tryCatch (wpAny_holding (wpAny_bind (hc (j + 1) (argBest bt j) v vb _ _ _ kp' pv pb ?_))))
    refine wpAny_bind (wpAny_holding (wpAny_truthy_bool (wpAny_bind (wpAny_letGo (wpAny_pure ?_)))))
    cases hb : bt (j + 1) (argBest bt j) with
    | true =>
      simp only [if_true]
      refine wpAny_bind (wpAny_updateSeq hS' rfl (wpAny_bind (wpAny_letGo ?_)))
      rw [nm]
      refine wpAny_pure ⟨plainId_quiet F.plain_max_loop _, ih (j + 1) _ v _ (by omega) lt ?_ ?_ ?_ (Heap.get?_update_self _ hS' rfl) fun v' h2 tk2 p2 k2 => hR v' h2 tk2 p2 k2⟩
      · exact st.1.at fun o q => (Heap.get?_update_other _ _ n3).trans q
      · exact fun b o h1 h2 q => (Heap.get?_update_other _ _ (Ne.symm h2)).trans (kp' b o h1 h2 q)
      · simp only [argBest, hb, if_true]
        exact pv
    | false =>
      simp only [Bool.false_eq_true, if_false]
      refine wpAny_bind (wpAny_letGo ?_)
      rw [nm]
      refine wpAny_pure ⟨plainId_quiet F.plain_max_loop _, ih (j + 1) _ vb c (by omega) lt st.1 kp' ?_ hS' fun v' h2 tk2 p2 k2 => hR v' h2 tk2 p2 k2⟩
      simp only [argBest, hb, Bool.false_eq_true, if_false]
      exact pb
theorem first (hh : A.in1.handled = none) (n1 : l ≠ I) (n2 : l ≠ S) (n3 : S ≠ I) (hl : h0.IsList l its) (hc : CmpIn prog w A.in1 I S h0 its bt) {s : Shared} {c : Nat} (h1 : 0 < its.size)
    (it : s.heap.IsListIter I l 0) (kp : Kp I S h0 s.heap) (hS : s.heap.get? S = some { cls := .type "list", dict := none, data := .seq #[] c, slots := #[] })
    (hR : ∀ v h' tk, its[argBest bt (its.size - 1)]? = some v → Kp I S h0 h' → R (.ok (.ret v)) { s with heap := h', toks := tk }) :
    codeAny (model prog w) A (.builtin "max.loop" ⟨[.ref I, .none, .ref S], kws⟩) R s := by
  have W := Walks.list (prog := prog) (w := w) (A := A.in1) hh I l n1 its
  have nm : (toString "max" ++ toString ".loop" : String) = "max.loop" := by decide
  have SnI : S ∉ [I] := by simp [n3]
  apply codeAny_builtin F.entry_max_loop
  rw [Around.under_plainId F.plain_max_loop _]
  change wpAny _ A.in1 (seqItems? (.ref S) >>= _) _ _ s
  refine wpAny_bind (wpAny_seqItems hS rfl ?_)
  change wpAny _ A.in1 (tryCatch (pyNext (.ref I)) _ >>= _) _ _ s
  refine wpAny_bind (wpAny_tryCatch (W.item 0 s _ _ h1 ⟨it, kp.list n1 n2 hl⟩ fun v h' tk pv st kk => ?_))
  have hS' := kk S _ SnI hS
  have kp' : Kp I S h0 h' := fun b o h1 h2 q => kk b o (by simp [h1]) (kp b o h1 h2 q)
  change wpAny _ A.in1 (updateSeq S (fun _ => #[v, v]) >>= _) _ _ _
  refine wpAny_bind (wpAny_updateSeq hS' rfl ?_)
  rw [nm]
  refine wpAny_pure ⟨plainId_quiet F.plain_max_loop _, loop hh n1 n2 n3 hl hc _ 0 _ v _ rfl h1 ?_ ?_ pv (Heap.get?_update_self _ hS' rfl) fun v' h2 tk2 p2 k2 => hR v' h2 tk2 p2 k2⟩
  · exact st.1.at fun o q => (Heap.get?_update_other _ _ n3).trans q
  · exact fun b o h1 h2 q => (Heap.get?_update_other _ _ (Ne.symm h2)).trans (kp' b o h1 h2 q)
/-- of nothing: the default -/
theorem none_at (hh : A.in1.handled = none) (n1 : l ≠ I) (hl : h0.IsList l #[]) {s : Shared} {c : Nat} {d : Value} (n2 : l ≠ S) (n3 : S ≠ I)
    (it : s.heap.IsListIter I l 0) (kp : Kp I S h0 s.heap) (hS : s.heap.get? S = some { cls := .type "list", dict := none, data := .seq #[] c, slots := #[] })
    (hR : ∀ h' tk, Kp I S h0 h' → R (.ok (.ret d)) { s with heap := h', toks := tk }) :
    codeAny (model prog w) A (.builtin "max.loop" ⟨[.ref I, .none, .ref S], [("default", d)]⟩) R s := by
  have W := Walks.list (prog := prog) (w := w) (A := A.in1) hh I l n1 #[]
  apply codeAny_builtin F.entry_max_loop
  rw [Around.under_plainId F.plain_max_loop _]
  change wpAny _ A.in1 (seqItems? (.ref S) >>= _) _ _ s
  refine wpAny_bind (wpAny_seqItems hS rfl ?_)
  change wpAny _ A.in1 (tryCatch (pyNext (.ref I)) _ >>= _) _ _ s
  refine wpAny_bind (wpAny_tryCatch (W.done s _ _ ⟨it, kp.list n1 n2 hl⟩ fun h' tk kk => ?_))
  have kp' : Kp I S h0 h' := fun b o h1 h2 q => kk b o (by simp [h1]) (kp b o h1 h2 q)
  wp_walk
  exact hR h' tk kp'
end
section
variable {prog : Program} {w : World} {A : Around} {E : Value → Shared → Prop} {s : Shared} {l : Addr} {its : Array Value} {bt : Nat → Nat → Bool} {kws : List (Str × Value)} {df : Option Value} {Q : Value → Shared → Prop}
theorem to_loop (ha : argsOk "max" ⟨[.ref l], kws⟩) (hb : Builtin.Builtins.bindParams "max" ["key", "default"] 0 ⟨[], kws⟩ = pure [none, df]) (hk : df.toList.map (fun d => (("default" : Str), d)) = kws) (hl : s.heap.IsList l its)
    (h : ∀ (s2 : Shared) (I S : Addr), s2.gens = s.gens → s2.drawn = s.drawn → s2.os = s.os → l ≠ I → l ≠ S → S ≠ I → (∀ b o, s.heap.get? b = some o → b ≠ I ∧ b ≠ S) → s2.heap.IsListIter I l 0 → Kp I S s.heap s2.heap →
      s2.heap.get? S = some { cls := .type "list", dict := none, data := .seq #[] 0, slots := #[] } →
      codeAny (model prog w) A (.builtin "max.loop" ⟨[.ref I, .none, .ref S], kws⟩) (fun r s' => match r with | .ok (.ret v) => Q v s' | .ok _ => False | .error e => E e s') s2) :
    wpAny (model prog w) A (call (.builtin "max") [.ref l] kws) Q E s := by
  have nm : (toString "max" ++ toString ".loop" : String) = "max.loop" := by decide
  have ll : l < s.heap.objs.size := by
    obtain ⟨_, e, _⟩ := hl
    exact Heap.lt_size e
  refine wpAny_call (codeAny_call_builtin F.plain_max F.entry_max ?_)
  simp only [checkBuiltinCall, F.kind_max]
  have fin : wpAny (model prog w) A.in1 (Builtin.«max» ⟨[.ref l], kws⟩) (fun fin s' => match fin with
      | .done f => (match (Except.ok f : Result) with | .ok (.ret v) => Q v s' | .ok _ => False | .error e => E e s')
      | .again c' => c'.quiet = true ∧ codeAny (model prog w) A c' (fun r s' => match r with | .ok (.ret v) => Q v s' | .ok _ => False | .error e => E e s') s') E s := by
    change wpAny _ A.in1 (Builtin.Builtins.bindParams "max" ["key", "default"] 0 ⟨[], kws⟩ >>= _) _ _ s
    refine wpAny_bind (wpAny_of_eq hb ?_)
    refine wpAny_bind (wpAny_pure ?_)
    refine wpAny_bind (wpAny_pyIter_list hl ?_)
    refine wpAny_bind (wpAny_newObj_type ?_)
    rw [nm, hk]
    refine wpAny_pure ⟨plainId_quiet F.plain_max_loop _, h _ s.heap.objs.size _ rfl rfl rfl (Nat.ne_of_lt ll) ?_ ?_ ?_ ?_ ?_ (Heap.get?_push_size _ rfl)⟩
    · rw [Heap.size_push]
      exact Nat.ne_of_lt (Nat.lt_succ_of_lt ll)
    · rw [Heap.size_push]
      exact Nat.succ_ne_self _
    · intro b o e
      rw [Heap.size_push]
      exact ⟨Nat.ne_of_lt (Heap.lt_size e), Nat.ne_of_lt (Nat.lt_succ_of_lt (Heap.lt_size e))⟩
    · exact ⟨_, Heap.get?_push_of_some _ (Heap.get?_push_size _ rfl), rfl, rfl⟩
    · exact fun b o _ _ e => Heap.get?_push_of_some _ (Heap.get?_push_of_some _ e)
  cases hsig : Manifest.signature? "max" with
  | none => exact wpAny_pure fin
  | some sig =>
    simp only [argsOk, hsig] at ha
    have h2 : Bind.checkArgs "max" sig ⟨[.ref l], kws⟩ = pure () := ha
    change wpAny _ A.in1 (Bind.checkArgs "max" sig ⟨[.ref l], kws⟩) _ _ s
    rw [h2]
    exact wpAny_pure fin
theorem kept_all {I S : Addr} {h h' : Heap} (f : ∀ b o, h.get? b = some o → b ≠ I ∧ b ≠ S) (k : Kp I S h h') : ∀ b o, h.get? b = some o → h'.get? b = some o := fun b o e => k b o (f b o e).1 (f b o e).2 e
theorem args_def (a d : Value) : argsOk "max" ⟨[a], [("default", d)]⟩ := by
  unfold argsOk
  kernel_rfl
theorem bind_def (d : Value) : Builtin.Builtins.bindParams "max" ["key", "default"] 0 ⟨[], [("default", d)]⟩ = pure [none, some d] := by kernel_rfl
theorem bind_0 : Builtin.Builtins.bindParams "max" ["key", "default"] 0 ⟨[], []⟩ = pure [none, none] := by kernel_rfl
end
end Mx
end PySem
namespace L2
open PySem PySem.Spec PyProof.Rows Kit
/-- pairs of whole numbers, one above the other -/
def pgt (p q : Int × Int) : Bool := decide (q.1 < p.1) || (decide (p.1 = q.1) && decide (q.2 < p.2))
theorem pgt_tr {p q r : Int × Int} (h1 : pgt p q = false) (h2 : pgt q r = false) : pgt p r = false := by
  obtain ⟨a, b⟩ := p
  obtain ⟨c, d⟩ := q
  obtain ⟨e, f⟩ := r
  simp only [pgt, Bool.or_eq_false_iff, Bool.and_eq_false_iff, decide_eq_false_iff_not] at *
  omega
theorem pgt_as {p q : Int × Int} (h : pgt p q = true) : pgt q p = false := by
  obtain ⟨a, b⟩ := p
  obtain ⟨c, d⟩ := q
  simp only [pgt, Bool.or_eq_false_iff, Bool.and_eq_false_iff, decide_eq_false_iff_not, Bool.or_eq_true, Bool.and_eq_true, decide_eq_true_eq] at *
  omega
theorem pgt_ir (p : Int × Int) : pgt p p = false := by
  obtain ⟨a, b⟩ := p
  simp [pgt]
theorem best_of (f : Nat → Int × Int) : ∀ k, argBest (fun i j => pgt (f i) (f j)) k ≤ k ∧ ∀ i, i ≤ k → pgt (f i) (f (argBest (fun i j => pgt (f i) (f j)) k)) = false
  | 0 => ⟨Nat.le_refl _, fun i hi => by
    have e : i = 0 := by omega
    subst e
    exact pgt_ir _⟩
  | k + 1 => by
    obtain ⟨h1, h2⟩ := best_of f k
    rw [show argBest (fun i j => pgt (f i) (f j)) (k + 1) = if pgt (f (k + 1)) (f (argBest (fun i j => pgt (f i) (f j)) k)) = true then k + 1 else argBest (fun i j => pgt (f i) (f j)) k from rfl]
    cases hb : pgt (f (k + 1)) (f (argBest (fun i j => pgt (f i) (f j)) k)) with
    | true =>
      rw [if_pos rfl]
      refine ⟨Nat.le_refl _, fun i hi => ?_⟩
      rcases Nat.lt_or_ge k i with h | h
      · have e : i = k + 1 := by omega
        subst e
        exact pgt_ir _
      · exact pgt_tr (h2 i h) (pgt_as hb)
    | false =>
      rw [if_neg Bool.false_ne_true]
      refine ⟨Nat.le_succ_of_le h1, fun i hi => ?_⟩
      rcases Nat.lt_or_ge k i with h | h
      · have e : i = k + 1 := by omega
        subst e
        exact hb
      · exact h2 i h
theorem best_int (f : Nat → Int) : ∀ k, argBest (fun i j => decide (f i > f j)) k ≤ k ∧ ∀ i, i ≤ k → f i ≤ f (argBest (fun i j => decide (f i > f j)) k)
  | 0 => ⟨Nat.le_refl _, fun i hi => by
    have e : i = 0 := by omega
    subst e
    exact Int.le_refl _⟩
  | k + 1 => by
    obtain ⟨h1, h2⟩ := best_int f k
    rw [show argBest (fun i j => decide (f i > f j)) (k + 1) = if decide (f (k + 1) > f (argBest (fun i j => decide (f i > f j)) k)) = true then k + 1 else argBest (fun i j => decide (f i > f j)) k from rfl]
    by_cases hb : f (k + 1) > f (argBest (fun i j => decide (f i > f j)) k)
    · rw [if_pos (decide_eq_true hb)]
      refine ⟨Nat.le_refl _, fun i hi => ?_⟩
      rcases Nat.lt_or_ge k i with h | h
      · have e : i = k + 1 := by omega
        subst e
        exact Int.le_refl _
      · have := h2 i h
        omega
    · rw [if_neg (by rw [decide_eq_false hb]; exact Bool.false_ne_true)]
      refine ⟨Nat.le_succ_of_le h1, fun i hi => ?_⟩
      rcases Nat.lt_or_ge k i with h | h
      · have e : i = k + 1 := by omega
        subst e
        omega
      · exact h2 i h
section
variable {X : Cx}
theorem cmp_pair {A : Around} {s : Shared} {a b : Addr} {p q : Int × Int} {t1 t2 t3 t4 : Tok} (ha : s.heap.IsTuple a #[.int p.1 t1, .int p.2 t2]) (hb : s.heap.IsTuple b #[.int q.1 t3, .int q.2 t4]) (hu : A.units < cLine) :
    Ob.RcOp .Gt A s (.ref a) (.ref b) (pgt p q) := by
  have h := Ob.RcOp.tuples_gt (A := A) (e := fun j => if j = 0 then p.1 == q.1 else p.2 == q.2) (r := fun j => if j = 0 then decide (q.1 < p.1) else decide (q.2 < p.2)) ha hb hu ?_ ?_
  · have e : Ob.lexAt (fun j => if j = 0 then p.1 == q.1 else p.2 == q.2) (fun j => if j = 0 then decide (q.1 < p.1) else decide (q.2 < p.2)) (decide ((#[Value.int p.1 t1, .int p.2 t2] : Array Value).size > (#[Value.int q.1 t3, .int q.2 t4] : Array Value).size)) 0
        (min (#[Value.int p.1 t1, .int p.2 t2] : Array Value).size (#[Value.int q.1 t3, .int q.2 t4] : Array Value).size) = pgt p q := by
      change (if (p.1 == q.1) = true then (if (p.2 == q.2) = true then decide (2 > 2) else decide (q.2 < p.2)) else decide (q.1 < p.1)) = pgt p q
      unfold pgt
      by_cases h1 : p.1 = q.1
      · by_cases h2 : p.2 = q.2
        · simp [h1, h2]
        · simp [h1, h2]
      · simp [h1]
    rw [e] at h
    exact h
  · intro j h1 h2
    match j, h1, h2 with
    | 0, _, _ => exact SeqAt.EqAt.int_int _ _ _ _
    | 1, _, _ => exact SeqAt.EqAt.int_int _ _ _ _
  · intro j h1 h2 _
    match j, h1, h2 with
    | 0, _, _ => exact Ob.RcOp.gt_int _ _ _ _
    | 1, _, _ => exact Ob.RcOp.gt_int _ _ _ _
/-- max of a list of pairs -/
def rMaxP (K : PySem.W.Frag) : List V → Hp → VK → Prop := fun vs H Q => ∃ (a : Addr) (rs : List Addr) (ps : List (Int × Int)), vs = [.ref a] ∧ SqL K H a (rs.map V.ref) ∧ rs.length = ps.length ∧ 0 < ps.length ∧
  (∀ (i : Nat) (r : Addr) (p : Int × Int), rs[i]? = some r → ps[i]? = some p → SqT K H r [.int p.1, .int p.2]) ∧
  ∀ (i : Nat) (r : Addr) (p : Int × Int), rs[i]? = some r → ps[i]? = some p → (∀ q ∈ ps, pgt q p = false) → Q (.ref r) H
theorem call_maxP (hc : X.calm = true) (hu : X.A.units + 64 < cLine) : CallR X (.builtin "max") (rMaxP X.K) := by
  intro pins s σ H vs us Q I r h
  obtain ⟨a, rs, ps, rfl, hs, hl, h0, ht, q⟩ := h
  obtain ⟨its, rv, pl, _⟩ := I.list hs
  rw [Vals.ref1 r]
  have li := pl.isList
  have hn : its.toArray.size = ps.length := by
    have e1 := Paired.length rv
    rw [List.length_map, hl] at e1
    have e2 : its.toArray.size = its.length := List.size_toArray
    omega
  have at_ : ∀ (i : Nat) (v : Value), its.toArray[i]? = some v → ∃ (r : Addr) (p : Int × Int) (t1 t2 : Tok), rs[i]? = some r ∧ ps[i]? = some p ∧ v = .ref r ∧ s.heap.IsTuple r #[.int p.1 t1, .int p.2 t2] := by
    intro i v hv
    have hi : i < ps.length := by
      rw [← hn]
      exact (Array.getElem?_eq_some_iff.mp hv).1
    obtain ⟨r, e1⟩ : ∃ r, rs[i]? = some r := ⟨rs[i]'(by omega), List.getElem?_eq_getElem _⟩
    obtain ⟨p, e2⟩ : ∃ p, ps[i]? = some p := ⟨ps[i]'hi, List.getElem?_eq_getElem _⟩
    have e0 : (rs.map V.ref)[i]? = some (.ref r) := by
      rw [List.getElem?_map, e1]
      rfl
    obtain ⟨u, hu', ru⟩ := rv.get e0
    have hv' : its[i]? = some v := by
      rw [← hv]
      simp
    rw [hv'] at hu'
    have e4 : v = u := Option.some.inj hu'
    have e3 : u = .ref r := ru
    obtain ⟨ts, rt, tt, _⟩ := I.tuple (ht i r p e1 e2)
    cases rt with
    | cons r1 rt =>
      cases rt with
      | cons r2 rt =>
        cases rt
        obtain ⟨t1, rfl⟩ := r1
        obtain ⟨t2, rfl⟩ := r2
        exact ⟨r, p, t1, t2, e1, e2, e4.trans e3, tt⟩
  refine PySem.Mx.to_loop (kws := []) (df := none) (F.args_max1 _) PySem.Mx.bind_0 rfl li fun s2 Ia Sa g1 g2 g3 n1 n2 n3 fr it kp hS => ?_
  have hh : X.A.in1.handled = none := I.ok.hd hc
  refine PySem.Mx.first (bt := fun i j => pgt (ps.getD i (0, 0)) (ps.getD j (0, 0))) hh n1 n2 n3 li ?_ (by omega) it kp hS ?_
  · intro i j u v s' Q' E' k' hi hj hq
    obtain ⟨r1, p1, t1, t2, _, e2, rfl, tu⟩ := at_ i u hi
    obtain ⟨r2, p2, t3, t4, _, f2, rfl, tv⟩ := at_ j v hj
    have x1 : ps.getD i (0, 0) = p1 := by rw [List.getD_eq_getElem?_getD, e2]; rfl
    have x2 : ps.getD j (0, 0) = p2 := by rw [List.getD_eq_getElem?_getD, f2]; rfl
    have kk := PySem.Mx.kept_all fr k'
    dsimp only at hq
    rw [x1, x2] at hq
    exact cmp_pair (tu.at fun o q => kk _ o q) (tv.at fun o q => kk _ o q) (by show X.A.units + 1 < cLine; omega) _ _ _ _ hq
  · intro v h' tk pv kp'
    obtain ⟨r1, p1, t1, t2, e1, e2, rfl, _⟩ := at_ _ v pv
    have kk := PySem.Mx.kept_all fr kp'
    have bst := best_of (fun i => ps.getD i (0, 0)) (its.toArray.size - 1)
    have eq2 : s2 = { s with heap := s2.heap, toks := s2.toks } := by
      cases s2
      cases s
      simp only at g1 g2 g3
      subst g1 g2 g3
      rfl
    refine ⟨.ref r1, H, ?_, rfl, q _ r1 p1 e1 e2 fun p hp => ?_⟩
    · rw [eq2]
      exact I.kept (t' := tk) kk
    · obtain ⟨j, hj⟩ := List.mem_iff_getElem?.mp hp
      have hj' : j < ps.length := (List.getElem?_eq_some_iff.mp hj).1
      have z := bst.2 j (by omega)
      have x1 : ps.getD j (0, 0) = p := by rw [List.getD_eq_getElem?_getD, hj]; rfl
      have x2 : ps.getD (argBest (fun i j => pgt (ps.getD i (0, 0)) (ps.getD j (0, 0))) (its.toArray.size - 1)) (0, 0) = p1 := by rw [List.getD_eq_getElem?_getD, e2]; rfl
      rw [x1, x2] at z
      exact z
/-- max of a list of whole numbers, or what is told where there is none -/
def rMaxDf (K : PySem.W.Frag) : List V → List V → Hp → VK → Prop := fun vs zs H Q => ∃ (a : Addr) (ns : List Int) (d : V), vs = [.ref a] ∧ zs = [d] ∧ SqL K H a (ns.map V.int) ∧
  (ns = [] → Q d H) ∧ ∀ m, m ∈ ns → (∀ y, y ∈ ns → y ≤ m) → Q (.int m) H
theorem call_maxDf (hc : X.calm = true) : CallRK X (.builtin "max") [("default" : Str)] (rMaxDf X.K) := by
  intro pins s σ H vs zs us ws Q I r rz h
  obtain ⟨a, ns, d, rfl, rfl, hs, qn, q⟩ := h
  obtain ⟨its, rv, pl, _⟩ := I.list hs
  rw [Vals.ref1 r]
  obtain ⟨dv, rfl, rd⟩ := rz.one
  have li := pl.isList
  refine PySem.Mx.to_loop (kws := [("default", dv)]) (df := some dv) (PySem.Mx.args_def _ _) (PySem.Mx.bind_def _) rfl li fun s2 Ia Sa g1 g2 g3 n1 n2 n3 fr it kp hS => ?_
  have hh : X.A.in1.handled = none := I.ok.hd hc
  have eq2 : s2 = { s with heap := s2.heap, toks := s2.toks } := by
    cases s2
    cases s
    simp only at g1 g2 g3
    subst g1 g2 g3
    rfl
  have at_ : ∀ (i : Nat) (v : Value), its.toArray[i]? = some v → ∃ (k : Int) (t : Tok), ns[i]? = some k ∧ v = .int k t := by
    intro i v hv
    have hv' : its[i]? = some v := by
      rw [← hv]
      simp
    have hi : i < its.length := (List.getElem?_eq_some_iff.mp hv').1
    have e1 := Paired.length rv
    rw [List.length_map] at e1
    obtain ⟨k, ek⟩ : ∃ k, ns[i]? = some k := ⟨ns[i]'(by omega), List.getElem?_eq_getElem _⟩
    have e0 : (ns.map V.int)[i]? = some (.int k) := by
      rw [List.getElem?_map, ek]
      rfl
    obtain ⟨u, hu', t, ru⟩ := rv.get e0
    rw [hv'] at hu'
    exact ⟨k, t, ek, (Option.some.inj hu').trans ru⟩
  cases ns with
  | nil =>
    cases rv
    refine PySem.Mx.none_at hh n1 li n2 n3 it kp hS fun h' tk kp' => ?_
    rw [eq2]
    exact ⟨d, H, I.kept (t' := tk) (PySem.Mx.kept_all fr kp'), rd, qn rfl⟩
  | cons k0 ns =>
    have e1 := Paired.length rv
    rw [List.length_map] at e1
    have e2 : its.toArray.size = its.length := List.size_toArray
    have h1 : 0 < its.toArray.size := by
      rw [e2, ← e1]
      exact Nat.succ_pos _
    refine PySem.Mx.first (bt := fun i j => decide ((k0 :: ns).getD i 0 > (k0 :: ns).getD j 0)) hh n1 n2 n3 li ?_ h1 it kp hS ?_
    · intro i j u v s' Q' E' k' hi hj hq
      obtain ⟨a1, t1, x1, rfl⟩ := at_ i u hi
      obtain ⟨a2, t2, x2, rfl⟩ := at_ j v hj
      have y1 : (k0 :: ns).getD i 0 = a1 := by rw [List.getD_eq_getElem?_getD, x1]; rfl
      have y2 : (k0 :: ns).getD j 0 = a2 := by rw [List.getD_eq_getElem?_getD, x2]; rfl
      dsimp only at hq
      rw [y1, y2] at hq
      exact PyProof.Rows.gt_int hq
    · intro v h' tk pv kp'
      obtain ⟨a1, t1, x1, rfl⟩ := at_ _ v pv
      obtain ⟨b1, b2⟩ := best_int (fun i => (k0 :: ns).getD i 0) (its.toArray.size - 1)
      rw [eq2]
      refine ⟨.int a1, H, I.kept (t' := tk) (PySem.Mx.kept_all fr kp'), ⟨t1, rfl⟩, q a1 (List.mem_of_getElem? x1) fun y hy => ?_⟩
      obtain ⟨j, hj⟩ := List.mem_iff_getElem?.mp hy
      have hj' : j < (k0 :: ns).length := (List.getElem?_eq_some_iff.mp hj).1
      have z := b2 j (by omega)
      have y1 : (k0 :: ns).getD j 0 = y := by rw [List.getD_eq_getElem?_getD, hj]; rfl
      have y2 : (k0 :: ns).getD (argBest (fun i j => decide ((k0 :: ns).getD i 0 > (k0 :: ns).getD j 0)) (its.toArray.size - 1)) 0 = a1 := by rw [List.getD_eq_getElem?_getD, x1]; rfl
      rw [y1, y2] at z
      exact z
end
end L2

/-! enumerate over a tuple; walks over zips of tuples -/
namespace PySem
namespace En
open Sem (wp)
set_option maxHeartbeats 1000000 in
theorem new1 {v : Value} {o : Obj} {G : Heap → Prop} (B : Begins v o G) :
    Meets (Builtin.«enumerate.__new__» ⟨[.type "enumerate", v], []⟩) (fun _ R s => G s.heap ∧
      R (.ok (.ret (.ref (s.heap.push o).objs.size))) { s with heap := (s.heap.push o).push { cls := .type "enumerate", data := .fields #[.none, .bool false, .ref s.heap.objs.size, rawInt 0, .none, .none] } }) :=
  .of_wp fun prog w A R s hh => by
    obtain ⟨hp, g, d, tk, os⟩ := s
    obtain ⟨h1, hr⟩ := hh
    have c0 := sub_enumerate
    have c1 : ∀ {A' : Around} {E : Value → Shared → Prop} {Q : Value → Shared → Prop}, Q (.ref hp.objs.size) ⟨hp.push o, g, d, tk, os⟩ → wpAny (model prog w) A' (pyIter v) Q E ⟨hp, g, d, tk, os⟩ :=
      fun z => B.iter prog w _ _ ⟨hp, g, d, tk, os⟩ _ h1 z
    wp_walk using c1
    refine wpAny_stack_any fun _ => wpAny_pure ?_
    split
    · rename_i c _ _ _ _ _
      cases (c == Value.type "enumerate") <;>
      · wp_walk using c1
        exact ⟨_, rfl, hr⟩
    · wp_walk using c1
      exact ⟨_, rfl, hr⟩
section
variable {prog : Program} {w : World} {A : Around} {E : Value → Shared → Prop} {s : Shared}
theorem call1 {v : Value} {o : Obj} {G : Heap → Prop} {Q : Value → Shared → Prop} (B : Begins v o G) (h1 : G s.heap)
    (h : ∀ h', IsEnum h' (s.heap.objs.size + 1) s.heap.objs.size 0 .none → h'.get? s.heap.objs.size = some o →
      (∀ b u, s.heap.get? b = some u → h'.get? b = some u) → Q (.ref (s.heap.objs.size + 1)) { s with heap := h' }) :
    wpAny (model prog w) A (call (.type "enumerate") [v]) Q E s := by
  refine callType_new F.called_enumerate (by decide) (F.typeCall_enumerate_1 _) (F.newCall_enumerate_1 _) (fun obj => F.args_object_init_2 obj _) F.entry_enumerate_new (new1 B) ⟨h1, ?_⟩
  have sz : (s.heap.push o).objs.size = s.heap.objs.size + 1 := Heap.size_push ..
  change _ ∧ _
  rw [sz]
  have at1 : IsEnum ((s.heap.push o).push { cls := .type "enumerate", data := .fields #[.none, .bool false, .ref s.heap.objs.size, rawInt 0, .none, .none] }) (s.heap.objs.size + 1) s.heap.objs.size 0 .none := by
    have z := Heap.get?_push_size (s.heap.push o) (o := { cls := .type "enumerate", data := .fields #[.none, .bool false, .ref s.heap.objs.size, rawInt 0, .none, .none] }) rfl
    rw [sz] at z
    exact z
  exact ⟨⟨_, at1, rfl⟩, h _ at1 (Heap.get?_push_of_some _ (Heap.get?_push_size _ B.free)) fun b u e => Heap.get?_push_of_some _ (Heap.get?_push_of_some _ e)⟩
end
theorem endDraws {prog : Program} {w : World} {A : Around} (hh : A.in1.handled = none) (it t : Addr) (hne : t ≠ it) {items : Array Value} {n : Nat} (hn : items[n]? = none) :
    Draws prog w A.in1 it [it, t] n (fun _ _ => True) (fun j h => j = n ∧ h.IsTupleIter it t n ∧ h.IsTuple t items) where
  live := fun _ _ st => by
    obtain ⟨_, ⟨o, ho, _⟩, _⟩ := st
    exact ⟨o, ho⟩
  frame := fun _ _ _ st hk => ⟨st.1, st.2.1.at fun o e => hk it (by simp) o e, st.2.2.at fun o e => hk t (by simp) o e⟩
  item := fun i s Q E hi st _ => absurd st.1 (Nat.ne_of_lt hi)
  done := fun s Q E st hE => wpAny_nextOf_tuple_end hh st.2.1 st.2.2 hn hE
end En
end PySem
namespace L2
open PySem PySem.Spec PyProof.Rows Kit
/-- the tuple at a as it stands at each turn, each item in a new pair -/
def IteT (K : PySem.W.Frag) (a : Addr) : It :=
  ⟨fun i H => ∃ (xs : List V) (x : V), SqT K H a xs ∧ xs[i]? = some x, fun i H v H' => ∃ T x, v = .ref T ∧ H T = none ∧ H' = upd H T (.tup [.int (i : Nat), x]) ∧ ∀ xs, SqT K H a xs → xs[i]? = some x,
    fun i H => ∃ xs : List V, SqT K H a xs ∧ xs.length ≤ i⟩
theorem turn_enumT {P : Program} {w : World} {K : PySem.W.Frag} {elts : List Expr} {kk : Nat} {tpos : Pos} (a e it : Addr) (n1 : e ≠ it) (n2 : a ≠ it) (n3 : a ≠ e) :
    Turn P w K (.Tuple elts kk tpos) (IteT K a) [e, it] e (fun i h => (∃ old, IsEnum h e it ((i : Nat) : Int) old) ∧ h.IsTupleIter it a i) where
  mem := by simp
  obj := fun i h st b hb => by
    obtain ⟨⟨old, he⟩, ⟨o, ho, hc, hd⟩⟩ := st
    have e' : b = e ∨ b = it := by simpa using hb
    rcases e' with rfl | rfl
    · exact ⟨_, he, fun v q => nomatch q⟩
    · exact ⟨o, ho, fun v q => by
        rw [hd] at q
        cases q⟩
  keep := fun i h h' st k => by
    obtain ⟨⟨old, he⟩, hi⟩ := st
    exact ⟨⟨old, k e (by simp) _ he⟩, hi.at fun o q => k it (by simp) o q⟩
  item := by
    intro X hP hw hK hc i pins s σ H E I hf st hg
    subst hP hw hK
    obtain ⟨⟨old, he⟩, hit⟩ := st
    obtain ⟨xs, x, hq, hx⟩ := hg
    obtain ⟨its, rv, p, hz⟩ := I.tuple hq
    obtain ⟨u, hu, ru⟩ := rv.get hx
    have hel : e < s.heap.objs.size := Heap.lt_size he
    have hil : it < s.heap.objs.size := by
      obtain ⟨_, q, _⟩ := hit
      exact Heap.lt_size q
    have hlen : i < its.toArray.size := by
      have := (List.getElem?_eq_some_iff.mp hu).1
      simpa using this
    have D := Draws.tuple (prog := X.prog) (w := X.w) (A := X.A.in1) (I.ok.hd hc) it a n2 its.toArray
    refine wpAny_pyNext_enum_itemD D he ⟨hit, p⟩ hlen n1 (by simp [n1, Ne.symm n3]) fun y h' tk hy ho st' hT hsz hk => ?_
    have ey : y = u := by
      have z : its[i]? = some y := by simpa using hy
      rw [hu] at z
      exact (Option.some.inj z).symm
    subst ey
    refine ⟨_, rfl, wpAny_letOwnedTupleGo_enum (s := { s with heap := h', toks := tk + 1 }) ho fun h'' he' sb => ?_⟩
    have hT2 : h''.get? s.heap.objs.size = some { cls := .type "tuple", data := .seq #[.int i tk, y] } := (sb.2 _ (Nat.ne_of_gt hel)).trans hT
    have new : ObjOk X.prog X.w (upd H s.heap.objs.size (.tup [.int (i : Nat), x])) h'' s.heap.objs.size (.tup [.int (i : Nat), x]) :=
      ⟨by show 2 ≤ sizeLine; decide, [.int i tk, y], .cons ⟨_, rfl⟩ (.cons ru .nil), ⟨_, hT2, rfl, _, rfl⟩⟩
    have I1 : Inv X pins σ (upd H s.heap.objs.size (.tup [.int (i : Nat), x])) { s with heap := h'', toks := tk + 1 } :=
      I.turnedNew (ch := [e, it]) (fun b ob hb q => (sb.2 b (fun z => hb (by simp [z]))).trans (hk b ob (fun z => hb (by simp [z])) (fun z => hb (by simp [z])) q)) hf (Nat.le_refl _) new
    refine ⟨.ref s.heap.objs.size, _, I1, rfl, ⟨_, x, rfl, I.hok.fresh (Nat.le_refl _), rfl, fun ys hy => by rw [I.tuple_inj hy hq]; exact hx⟩, ⟨⟨y, ?_⟩, st'.1.at fun o q => (sb.2 it (Ne.symm n1)).trans q⟩, fun b hb => ?_⟩
    · have e1 : ((i + 1 : Nat) : Int) = (i : Int) + 1 := by omega
      rw [e1]
      exact he'
    · have hb' : b < s.heap.objs.size := by
        have e' : b = e ∨ b = it := by simpa using hb
        rcases e' with rfl | rfl
        · exact hel
        · exact hil
      rw [upd_ne (Nat.ne_of_lt hb')]
      exact (hf b hb).1
  done := by
    intro X hP hw hK hc i pins s σ H E I hf st hg
    subst hP hw hK
    obtain ⟨⟨old, he⟩, hit⟩ := st
    obtain ⟨xs, hq, hx⟩ := hg
    obtain ⟨its, rv, p, hz⟩ := I.tuple hq
    obtain ⟨f0, f1, f2, f3, f4, f5⟩ := hf it (by simp)
    have hl : xs.length = its.length := Paired.length rv
    have hn : its.toArray[i]? = none := by
      have z : its[i]? = none := List.getElem?_eq_none (by omega)
      simpa using z
    exact wpAny_pyNext_enum_endD (En.endDraws (I.ok.hd hc) it a n2 hn) he ⟨rfl, hit, p⟩ fun h' eb => ⟨rfl, I.turned (t' := s.toks) (fun b o hb q => eb b o hb q) f0 f1 f3 f4 f5⟩
  self := fun A i s Q E st h => by
    obtain ⟨⟨_, he⟩, _⟩ := st
    exact wpAny_pyIter_enum he h
def iEnumT (K : PySem.W.Frag) (ta : TA) : TI := fun σ H R => ta σ H fun vs H1 => ∃ a xs, vs = [.ref a] ∧ SqT K H1 a xs ∧ R (IteT K a) H1
theorem pi_enumT {X : Cx} {e : Expr} {ta : TA} {p pos tpos : Pos} {elts : List Expr} {kk : Nat} (hg : Gl X "enumerate") (hm : X.mg "enumerate" = none) (ha : PA X [e] ta) (hs : starEach [e] X.env = [(false, eval e X.env)] := by rfl) :
    PI X (.Tuple elts kk tpos) (.Call (.Name "enumerate" p) [e] [] pos) (iEnumT X.K ta) := by
  constructor
  intro pins s σ H R I h
  refine Call_ (ld_blt I hg hm boot_enumerate (PyProof.Rows.callWith_type1 (thn (ha.run pos pins s σ H _ I h) ?_) hs rfl))
  rintro us s1 ⟨vs, H1, I1, r1, a, xs, rfl, hq, q⟩
  cases r1 with
  | cons r rr =>
    cases rr
    cases r
    obtain ⟨its, rv, tt, hz⟩ := I1.tuple hq
    have al : a < s1.heap.objs.size := by
      obtain ⟨o, e, _⟩ := tt
      exact Heap.lt_size e
    refine PySem.En.call1 (begins_tuple a its.toArray) tt fun h' he hit hk => wpAny_pyIter_enum he ?_
    have I2 : Inv X pins σ H1 { s1 with heap := h' } := I1.kept (t' := s1.toks) hk
    refine ⟨s1.heap.objs.size + 1, [s1.heap.objs.size + 1, s1.heap.objs.size], _, _, H1, rfl, I2, turn_enumT a (s1.heap.objs.size + 1) s1.heap.objs.size (Nat.succ_ne_self _) (Nat.ne_of_lt al) (Nat.ne_of_lt (Nat.lt_succ_of_lt al)), ⟨⟨.none, he⟩, ⟨_, hit, rfl, rfl⟩⟩, fun b hb => ?_, q⟩
    have e' : b = s1.heap.objs.size + 1 ∨ b = s1.heap.objs.size := by simpa using hb
    have hle : s1.heap.objs.size ≤ b := by
      rcases e' with rfl | rfl
      · exact Nat.le_add_right _ _
      · exact Nat.le_refl _
    exact I1.fpOk hle (I1.hok.fresh hle)
section
variable {K : PySem.W.Frag} {a b : Addr} {xs ys : List V}
theorem walk_enumT : Walk (IteT K a) xs.length (fun H => SqT K H a xs) (YPair (fun i => some (.int (i : Nat))) (fun i => xs[i]?)) where
  goes := fun i H hi h => ⟨xs, xs[i], h, by simp [hi]⟩
  stops := fun H h => ⟨xs, h, Nat.le_refl _⟩
  yields := fun i H x H' hi h y => by
    obtain ⟨T, u, rfl, nT, e, hu⟩ := y
    exact ⟨T, _, u, rfl, nT, e, rfl, hu xs h⟩
theorem walk_zipT {n : Nat} (h1 : n = xs.length) (h2 : n = ys.length) : Walk (RZ.ItzT K a b) n (fun H => SqT K H a xs ∧ SqT K H b ys) (YPair (fun i => xs[i]?) (fun i => ys[i]?)) where
  goes := fun i H hi h => ⟨xs, ys, xs[i]'(by omega), ys[i]'(by omega), h.1, h.2, List.getElem?_eq_getElem _, List.getElem?_eq_getElem _⟩
  stops := fun H h => ⟨xs, ys, h.1, h.2, .inl (by omega)⟩
  yields := fun i H x H' hi h y => by
    obtain ⟨T, u, v, rfl, nT, e, hu, hv⟩ := y
    exact ⟨T, u, v, rfl, nT, e, hu xs h.1, hv ys h.2⟩
end
end L2

set_option maxHeartbeats 1000000
/-! a def with keyword-only defaults, called by its name in one form -/
namespace Kit
open PySem PySem.Spec PyProof.Rows L2
section
variable {X : Cx} {CX : CXT} {k n : Nat} {f : Addr} {fd : FuncData} {ps ks : List Str} {sp : Sp} {E : XK}
theorem run_fnB {pins : List (Addr × Obj)} {σ : L2.St} {H : Hp} {s : Shared} {Q : VK} {us ws : List Value} {vs zs : List V}
    {g : List Value → List Value → List Value} {gV : List V → List V → List V}
    (F : FnG X.prog X.w X.K X.mg X.base CX k f fd ps sp) (hq : Qt X.A) (hr : Room k X.A)
    (hb : KBn X.K fd ps n ks g gV) (hx : Passes CX X E) (I : Inv X pins σ H s) (r : Vals vs us) (rz : Vals zs ws) (l1 : vs.length = n) (l2 : zs.length = ks.length)
    (h : sp (gV vs zs) H Q E) :
    wpAny (model X.prog X.w) X.A (call (.ref f) us (ks.zip ws)) (EP X pins σ Q) X.xe s := by
  have z := F.run X.A X.stack s H ⟨us, ks.zip ws⟩ (g us ws) (gV vs zs) Q E hq hr I.env0 (hb.to s us ws I.kIn (r.length.symm.trans l1) (rz.length.symm.trans l2)) (hb.rel r rz) h
  refine wpAny_call (codeAny_mono z ?_)
  intro o s' ho
  match o, ho with
  | .error e, ho => exact hx pins σ H s e s' I ho
  | .ok (.ret u), ho => exact I.after ho
  | .ok .next, ho => exact False.elim ho
  | .ok .brk, ho => exact False.elim ho
  | .ok .cont, ho => exact False.elim ho
structure CalB (P : Program) (w : World) (K : PySem.W.Frag) (mg : Str → Option Value)
    (base : Heap) (CX : CXT) (k : Nat) (x : Str) (ps : List Str) (sp : Sp) (n : Nat) (ks : List Str) (gV : List V → List V → List V) : Prop where
  ex : ∃ (f : Addr) (fd : FuncData) (g : List Value → List Value → List Value), FnG P w K mg base CX k f fd ps sp ∧ mg x = some (.ref f) ∧ PySem.W.keepIn K (.ref f) = true ∧ KBn K fd ps n ks g gV
def tCallB (sp : Sp) (n m : Nat) (gV : List V → List V → List V) (E : XK) (t tk : TA) : TE := fun σ H Q => t σ H fun vs H1 => tk σ H1 fun zs H2 => vs.length = n ∧ zs.length = m ∧ sp (gV vs zs) H2 Q E
variable {x : Str} {p pos : Pos} {e : Expr} {es : List Expr} {kws : List Keyword} {t tk : TA} {j : Nat} {gV : List V → List V → List V}
theorem pe_cB (c : CalB X.prog X.w X.K X.mg X.base CX k x ps sp n ks gV) (hx : Passes CX X E) (hq : Qt X.A) (hr : Room j X.A) (hk : k ≤ j)
    (hg : Gl X x) (ha : PA X (e :: es) t) (hkw : PK X kws tk)
    (hall : (backToKw pos (keywordEach kws X.env)).all (·.1.isSome) = true := by rfl) (hks : (backToKw pos (keywordEach kws X.env)).filterMap (·.1) = ks := by rfl)
    (hdb : (x == ("__debug__" : Str)) = false := by decide) (he : starEach (e :: es) X.env = (false, eval e X.env) :: starEach es X.env := by rfl)
    (hpl : ((backTo pos (starEach (e :: es) X.env)).any (·.1) || (backToKw pos (keywordEach kws X.env)).any (·.1.isNone)) = false := by rfl) :
    PE X (.Call (.Name x p) (e :: es) kws pos) (tCallB sp n ks.length gV E t tk) := by
  obtain ⟨f, fd, g, F, hm, hkp, hb⟩ := c.ex
  refine ⟨fun pins s σ H Q I h => ?_⟩
  refine wpAny_Call_Name_kw (ld_glob I hg hm ?_ hdb)
  refine PySem.W.callWith_KW (h₀ := X.base) I.ok.mod.kin hkp hall (thn (ha.run pos pins s σ H _ I h) fun us s1 ⟨vs, H1, I1, r, q⟩ => ?_) hpl he
  refine thn (hkw.run pos pins s1 σ H1 _ I1 q) fun ws s2 ⟨zs, H2, I2, rz, l1, l2, q2⟩ => ⟨I2.kIn, ?_⟩
  rw [hks]
  exact run_fnB F hq (hr.mono hk) hb hx I2 r rz l1 l2 q2
theorem pe_cB0 (c : CalB X.prog X.w X.K X.mg X.base CX k x ps sp 0 ks gV) (hx : Passes CX X E) (hq : Qt X.A) (hr : Room j X.A) (hk : k ≤ j)
    (hg : Gl X x) (hkw : PK X kws tk)
    (hall : (backToKw pos (keywordEach kws X.env)).all (·.1.isSome) = true := by rfl) (hks : (backToKw pos (keywordEach kws X.env)).filterMap (·.1) = ks := by rfl)
    (hdb : (x == ("__debug__" : Str)) = false := by decide)
    (hpl : ((backTo pos (starEach [] X.env)).any (·.1) || (backToKw pos (keywordEach kws X.env)).any (·.1.isNone)) = false := by rfl) :
    PE X (.Call (.Name x p) [] kws pos) (tCallB sp 0 ks.length gV E tNil tk) := by
  obtain ⟨f, fd, g, F, hm, hkp, hb⟩ := c.ex
  refine ⟨fun pins s σ H Q I h => ?_⟩
  refine wpAny_Call_Name_kw (ld_glob I hg hm ?_ hdb)
  refine PySem.W.callWith_KW0 (h₀ := X.base) I.ok.mod.kin hkp hall ?_ hpl
  refine thn (hkw.run pos pins s σ H _ I h) ?_
  rintro ws s1 ⟨zs, H1, I1, r, l1, l2, q⟩
  refine ⟨I1.kIn, ?_⟩
  rw [hks]
  exact run_fnB (us := []) (vs := []) F hq (hr.mono hk) hb hx I1 .nil r l1 l2 q
end
/-! three parameters and one by its name alone -/
def g4 {α : Type} (us mv ws : List α) : List α := us ++ mv ++ ws
def g4r {α : Type} (us mv ws : List α) : List α := ws.reverse
end Kit

/-! a tuple from behind; a tuple times nought or one -/
namespace X7
open PySem PySem.Spec PyProof.Rows L2 Kit HT
section
variable {prog : Program} {w : World} {A : Around} {E : Value → Shared → Prop} {s : Shared}
theorem adjust_rev (n : Nat) : Builtin.Slice.sliceAdjust none none (-1) (n : Int) = ((n : Int) - 1, -1) := by
  unfold Builtin.Slice.sliceAdjust
  rfl
theorem places_rev (n : Nat) : Builtin.Slice.slicePlaces ((n : Int) - 1) (-1) (-1) = n := by
  unfold Builtin.Slice.slicePlaces
  have h1 : ¬ ((-1 : Int) > 0) := by omega
  have e1 : (- -1 : Int) = 1 := by decide
  simp only [h1, if_false, e1, Int.ediv_one]
  split <;> omega
theorem pick_rev (xs : Array Value) : ((List.range xs.size).filterMap fun (m : Nat) => xs[(((xs.size : Int) - 1) + (m : Int) * -1).toNat]?).toArray = xs.toList.reverse.toArray := by
  have e : (fun (m : Nat) => xs[(((xs.size : Int) - 1) + (m : Int) * -1).toNat]?) = (fun i => xs[i]?) ∘ fun m => xs.size - 1 - m := by
    funext m
    show xs[(((xs.size : Int) - 1) + (m : Int) * -1).toNat]? = xs[xs.size - 1 - m]?
    congr 1
    omega
  rw [e, ← List.filterMap_map, PySem.W.krv_range, List.filterMap_reverse, PySem.W.krv_all]
theorem sliceApplied_rev {sl : Addr} {vs : Value} {n : Nat} {Q : Int × Int × Nat → Shared → Prop} (hs : s.heap.IsSliceOf sl .none .none vs) (ps : IsPart vs (some (-1)))
    (h : Q ((n : Int) - 1, -1, n) s) : wpAny (model prog w) A (Builtin.Slice.sliceApplied (.ref sl) (pure (n : Int))) Q E s := by
  obtain ⟨os, hos, hcs, hds⟩ := id hs
  unfold Builtin.Slice.sliceApplied Builtin.Slice.sliceFields
  refine wpAny_bind (wpAny_bind (wpAny_field hos hds (x := .none) rfl (wpAny_bind (wpAny_field hos hds (x := .none) rfl (wpAny_bind (wpAny_field hos hds (x := vs) rfl (wpAny_pure ?_)))))))
  refine wpAny_bind (slicePart_ ps ?_)
  show wpAny _ _ (if ((-1 : Int) == 0) = true then _ else _) _ _ s
  rw [if_neg (by decide)]
  refine wpAny_bind (slicePart_none (wpAny_bind (slicePart_none (wpAny_bind (wpAny_pure ?_)))))
  show wpAny _ _ (match Builtin.Slice.sliceAdjust none none (-1) (n : Int) with | (lo, hi) => pure (lo, (-1 : Int), Builtin.Slice.slicePlaces lo hi (-1))) _ _ s
  rw [adjust_rev n]
  show wpAny _ _ (pure ((n : Int) - 1, (-1 : Int), Builtin.Slice.slicePlaces ((n : Int) - 1) (-1) (-1))) _ _ s
  rw [places_rev]
  exact wpAny_pure h
theorem getItem_tuple_rev {t sl : Addr} {items : Array Value} {vs : Value} {Q : Value → Shared → Prop} (ht : IsTup s.heap t items) (hs : s.heap.IsSliceOf sl .none .none vs) (ps : IsPart vs (some (-1)))
    (h : Q (.ref s.heap.objs.size) { s with heap := s.heap.push { cls := .type "tuple", data := .seq items.toList.reverse.toArray } })
    (hsz : items.size ≤ sizeLine) : wpAny (model prog w) A (getItem (.ref t) (.ref sl)) Q E s := by
  have htake : sizeOk (.seq items.toList.reverse.toArray) := by
    show items.toList.reverse.toArray.size ≤ sizeLine
    rw [List.size_toArray, List.length_reverse, Array.length_toList]
    exact hsz
  obtain ⟨os, hos, hcs, hds⟩ := id hs
  have hTs : s.TypeIs (.ref sl) "slice" := ⟨os, hos, hcs⟩
  unfold getItem
  try with_reducible refine wpAny_holding ?_
  first | refine wpAny_bind (wpAny_pure ?_) | skip
  refine wpAny_bind (wpAny_sequenceKey ht.typeIs (by decide) ?_)
  refine wpAny_bind (wpAny_callSpecial?_slot (name := Str.ofString "__getitem__") ht.typeIs PyProof.Rows.slot_tuple_getitem
    (wpAny_call_entry PyProof.Rows.slot_tuple_getitem ht.typeIs entry_tuple_getitem ?_ (args_tuple_getitem _ _)))
  show wpAny _ _ (Builtin.Tuple.tupleItemsOf (.ref t) >>= _) _ _ s
  refine wpAny_bind (tupleItemsOf_ ht ?_)
  refine wpAny_bind (wpAny_typeOf hTs ?_)
  rw [if_pos (by decide)]
  refine wpAny_bind (sliceApplied_rev hs ps ?_)
  have hno : ¬ ((((items.size : Int) - 1) == 0 && (-1 : Int) == 1 && items.size == items.size) = true) := by
    intro q
    rw [Bool.and_eq_true, Bool.and_eq_true] at q
    exact absurd (eq_of_beq q.1.2) (by decide)
  show wpAny _ _ (if (((items.size : Int) - 1) == 0 && (-1 : Int) == 1 && items.size == items.size) = true then _ else _) _ _ s
  rw [if_neg hno, pick_rev]
  first
    | exact wpAny_bind (m := Builtin.Tuple.tupleExact _) (wpAny_newObj_type (wpAny_pure ⟨_, rfl, wpAny_pure h⟩) htake)
    | exact wpAny_bind (m := Builtin.Tuple.tupleExact _) (wpAny_newObj_type (wpAny_bind (wpAny_pure (wpAny_pure ⟨_, rfl, wpAny_pure h⟩))) htake)
    | exact wpAny_bind (wpAny_bind (m := Builtin.Tuple.tupleExact _) (wpAny_newObj_type (wpAny_pure (wpAny_pure ⟨_, rfl, wpAny_pure h⟩)) htake))
    | exact wpAny_bind (wpAny_bind (m := Builtin.Tuple.tupleExact _) (wpAny_newObj_type (wpAny_pure ⟨_, rfl, wpAny_pure h⟩) htake))
end
section
variable {X : Cx}
def tRevT (K : PySem.W.Frag) (te : TE) : TE := fun σ H Q => te σ H fun x H1 => ∃ a xs, x = .ref a ∧ SqT K H1 a xs ∧ ∀ p, H1 p = none → Q (.ref p) (upd H1 p (.tup xs.reverse))
theorem pe_revT {e : Expr} {te : TE} {k : Nat} {p1 p2 p3 pos : Pos} (he : PE X e te) : PE X (.Subscript e (.Slice none none (some (.UnaryOp .USub (.Constant (.int 1) k p1) p2)) p3) pos) (tRevT X.K te) := by
  refine ⟨fun pins s σ H Q I h => ?_⟩
  refine Subscript_ (thn (he.run pins s σ H _ I h) fun v s1 ⟨x, H1, I1, r1, q1⟩ => ?_)
  obtain ⟨a, xs, ex, hx, q⟩ := q1
  subst ex
  cases r1
  have hst : PO X (some (.UnaryOp .USub (.Constant (.int 1) k p1) p2)) (tPart (tUn (rU fun i => .int (-i)) (tC (.int 1)))) := po_some (pe_un un_neg pe_int)
  refine wpAny_Slice (thn (po_none.run pins s1 σ H1 (fun o H2 => o = none ∧ H2 = H1) I1 ⟨rfl, rfl⟩) fun vl s2 ⟨l, H2, I2, pl, el, e2⟩ => ?_)
  subst el e2
  refine thn (po_none.run pins s2 σ H2 (fun o H3 => o = none ∧ H3 = H2) I2 ⟨rfl, rfl⟩) fun vu s3 ⟨u, H3, I3, pu, eu, e3⟩ => ?_
  subst eu e3
  refine thn (hst.run pins s3 σ H3 (fun o H4 => o = some (-1) ∧ H4 = H3) I3 ⟨1, rfl, -1, rfl, rfl, rfl⟩) fun vs s4 ⟨o, H4, I4, ps, eo, e4⟩ => ?_
  subst eo e4
  have I5 : Inv X pins σ H4 { s4 with heap := s4.heap.push { cls := .type "slice", data := .fields #[vl, vu, vs] } } := I4.kept (t' := s4.toks) fun b ob q => Heap.get?_push_of_some _ q
  obtain ⟨its, r, ht, hz⟩ := I5.tuple hx
  have hlen : its.toArray.size = xs.length := by rw [List.size_toArray]; exact r.length.symm
  cases pl
  cases pu
  show wpAny (model X.prog X.w) X.A (subscriptTail e (.Slice none none (some (.UnaryOp .USub (.Constant (.int 1) k p1) p2)) p3) (.ref a) (.ref s4.heap.objs.size)) (EP X pins σ Q) X.xe { s4 with heap := s4.heap.push { cls := .type "slice", data := .fields #[.none, .none, vs] } }
  refine tail_any (ops := [.ref a, .ref s4.heap.objs.size]) ht.typeIs (PyProof.Rows.slot_tuple_getitem.lookup) ?_ (by with_unfolding_all rfl)
  refine getItem_tuple_rev ht (Heap.IsSliceOf.new _ .none .none vs) ps ?_ (by rw [hlen]; exact hz)
  refine ⟨.ref _, _, I5.laid (t' := s4.toks) (o := .tup xs.reverse) (fun b ob q => Heap.get?_push_of_some _ q) (Nat.le_refl _) ?_, rfl, q _ (I5.hok.fresh (Nat.le_refl _))⟩
  exact ⟨by rw [List.length_reverse]; exact hz, _, r.reverse, IsTup.new _ _⟩
end
end X7

namespace X7
open PySem PySem.Spec PyProof.Rows L2 Kit HT
theorem tuple_mul1 (l : Addr) (items : Array Value) (n : Nat) (dd : Option Addr) (sl : Array (Option Value)) (u : Tok) :
    Meets (Builtin.«tuple.__mul__» ⟨[.ref l, .int 1 u], []⟩) (fun _ R s => s.heap.get? l = some { cls := .type "tuple", dict := dd, data := .seq items n, slots := sl } ∧
      R (.ok (.ret (Value.ref l))) s) :=
  .of_wp fun prog w A R s h => by
    obtain ⟨hp, g, d, tk, os⟩ := s
    obtain ⟨hl, h⟩ := h
    have f1 := AutoSeq1.idx_int
    have c1 : (items.isEmpty || (1 : Int) == 1) = true := by simp
    wp_walk using wpAny_loadPart' hl
    repeat (first
      | (refine wpAny_ite_false (decide_eq_false (by decide)) ?_; wp_walk using wpAny_loadPart' hl)
      | (refine wpAny_ite_true (decide_eq_true (by rw [c1])) ?_; wp_walk using wpAny_loadPart' hl))
    exact ⟨_, rfl, h⟩
theorem tuple_mul0 (l : Addr) (items : Array Value) (n : Nat) (dd : Option Addr) (sl : Array (Option Value)) (u : Tok) (hi : items.isEmpty = false) :
    Meets (Builtin.«tuple.__mul__» ⟨[.ref l, .int 0 u], []⟩) (fun _ R s => s.heap.get? l = some { cls := .type "tuple", dict := dd, data := .seq items n, slots := sl } ∧
      R (.ok (.ret (Value.ref s.heap.objs.size))) { s with heap := s.heap.push { cls := Value.type "tuple", data := Data.seq #[] }, toks := s.toks }) :=
  .of_wp fun prog w A R s h => by
    obtain ⟨hp, g, d, tk, os⟩ := s
    obtain ⟨hl, h⟩ := h
    have f1 := AutoSeq1.idx_int
    have c1 : ¬ ((items.isEmpty || (0 : Int) == 1) = true) := by rw [hi]; decide
    have c2 : (decide ((0 : Int) ≤ 0) || items.isEmpty) = true := by simp
    wp_walk using wpAny_loadPart' hl
    repeat (first
      | (refine wpAny_ite_false (decide_eq_false c1) ?_; wp_walk using wpAny_loadPart' hl)
      | (refine wpAny_ite_false (decide_eq_false (by decide)) ?_; wp_walk using wpAny_loadPart' hl)
      | (refine wpAny_ite_true (decide_eq_true c2) ?_; wp_walk using wpAny_loadPart' hl))
    exact ⟨_, rfl, h⟩
def rRepT01 (K : PySem.W.Frag) : R2 := fun x y H Q => ∃ l k xs, x = .ref l ∧ y = .int k ∧ SqT K H l xs ∧ xs ≠ [] ∧ (k = 1 ∨ k = 0) ∧ (k = 1 → Q (.ref l) H) ∧ (k = 0 → ∀ p, H p = none → Q (.ref p) (upd H p (.tup [])))
theorem op_repT01 {X : Cx} : OpR X (binaryOp .Mult) (rRepT01 X.K) := by
  intro pins s σ H x y v u Q I rx ry h
  obtain ⟨l, k, xs, rfl, rfl, hT, hne, hk, q1, q0⟩ := h
  cases rx
  obtain ⟨t, rfl⟩ := ry
  obtain ⟨its, r, ⟨⟨cls, dd, data, sl⟩, ho, hc, n, hd⟩, hs⟩ := I.tuple hT
  simp only at hc hd
  subst hc hd
  have hle : its.length = xs.length := r.length.symm
  have hn : its ≠ [] := fun e => hne (by
    rw [e] at hle
    exact List.eq_nil_of_length_eq_zero hle.symm)
  have hi : its.toArray.isEmpty = false := by
    cases its with
    | nil => exact absurd rfl hn
    | cons a b => rfl
  rcases hk with rfl | rfl
  · exact wpAny_binaryOp_repeat_ref (T := "tuple") (U := "int") (by decide) ⟨_, ho, rfl⟩ (fun s' => typeIs_int s' 1 t) noFill_tuple_mul F.fills_int_mul F.slot_int_rmul repeat_tuple F.slot_int_index.lookup
      (call_meets F.slot_int_rmul (typeIs_int s 1 t) F.entry_int_rmul (F.args_int_rmul_2 _ _) (int_rmul_tuple 1 t l its.toArray n dd sl)
        ⟨ho, rfl, ⟨_, ho, rfl⟩, call_meets F.slot_tuple_mul ⟨_, ho, rfl⟩ F.entry_tuple_mul (F.args_tuple_mul_2 _ _) (tuple_mul1 l its.toArray n dd sl t) ⟨ho, ⟨.ref l, H, I, rfl, q1 rfl⟩⟩⟩)
  · refine wpAny_binaryOp_repeat_ref (T := "tuple") (U := "int") (by decide) ⟨_, ho, rfl⟩ (fun s' => typeIs_int s' 0 t) noFill_tuple_mul F.fills_int_mul F.slot_int_rmul repeat_tuple F.slot_int_index.lookup
      (call_meets F.slot_int_rmul (typeIs_int s 0 t) F.entry_int_rmul (F.args_int_rmul_2 _ _) (int_rmul_tuple 0 t l its.toArray n dd sl)
        ⟨ho, rfl, ⟨_, ho, rfl⟩, call_meets F.slot_tuple_mul ⟨_, ho, rfl⟩ F.entry_tuple_mul (F.args_tuple_mul_2 _ _) (tuple_mul0 l its.toArray n dd sl t hi) ⟨ho, ?_⟩⟩)
    refine ⟨.ref s.heap.objs.size, _, I.laid (t' := s.toks) (o := .tup []) (fun b ob q => Heap.get?_push_of_some _ q) (Nat.le_refl _) ?_, rfl, q0 rfl _ (I.hok.fresh (Nat.le_refl _))⟩
    exact ⟨by decide, _, .nil, IsTup.new _ _⟩
end X7

/-! a slice that is the whole tuple: the same object -/
namespace X9
open PySem PySem.Spec PyProof.Rows L2 Kit HT
section
variable {prog : Program} {w : World} {A : Around} {E : Value → Shared → Prop} {s : Shared}
theorem getItem_tuple_whole {t sl : Addr} {items : Array Value} {vl vu : Value} {lo hi : Option Int} {Q : Value → Shared → Prop} (ht : IsTup s.heap t items) (hs : s.heap.IsSliceOf sl vl vu .none) (pl : IsPart vl lo) (pu : IsPart vu hi)
    (hw : sIx items.size 0 lo = 0 ∧ sIx items.size items.size hi = items.size)
    (h : Q (.ref t) s)
    (hsz : items.size ≤ sizeLine) : wpAny (model prog w) A (getItem (.ref t) (.ref sl)) Q E s := by
  obtain ⟨os, hos, hcs, hds⟩ := id hs
  have hTs : s.TypeIs (.ref sl) "slice" := ⟨os, hos, hcs⟩
  unfold getItem
  try with_reducible refine wpAny_holding ?_
  first | refine wpAny_bind (wpAny_pure ?_) | skip
  refine wpAny_bind (wpAny_sequenceKey ht.typeIs (by decide) ?_)
  refine wpAny_bind (wpAny_callSpecial?_slot (name := Str.ofString "__getitem__") ht.typeIs PyProof.Rows.slot_tuple_getitem
    (wpAny_call_entry PyProof.Rows.slot_tuple_getitem ht.typeIs entry_tuple_getitem ?_ (args_tuple_getitem _ _)))
  show wpAny _ _ (Builtin.Tuple.tupleItemsOf (.ref t) >>= _) _ _ s
  refine wpAny_bind (tupleItemsOf_ ht ?_)
  refine wpAny_bind (wpAny_typeOf hTs ?_)
  rw [if_pos (by decide)]
  refine wpAny_bind (sliceApplied_gen hs pl pu ?_)
  have hno : ((((sIx items.size 0 lo : Nat) : Int) == 0 && (1 : Int) == 1 && (sIx items.size items.size hi - sIx items.size 0 lo) == items.size) = true) := by
    rw [hw.1, hw.2, Nat.sub_zero]
    simp
  show wpAny _ _ (if (((sIx items.size 0 lo : Nat) : Int) == 0 && (1 : Int) == 1 && (sIx items.size items.size hi - sIx items.size 0 lo) == items.size) = true then _ else _) _ _ s
  rw [if_pos hno]
  have he : ∀ {Q' : Bool → Shared → Prop}, Q' true s → wpAny (model prog w) A.in1 (Builtin.Tuple.tupleIsExact (.ref t)) Q' E s := by
    intro Q' q'
    unfold Builtin.Tuple.tupleIsExact
    refine wpAny_bind (wpAny_typeOf ht.typeIs ?_)
    exact wpAny_pure q'
  refine wpAny_bind (he ?_)
  rw [if_pos rfl]
  first
    | exact wpAny_bind (wpAny_rule (wpAny_pure ⟨_, rfl, wpAny_pure h⟩))
end
def whole (n : Nat) (lo hi : Option Int) : Prop := HT.sIx n 0 lo = 0 ∧ HT.sIx n n hi = n
/-- t[lo:hi]: the whole is t itself -/
def rSlTA (K : PySem.W.Frag) : V → Option Int → Option Int → Hp → VK → Prop := fun x lo hi H Q => ∃ a xs, x = .ref a ∧ SqT K H a xs ∧
  (whole xs.length lo hi → Q (.ref a) H) ∧ (¬ whole xs.length lo hi → ∀ p, H p = none → Q (.ref p) (upd H p (.tup (cutV xs lo hi))))
theorem sl_tupA {X : Cx} : SlR X (rSlTA X.K) := by
  intro pins s σ H x v vl vu lo hi sl Q I rx hs pl pu h
  obtain ⟨a, xs, rfl, hx, q1, q2⟩ := h
  by_cases hw : whole xs.length lo hi
  · cases rx
    obtain ⟨its, r, ht, hz⟩ := I.tuple hx
    have hlen : its.toArray.size = xs.length := by rw [List.size_toArray]; exact r.length.symm
    refine ⟨"tuple", _, PyProof.Rows.slot_tuple_getitem.lookup, ht.typeIs, ?_⟩
    exact getItem_tuple_whole ht hs pl pu (by rw [hlen]; exact hw) ⟨.ref a, H, I, rfl, q1 hw⟩ (by rw [hlen]; exact hz)
  · exact sl_tup pins s σ H _ v vl vu lo hi sl Q I rx hs pl pu ⟨a, xs, rfl, hx, hw, q2 hw⟩
end X9

/-! () + t: t itself -/
namespace X10
open PySem PySem.Spec PyProof.Rows L2 Kit HT
theorem tuple_addW0 (t b : Addr) (vs ws : Array Value) (n n2 : Nat) (dd dd2 : Option Addr) (sl sl2 : Array (Option Value)) (hc0 : vs.isEmpty = true) :
    Meets (Builtin.«tuple.__add__» ⟨[.ref t, .ref b], []⟩) (fun _ R s => s.heap.get? t = some { cls := .type "tuple", dict := dd, data := .seq vs n, slots := sl } ∧
      s.heap.get? b = some { cls := .type "tuple", dict := dd2, data := .seq ws n2, slots := sl2 } ∧ R (.ok (.ret (Value.ref b))) s) :=
  .of_wp fun prog w A R s h => by
    obtain ⟨hp, g, d, tk, os⟩ := s
    obtain ⟨hl, hb, h⟩ := h
    have f1 := AutoSeq1.idx_int
    have f2 := AutoSeq1.sub_tuple_tuple
    wp_walk using wpAny_loadPart' hl, wpAny_loadPart' hb
    exact ⟨_, rfl, h⟩
def rCatT0 (K : PySem.W.Frag) : R2 := fun x y H Q => ∃ a b ys, x = .ref a ∧ y = .ref b ∧ SqT K H a [] ∧ SqT K H b ys ∧ Q (.ref b) H
theorem op_catT0 {X : Cx} : OpR X (binaryOp .Add) (rCatT0 X.K) := by
  intro pins s σ H x y v u Q I rx ry h
  obtain ⟨a, b, ys, rfl, rfl, ha, hb, q⟩ := h
  cases rx
  cases ry
  obtain ⟨its, r1, ⟨⟨cls, dd, data, sl⟩, ho, hc, n, hd⟩, _⟩ := I.tuple ha
  obtain ⟨its2, r2, ⟨⟨cls2, dd2, data2, sl2⟩, ho2, hc2, n2, hd2⟩, _⟩ := I.tuple hb
  simp only at hc hd hc2 hd2
  subst hc hd hc2 hd2
  cases r1
  exact concat_meets ⟨_, ho, rfl⟩ ⟨_, ho2, rfl⟩ noFill_tuple_add seq_tuple_add PySem.F.slot_tuple_add PySem.F.entry_tuple_add (PySem.F.args_tuple_add_2 _ _)
    (tuple_addW0 a b _ its2.toArray n n2 dd dd2 sl sl2 rfl) ⟨ho, ho2, ⟨.ref b, H, I, rfl, q⟩⟩
/-- t + u of any two -/
def rCatTA (K : PySem.W.Frag) : R2 := fun x y H Q => rCatT0 K x y H Q ∨ rCatT K x y H Q
theorem op_catTA {X : Cx} : OpR X (binaryOp .Add) (rCatTA X.K) := by
  intro pins s σ H x y v u Q I rx ry h
  rcases h with h | h
  · exact op_catT0 pins s σ H x y v u Q I rx ry h
  · exact op_catT pins s σ H x y v u Q I rx ry h
end X10

/-! lambdas as values: made in a list, handed to a def, called there; a captured cell is known there -/
namespace X11
open PySem PySem.Spec PyProof.Rows L2 LamX NdefX Kit
/-! ### a known object let go, and known -/
def ex (c : Addr) (o : Obj) : HO := .frz o (.ext fun h => h.get? c = some o)
def unc (H : Hp) (c : Addr) : Hp := fun b => if b = c then none else H b
theorem unc_same {H : Hp} {c : Addr} : unc H c c = none := if_pos rfl
theorem unc_ne {H : Hp} {b c : Addr} (h : b ≠ c) : unc H c b = H b := if_neg h
theorem ex_ok {P : Program} {w : World} {H : Hp} {h : Heap} {c : Addr} {o : Obj} (e : h.get? c = some o) : ObjOk P w H h c (ex c o) :=
  ⟨e, e, ⟨o, e⟩, fun h1 h2 q st => st _ q⟩
theorem ne_ex {H : Hp} {b c : Addr} {o : Obj} {u : HO} (e : H c = some (ex c o)) (e2 : H b = some u) (n : ∀ o v, u ≠ .frz o v) : b ≠ c := fun z => by
  rw [z, e] at e2
  cases e2
  exact n _ _ rfl
section
variable {P : Program} {w : World} {H H' : Hp} {h h' : Heap} {c : Addr} {o : Obj} {fs : List Addr}
theorem hok_unc (x : HOk P w H h) (e : H c = some (ex c o)) : HOk P w (unc H c) h := fun b v q => by
  by_cases hb : b = c
  · subst hb
    rw [unc_same] at q
    cases q
  · rw [unc_ne hb] at q
    refine (x b v q).stay (fun _ _ _ z => z) (fun d z => ?_) fun d xs z => ?_
    · rw [unc_ne (ne_ex e z fun _ _ t => by cases t)]
      exact z
    · rw [unc_ne (ne_ex e z fun _ _ t => by cases t)]
      exact z
theorem hok_cov (x : HOk P w H h) (e : H c = none) (ho : h.get? c = some o) : HOk P w (upd H c (ex c o)) h := fun b v q => by
  by_cases hb : b = c
  · subst hb
    rw [upd_same] at q
    cases q
    exact ex_ok ho
  · rw [upd_ne hb] at q
    refine (x b v q).stay (fun _ _ _ z => z) (fun d z => ?_) fun d xs z => ?_
    · rw [upd_ne (ne_of_none z e)]
      exact z
    · rw [upd_ne (ne_of_none z e)]
      exact z
theorem cov_at (x : HOk P w H h) (e : H c = some (ex c o)) : h.get? c = some o := (x c _ e).1
theorem un_cov (u : Un fs [] (upd H c (ex c o)) H' h h') (x : HOk P w H' h') (e : H c = none) (ho : h.get? c = some o) : Un fs [] H (unc H' c) h h' := by
  have ec : H' c = some (ex c o) := u.frzs c o _ upd_same
  have ne : ∀ {b : Addr} {v : HO}, H b = some v → b ≠ c := fun q => ne_of_none q e
  refine ⟨fun b ob q n h1 h2 => ?_, fun b ob q n h1 h2 => ?_, fun b ob q n h2 => ?_, u.there, fun b xs q => ?_, fun b ob v q => ?_, fun b ps q => ?_⟩
  · by_cases hb : b = c
    · subst hb
      rw [ho] at q
      cases q
      exact cov_at x ec
    · exact u.keep b ob q (by rw [upd_ne hb]; exact n) h1 h2
  · by_cases hb : b = c
    · subst hb
      rw [ho] at q
      cases q
      exact ⟨_, cov_at x ec⟩
    · exact u.slot b ob q (by rw [upd_ne hb]; exact n) h1 h2
  · by_cases hb : b = c
    · subst hb
      exact unc_same
    · rw [unc_ne hb]
      exact u.free b ob q (by rw [upd_ne hb]; exact n) h2
  · rw [unc_ne (ne q)]
    exact u.tups b xs (by rw [upd_ne (ne q)]; exact q)
  · rw [unc_ne (ne q)]
    exact u.frzs b ob v (by rw [upd_ne (ne q)]; exact q)
  · rw [unc_ne (ne q)]
    exact u.tbls b ps (by rw [upd_ne (ne q)]; exact q)
theorem un_unc (u : Un fs [] (unc H c) H' h h') (e : H c = some (ex c o)) (ho : h.get? c = some o) : Un fs [] H (upd H' c (ex c o)) h h' := by
  have nn : ∀ {b : Addr}, H b = none → b ≠ c := fun {b} q z => by
    rw [z, e] at q
    cases q
  refine ⟨fun b ob q n h1 h2 => ?_, fun b ob q n h1 h2 => ?_, fun b ob q n h2 => ?_, u.there, fun b xs q => ?_, fun b ob v q => ?_, fun b ps q => ?_⟩
  · exact u.keep b ob q (by rw [unc_ne (nn n)]; exact n) h1 h2
  · exact u.slot b ob q (by rw [unc_ne (nn n)]; exact n) h1 h2
  · rw [upd_ne (nn n)]
    exact u.free b ob q (by rw [unc_ne (nn n)]; exact n) h2
  · have hb := ne_ex e q fun _ _ t => by cases t
    rw [upd_ne hb]
    exact u.tups b xs (by rw [unc_ne hb]; exact q)
  · by_cases hb : b = c
    · subst hb
      rw [e] at q
      cases q
      exact upd_same
    · rw [upd_ne hb]
      exact u.frzs b ob v (by rw [unc_ne hb]; exact q)
  · have hb := ne_ex e q fun _ _ t => by cases t
    rw [upd_ne hb]
    exact u.tbls b ps (by rw [unc_ne hb]; exact q)
end
section
variable {P : Program} {w : World} {K : PySem.W.Frag} {mg : Str → Option Value} {base : Heap} {A : Around} {outer : List Env} {s s' : Shared} {H : Hp} {c : Addr} {o : Obj} {Q : VK} {E : XK} {r : Result}
theorem env0_unc (e0 : Env0 P w K mg base A outer s H) (e : H c = some (ex c o)) : Env0 P w K mg base A outer s (unc H c) := by
  refine ⟨e0.frames, e0.mod, fun b ob q => ⟨(e0.bs b ob q).1, ?_⟩, e0.bsz, e0.funs, fun b q => ?_, hok_unc e0.hok e, e0.bare⟩
  · by_cases hb : b = c
    · rw [hb]; exact unc_same
    · rw [unc_ne hb]; exact (e0.bs b ob q).2
  · by_cases hb : b = c
    · rw [hb]; exact unc_same
    · rw [unc_ne hb]; exact e0.frf b q
theorem env0_cov (e0 : Env0 P w K mg base A outer s H) (e : H c = none) (ho : s.heap.get? c = some o) (nb : base.get? c = none) (nf : c ∉ frs outer) : Env0 P w K mg base A outer s (upd H c (ex c o)) := by
  refine ⟨e0.frames, e0.mod, fun b ob q => ⟨(e0.bs b ob q).1, ?_⟩, e0.bsz, e0.funs, fun b q => ?_, hok_cov e0.hok e ho, e0.bare⟩
  · rw [upd_ne (fun z => by rw [z, nb] at q; cases q)]
    exact (e0.bs b ob q).2
  · rw [upd_ne (fun z => nf (by rw [← z]; exact q))]
    exact e0.frf b q
theorem cr_cov (x : CR L2.CX0 outer P w (upd H c (ex c o)) s (fun v H' => Q v (unc H' c)) E r s') (e : H c = none) (ho : s.heap.get? c = some o) : CR L2.CX0 outer P w H s Q E r s' := by
  match r, x with
  | .error e, x => exact False.elim x
  | .ok (.ret u), x =>
    obtain ⟨v, H', os, bare, un, hok, rv, q⟩ := x
    exact ⟨v, unc H' c, os, bare, un_cov un hok e ho, hok_unc hok (un.frzs c o _ upd_same), rv, q⟩
  | .ok .next, x => exact x
  | .ok .brk, x => exact x
  | .ok .cont, x => exact x
theorem cr_unc (x : CR L2.CX0 outer P w (unc H c) s (fun v H' => H' c = none → Q v (upd H' c (ex c o))) E r s') (e : H c = some (ex c o)) (ho : s.heap.get? c = some o) (nf : c ∉ frs outer) : CR L2.CX0 outer P w H s Q E r s' := by
  match r, x with
  | .error e, x => exact False.elim x
  | .ok (.ret u), x =>
    obtain ⟨v, H', os, bare, un, hok, rv, q⟩ := x
    refine ⟨v, upd H' c (ex c o), os, bare, un_unc un e ho, hok_cov hok (un.free c o ho unc_same (fun z => nomatch z)) (un.keep c o ho unc_same nf (fun z => nomatch z)), rv, q (un.free c o ho unc_same (fun z => nomatch z))⟩
  | .ok .next, x => exact x
  | .ok .brk, x => exact x
  | .ok .cont, x => exact x
end
/-! ### lambdas -/
/-- its words, what it captured, its code object -/
structure LF where
  qual : Str
  params : Arguments
  body : Expr
  scope : Scope
  cl : List (Str × Addr)
  c : Addr
abbrev LF.fd (F : LF) (pm ctv : Value) : FuncData := PySem.W.kla_fn "<lambda>" F.qual F.params F.body F.scope F.cl pm (.ref F.c) ctv
def LmO (f : Addr) (F : LF) : HO := .ext fun h => ∃ (od : Option Addr) (sl : Array (Option Value)) (pm ctv : Value), h.get? f = some (⟨.type "function", od, .func (F.fd pm ctv), sl⟩ : Obj)
theorem lmO_ne {f : Addr} {F : LF} (ps : Array Value) : LmO f F ≠ .tbl ps := fun z => by
  unfold LmO at z
  cases z
theorem lmO_at {P : Program} {w : World} {H : Hp} {h : Heap} {f : Addr} {F : LF} (hok : HOk P w H h) (e : H f = some (LmO f F)) : ∃ (od : Option Addr) (sl : Array (Option Value)) (pm ctv : Value), h.get? f = some (⟨.type "function", od, .func (F.fd pm ctv), sl⟩ : Obj) := by
  obtain ⟨z, _, _⟩ := hok f _ e
  exact z
section
variable {X : Cx} {pins : List (Addr × Obj)} {σ : L2.St} {H : Hp} {s : Shared}
theorem inv_lam {F : LF} {o : Obj} {t' : Nat} {h' : Heap} {pm ctv : Value} (I : Inv X pins σ H { s with heap := h', toks := t' }) (ho : o = { cls := .type "function", data := .func (F.fd pm ctv) }) :
    Inv X pins σ (upd H h'.objs.size (LmO h'.objs.size F)) { s with heap := h'.push o, toks := t' } := by
  subst ho
  refine I.laid (a := h'.objs.size) (fun b u e => Heap.get?_push_of_some _ e) (Nat.le_refl _) ?_
  have e : (h'.push ({ cls := .type "function", data := .func (F.fd pm ctv) } : Obj)).get? h'.objs.size = some ({ cls := .type "function", data := .func (F.fd pm ctv) } : Obj) := Heap.get?_push_size _ rfl
  exact ⟨⟨_, _, pm, ctv, e⟩, ⟨_, e⟩, fun h1 h2 ⟨od, sl, p, t, z⟩ st => ⟨od, sl, p, t, st _ z⟩⟩
/-- it is made: its code object is new, or found in the table -/
theorem lam_mk {T : List (Addr × Str)} {c P : Addr} {params : Arguments} {body : Expr} {scope : Scope} {pos : Pos} {E : Value → Shared → Prop} {Q : Value → Shared → Prop} (I : Inv X pins σ H s) (TB : TabB X.base X.mg c P) (hcode : X.env.code = .ref c)
    (hm : (P, X.env.qual ++ "<lambda>") ∈ T) (hu : ∀ p ∈ T, p.1 = P → p.2 = X.env.qual ++ "<lambda>") (hT : Tabs T H) (hdef : defaultsOf params X.env = ([], [])) (hfree : ∀ y ∈ scope.names, y.2 = .free → ∃ c, X.env.cells.lookup y.1 = some c)
    (h : ∀ (f c' : Addr) (H1 : Hp) (s' : Shared), Inv X pins σ H1 s' → ExtN H H1 → (∀ b, H1 b = none → H b = none) → Tabs T H1 → H f = none → H1 f = some (LmO f ⟨X.env.qual ++ "<lambda>", params, body, scope, cloFrom X.env.cells scope.names [], c'⟩) → H1 c' = some (CodeO c' (X.env.qual ++ "<lambda>")) → Q (.ref f) s') :
    wpAny (model X.prog X.w) X.A (eval (.Lambda params body scope pos) X.env) Q E s := by
  obtain ⟨ps, hP, ht, ha⟩ := hT _ hm
  refine PySem.W.kla_eval hdef ?_
  have bP : s.heap.BuiltinsAt X.mg P := TB.bm.keeps I.bk
  have hP' : s.heap.get? P = some { cls := .none, data := .fields ps } := I.hok P _ hP
  cases hc : codeAmong pos ps.toList with
  | none =>
    refine PySem.W.kla_makeFunction (mg := X.mg) (c := c) (P := P) (ps := ps) (closure_ok hfree) I.ok.glob (I.mod.glob.keeps I.bk) hcode (TB.code.keeps I.bk) hP' ht hc TB.gP bP fun c' ctv h' tk hx hge hlt hrec htb => ?_
    obtain ⟨c2, oc, vs, t, e2, hoc, hd, hv⟩ := hrec
    cases e2
    have nC : H c' = none := I.hok.fresh hge
    have I1 := inv_table (t' := tk) (more := #[rawInt pos.line, rawInt pos.col, .ref c']) (h' := h') I hP (fun b o hb e => hx b o hb e) htb hge ⟨oc, vs, t, hoc, hd, hv⟩
    have hE : ExtN H (upd (upd H P (.tbl (ps ++ #[rawInt pos.line, rawInt pos.col, .ref c']))) c' (CodeO c' (X.env.qual ++ "<lambda>"))) := fun b o e n => by
      rw [upd_ne (ne_of_none e nC), upd_ne (fun z => n ps (Option.some.inj (e.symm.trans (by rw [z]; exact hP))))]
      exact e
    have eL : (ps ++ #[rawInt pos.line, rawInt pos.col, .ref c']).toList = ps.toList ++ [rawInt pos.line, rawInt pos.col, .ref c'] := by simp
    have T1 : Tabs T (upd (upd H P (.tbl (ps ++ #[rawInt pos.line, rawInt pos.col, .ref c']))) c' (CodeO c' (X.env.qual ++ "<lambda>"))) := fun p hp => by
      by_cases hb : p.1 = P
      · rw [hu p hp hb, hb]
        refine ⟨_, by rw [upd_ne (ne_of_none hP nC), upd_same], by rw [eL]; exact PySem.TriplesOk_snoc _ _ _ _ ht, fun p' cv hcv => ?_⟩
        rw [eL] at hcv
        rcases among_app _ ht hcv with z | z
        · obtain ⟨c0, e1, e2⟩ := ha p' cv z
          exact ⟨c0, e1, hE _ _ e2 codeO_ne⟩
        · exact ⟨c', z, upd_same⟩
      · obtain ⟨ps', a1, a2, a3⟩ := hT p hp
        refine ⟨ps', by rw [upd_ne (ne_of_none a1 nC), upd_ne hb]; exact a1, a2, fun p' cv hcv => ?_⟩
        obtain ⟨c0, e1, e2⟩ := a3 p' cv hcv
        exact ⟨c0, e1, hE _ _ e2 codeO_ne⟩
    have nF := I1.hok.fresh (Nat.le_refl _)
    have I2 := inv_lam (F := ⟨X.env.qual ++ "<lambda>", params, body, scope, cloFrom X.env.cells scope.names [], c'⟩) (pm := (X.mg "__name__").getD .none) (ctv := ctv) I1 rfl
    refine h h'.objs.size c' _ _ I2 (fun b o e n => ?_) (fun b e => upd_none (upd_none (upd_none e))) (T1.ext fun b o e => ?_) (I.hok.fresh (Nat.le_trans hge (Nat.le_of_lt hlt))) upd_same ?_
    · have e1 := hE b o e n
      exact (upd_ne (ne_of_none e1 nF)).trans e1
    · exact (upd_ne (ne_of_none e nF)).trans e
    · exact (upd_ne (Nat.ne_of_lt hlt)).trans upd_same
  | some cv =>
    obtain ⟨c', e, hco⟩ := ha pos cv hc
    subst e
    refine PySem.W.kla_makeFunctionHit (mg := X.mg) (c := c) (P := P) (ps := ps) (closure_ok hfree) I.ok.glob (I.mod.glob.keeps I.bk) hcode (TB.code.keeps I.bk) hP' ht hc bP fun ctv h' tk hx hsz => ?_
    have I1 : Inv X pins σ H { s with heap := h', toks := tk } := I.kept hx
    have nF : H h'.objs.size = none := I1.hok.fresh (Nat.le_refl _)
    have I2 := inv_lam (F := ⟨X.env.qual ++ "<lambda>", params, body, scope, cloFrom X.env.cells scope.names [], c'⟩) (pm := (X.mg "__name__").getD .none) (ctv := ctv) I1 rfl
    refine h h'.objs.size c' _ _ I2 (fun b o e n => ?_) (fun b e => upd_none e) (hT.ext fun b o e => ?_) nF upd_same ?_
    · exact (upd_ne (ne_of_none e nF)).trans e
    · exact (upd_ne (ne_of_none e nF)).trans e
    · exact (upd_ne (ne_of_none hco nF)).trans hco
def tLamV (T : List (Addr × Str)) (mk : Addr → LF) : TE := fun σ H Q => Tabs T H ∧ ∀ (f c' : Addr) (H1 : Hp), ExtN H H1 → (∀ b, H1 b = none → H b = none) → Tabs T H1 → H f = none → H1 f = some (LmO f (mk c')) → H1 c' = some (CodeO c' (mk c').qual) → Q (.ref f) H1
theorem pe_lam {T : List (Addr × Str)} {c P : Addr} {params : Arguments} {body : Expr} {scope : Scope} {pos : Pos} (TB : TabB X.base X.mg c P) (hcode : X.env.code = .ref c) (hm : (P, X.env.qual ++ "<lambda>") ∈ T) (hu : ∀ p ∈ T, p.1 = P → p.2 = X.env.qual ++ "<lambda>")
    (hdef : defaultsOf params X.env = ([], [])) (hfree : ∀ y ∈ scope.names, y.2 = .free → X.env.scope.names.lookup y.1 = some .cell ∨ X.env.scope.names.lookup y.1 = some .free) :
    PE X (.Lambda params body scope pos) (tLamV T fun c' => ⟨X.env.qual ++ "<lambda>", params, body, scope, cloFrom X.env.cells scope.names [], c'⟩) := by
  refine ⟨fun pins s σ H Q I h => ?_⟩
  obtain ⟨hT, h⟩ := h
  have hfr : ∀ y ∈ scope.names, y.2 = .free → ∃ c, X.env.cells.lookup y.1 = some c := fun y hy e => (hfree y hy e).elim (fun z => I.ok.has _ (.inl z)) fun z => I.ok.has _ (.inr z)
  exact lam_mk I TB hcode hm hu hT hdef hfr fun f c' H1 s' I1 eN nn T1 f0 f1 c1 => ⟨.ref f, H1, I1, rfl, h f c' H1 eN nn T1 f0 f1 c1⟩
end
/-! ### what it promises -/
structure LOk (P : Program) (w : World) (K : PySem.W.Frag) (mg : Str → Option Value) (base : Heap) (k : Nat) (f : Addr) (F : LF) (pre : Hp → Prop) (sp : Sp) : Prop where
  at_ : ∀ H, pre H → H f = some (LmO f F)
  len : ∀ vs H Q E, sp vs H Q E → vs.length = 1
  run : ∀ (A : Around) (outer : List Env) (s : Shared) (H : Hp) (us : List Value) (vs : List V) (Q : VK) (E : XK), Qt A → Room k A → Env0 P w K mg base A outer s H → pre H → Vals vs us → sp vs H Q E →
    codeAny (model P w) A (.call (.ref f) ⟨us, []⟩) (CR L2.CX0 outer P w H s Q E) s
/-- as a nested def, for its context -/
abbrev LF.nf (F : LF) : NF := ⟨"<lambda>", F.qual, F.params, [], F.scope, F.cl, F.c⟩
/-- what is known when it is called: itself, its code object, the cell c -/
def Lpre (f : Addr) (F : LF) (c : Addr) (o : Obj) (H : Hp) : Prop := H f = some (LmO f F) ∧ H F.c = some (CodeO F.c F.qual) ∧ H c = some (ex c o)
section
variable {P : Program} {w : World} {K : PySem.W.Frag} {mg : Str → Option Value} {base : Heap} {N fr : List Str} {F : LF} {f c : Addr} {o : Obj} {k : Nat} {sp : Sp} {y : Str}
theorem codeO_frz {c : Addr} {q : Str} : ∀ (o : Obj) (v : HO), CodeO c q ≠ .frz o v := fun o v z => by
  unfold CodeO at z
  cases z
theorem lmO_frz {f : Addr} {F : LF} : ∀ (o : Obj) (v : HO), LmO f F ≠ .frz o v := fun o v z => by
  unfold LmO at z
  cases z
/-- THE RULE: a lambda of one parameter by its body; the cell that it may have captured is let go while it runs -/
theorem lok_of (S : NScope N [y] fr F.scope) (hb : ∀ (pm ctv : Value) (u : Value), bindArgs (F.fd pm ctv) ⟨[u], []⟩ = pure [(y, u)]) (len : ∀ vs H Q E, sp vs H Q E → vs.length = 1) (ws : List (Option V))
    (hc : ∀ h : Heap, h.get? c = some o → ∀ H : Hp, H c = none → CellsAt F.cl fr ws h H)
    (hbody : ∀ (A : Around) (outer : List Env) (s : Shared) (H : Hp) (vs : List V) (Q : VK) (E : XK), Qt (A.deeper (envF F.nf f s.heap.objs.size)) → Room k (A.deeper (envF F.nf f s.heap.objs.size)) → sp vs (upd H c (ex c o)) Q E → H c = none →
      ∃ t, PE (ncx L2.CX0 P w K mg base N F.nf f A outer s H E) F.body t ∧ t (startF N vs ws) H (fun v H' => H' c = none → Q v (upd H' c (ex c o)))) :
    LOk P w K mg base (k + 1) f F (Lpre f F c o) sp := by
  refine ⟨fun H h => h.1, len, fun A outer s H us vs Q E hq hr e0 hp r hsp => ?_⟩
  obtain ⟨hf, hcd, hce⟩ := hp
  have hl := len _ _ _ _ hsp
  obtain ⟨v, rfl⟩ : ∃ v, vs = [v] := by
    match vs, hl with
    | [v], _ => exact ⟨v, rfl⟩
  obtain ⟨u, rfl⟩ : ∃ u, us = [u] := by
    match us, r with
    | [u], _ => exact ⟨u, rfl⟩
  have ho : s.heap.get? c = some o := cov_at e0.hok hce
  have nf : c ∉ frs outer := fun z => by
    have q := e0.frf c z
    rw [hce] at q
    cases q
  have e1 := env0_unc e0 hce
  have eH : upd (unc H c) c (ex c o) = H := by
    funext b
    by_cases hb : b = c
    · rw [hb, upd_same, hce]
    · rw [upd_ne hb, unc_ne hb]
  have lim : s.heap.NoLimit := e0.mod.nolimit.keeps fun b o e => (e0.bs b o e).1
  obtain ⟨od, sl, pm, ctv, hof⟩ := lmO_at e0.hok hf
  refine codeAny_mono (R := CR L2.CX0 outer P w (unc H c) s (fun v H' => H' c = none → Q v (upd H' c (ex c o))) E) ?_ fun r s' x => cr_unc x hce ho nf
  refine PySem.W.kla_callFunE hr.depth hof rfl S.co S.gen rfl (codeO_at e0.hok hcd) ?_
  rw [hb pm ctv u]
  refine wpAny_pure (wpAny_newFunctionEnv S.nocell (fun ⟨n, _⟩ hy => S.par n (by cases List.mem_singleton.mp hy; exact List.mem_singleton.mpr rfl)) (fun h₁ hns hsb => ⟨lim.fresh _ hsb, ?_⟩) S.kind)
  show codeAny _ _ (.expr F.body (envF F.nf f s.heap.objs.size)) _ _
  have kp : ∀ b o, s.heap.get? b = some o → h₁.get? b = some o := fun b o e => hsb.extBut b o (Nat.ne_of_lt (Heap.lt_size e)) (Heap.get?_push_of_some _ e)
  have C := hc s.heap ho (unc H c) unc_same
  obtain ⟨t, ht, hq2⟩ := hbody A outer s (unc H c) [v] Q E hq (hr.deeper _) (by rw [eH]; exact hsp) unc_same
  have I : Inv (ncx L2.CX0 P w K mg base N F.nf f A outer s (unc H c) E) [] (startF N [v] ws) (unc H c) { s with heap := h₁, toks := s.toks + ([y].zip [u]).length } := inv_startN (ps := [y]) (us := [u]) S hr.hd e1 rfl r C hns kp
  refine PySem.W.kla_codeExpr (wpAny_mono (ht.run [] _ _ (unc H c) _ I hq2) (fun v s' hq => ?_) fun e s' hq => hq)
  obtain ⟨w', H', J', rv, q⟩ := hq
  exact ⟨w', H', J'.os, J'.bare, J'.base, J'.hok, rv, q⟩
end
/-! ### calls of a name that holds one -/
def tLC (i : Nat) (f : Addr) (pre : Hp → Prop) (sp : Sp) (t : TA) : TE := fun σ H Q => σ[i]? = some (some (.ref f)) ∧ pre H ∧ t σ H fun vs H1 => pre H1 ∧ sp vs H1 Q fun _ _ _ => False
section
variable {X : Cx} {F : LF} {f : Addr} {pre : Hp → Prop} {sp : Sp} {i j k : Nat} {x : Str} {t : TA} {e : Expr} {es : List Expr} {p pos : Pos}
theorem lam_fn {pins : List (Addr × Obj)} {σ : L2.St} {H : Hp} {s : Shared} (I : Inv X pins σ H s) (e : H f = some (LmO f F)) : PySem.W.FnAt f s.heap := by
  obtain ⟨od, sl, pm, ctv, ho⟩ := lmO_at I.hok e
  exact ⟨_, od, _, sl, ho⟩
theorem pe_lcall (L : LOk X.prog X.w X.K X.mg X.base k f F pre sp) (hq : Qt X.A) (hr : Room j X.A) (hk : k ≤ j) (hN : X.N[i]? = some x) (hv : Vis X.env.scope x) (ha : PA X (e :: es) t)
    (hd : (x == ("__debug__" : Str)) = false := by decide) (hcd : (x == ("__classdict__" : Str)) = false := by decide)
    (he : starEach (e :: es) X.env = (false, eval e X.env) :: starEach es X.env := by rfl) (hpl : (backTo pos (starEach es X.env)).any (·.1) = false := by rfl) :
    PE X (.Call (.Name x p) (e :: es) [] pos) (tLC i f pre sp t) := by
  refine ⟨fun pins s σ H Q I h => ?_⟩
  obtain ⟨hs, hf, ht⟩ := h
  refine wpAny_Call_Name_kw (thn ((pe_var (pos := p) hN hv hd hcd).run pins s σ H (fun v H1 => v = .ref f ∧ H1 = H) I ⟨.ref f, hs, rfl, rfl⟩) fun u s1 ⟨v, H1, I1, r1, q1⟩ => ?_)
  obtain ⟨ev, eH⟩ := q1
  subst ev
  rw [eH] at I1
  obtain rfl : u = Value.ref f := r1
  refine PySem.W.callWith_F (first := []) (lam_fn I1 (L.at_ _ hf)) (thn (ha.run pos pins s1 σ H _ I1 ht) fun us s2 ⟨vs, H2, I2, r, h1, q⟩ => ⟨lam_fn I2 (L.at_ _ h1), ?_⟩) he hpl
  show wpAny _ _ (call (.ref f) us) _ _ _
  refine wpAny_call (codeAny_mono (L.run X.A X.stack s2 H2 us vs Q (fun _ _ _ => False) hq (hr.mono hk) I2.env0 h1 r q) fun r s' hq => ?_)
  cases r with
  | error e => exact hq.elim
  | ok fl =>
    cases fl with
    | ret u => exact I2.after hq
    | next => exact False.elim hq
    | brk => exact False.elim hq
    | cont => exact False.elim hq
end
/-! ### a def called while a captured name of the running frame is known -/
def tCT (cells : List (Str × Addr)) (y : Str) (jf : Nat) (sp : Sp) (t : TA) : TE := fun σ H Q => ∃ far : Int, σ[jf]? = some (some (.int far)) ∧
  t σ H fun vs H1 => ∀ (c : Addr) (o : Obj) (tk : Tok), cells.lookup y = some c → o.data = .cell (some (.int far tk)) → H1 c = none → sp vs (upd H1 c (ex c o)) (fun v H' => Q v (unc H' c)) fun _ _ _ => False
section
variable {X : Cx} {sp : Sp} {jf j k : Nat} {x y : Str} {ps : List Str} {t : TA} {e : Expr} {es : List Expr} {p pos : Pos}
theorem pe_cT (c : Cal X.prog X.w X.K X.mg X.base L2.CX0 k x ps sp) (hfn : X.fn y = true) (hyN : X.N[jf]? = some y) (hyc : X.env.scope.names.lookup y = some .cell) (hq : Qt X.A) (hr : Room j X.A) (hk : k ≤ j)
    (hg : Gl X x) (ha : PA X (e :: es) t) (hdb : (x == ("__debug__" : Str)) = false := by decide)
    (he : starEach (e :: es) X.env = (false, eval e X.env) :: starEach es X.env := by rfl)
    (hpl : (backTo pos (starEach es X.env)).any (·.1) = false := by rfl) :
    PE X (.Call (.Name x p) (e :: es) [] pos) (tCT X.env.cells y jf sp t) := by
  obtain ⟨f, fd, F, hm, hkp, hb, _⟩ := c.ex
  constructor
  intro pins s σ H Q I h
  obtain ⟨far, hfar, h⟩ := h
  refine wpAny_Call_Name_kw (ld_glob I hg hm ?_ hdb)
  refine PySem.W.callWith_K (h₀ := X.base) I.ok.mod.kin hkp ?_ he hpl
  refine thn (ha.run pos pins s σ H _ I h) ?_
  rintro us s1 ⟨vs, H1, I1, r, q⟩
  refine ⟨I1.kIn, ?_⟩
  rw [List.nil_append]
  obtain ⟨cc, hcc⟩ : ∃ cc, X.env.cells.lookup y = some cc := I1.ok.has y (.inl hyc)
  obtain ⟨m, hn, hl⟩ := I1.loc
  obtain ⟨u, ru, lk⟩ := hl jf y _ hyN hfar (.inr (.inl hyc))
  obtain ⟨o, ho, hd⟩ : s1.heap.IsCell cc (some u) := by
    rcases lk with ⟨z, _⟩ | ⟨_, c', hc', hcell⟩
    · have z' : X.env.scope.names.lookup y = some .local := z
      rw [hyc] at z'
      cases z'
    · rw [hcc] at hc'
      cases hc'
      exact hcell
  have hcn : H1 cc = none := I1.freeC y cc hcc
  obtain ⟨tk, rfl⟩ : ∃ tk, u = .int far tk := ru
  have hge := I1.ok.cab y cc hfn hcc
  have nb : X.base.get? cc = none := by
    cases e : X.base.get? cc with
    | none => rfl
    | some ob => exact absurd (Heap.lt_size e) (Nat.not_lt.mpr (Nat.le_trans I1.ok.bsz hge))
  have nf : cc ∉ frs X.stack := fun z => by
    rcases List.mem_cons.mp (I1.stkSub _ z) with e | e
    · obtain ⟨ob, es, ep, e1, e2, _⟩ := hn
      rw [← e, ho] at e1
      cases e1
      rw [hd] at e2
      cases e2
    · obtain ⟨_, ob, e1, _⟩ := I1.ok.funs.mem e
      exact absurd (Heap.lt_size e1) (Nat.not_lt.mpr hge)
  have hsp := q cc o tk hcc hd hcn
  have hl2 : us.length = ps.length := by
    rw [← r.length]
    exact F.len _ _ _ _ hsp
  have z := F.run X.A X.stack s1 (upd H1 cc (ex cc o)) ⟨us, []⟩ us vs _ _ hq (hr.mono hk) (env0_cov I1.env0 hcn ho nb nf) (by
    have z := hb s1 us I1.kIn (by rw [List.append_nil]; exact hl2)
    rw [List.append_nil] at z
    exact z) r hsp
  refine wpAny_call (codeAny_mono z ?_)
  intro r' s' ho'
  have ho2 := cr_cov (Q := Q) ho' hcn ho
  match r', ho2 with
  | .error e, ho2 => exact ho2.elim
  | .ok (.ret u), ho2 => exact I1.after ho2
  | .ok .next, ho2 => exact False.elim ho2
  | .ok .brk, ho2 => exact False.elim ho2
  | .ok .cont, ho2 => exact False.elim ho2
end
end X11

/-! the end of a law that itself makes lambdas: its own code object's table is tracked -/
namespace X12
open PySem PySem.Spec PyProof.Rows L2 LamX Kit
/-- the code object of a def, read off the frozen part: its table is at P -/
def codeB (K : PySem.W.Frag) (cd : Value) : Option (Addr × Addr) := match cd with
  | .ref c => match K.lookup c with
    | some ⟨.type n, _, .fields vs, _⟩ => match (vs[11]? : Option Value), vs.getD 7 Value.none, vs.getD 9 Value.none, vs.getD 10 Value.none, vs.getD 18 Value.none with
      | some (Value.ref P), .int _ _, .bool _, .int _ _, .str _ _ => if n = "code" ∧ c ≠ P ∧ (K.lookup P).isNone = true then some (c, P) else none
      | _, _, _, _, _ => none
    | _ => none
  | _ => none
structure CodeK (K : PySem.W.Frag) (c P : Addr) : Prop where
  ex : ∃ (dd : Option Addr) (vs : Array Value) (sl : Array (Option Value)) (file : Str) (tf : Tok) (flags : Int) (tg : Tok) (inF : Bool) (text : Int) (tt : Tok),
    K.lookup c = some ⟨.type "code", dd, .fields vs, sl⟩ ∧ vs[11]? = some (.ref P) ∧ vs.getD 18 .none = .str file tf ∧ vs.getD 7 .none = .int flags tg ∧ vs.getD 9 .none = .bool inF ∧ vs.getD 10 .none = .int text tt
  ne : c ≠ P
  no : K.lookup P = none
theorem codeB_ok {K : PySem.W.Frag} {cd : Value} {c P : Addr} (h : codeB K cd = some (c, P)) : cd = .ref c ∧ CodeK K c P := by
  unfold codeB at h
  split at h
  · rename_i c1
    split at h
    · rename_i n dd vs sl hk
      split at h
      · rename_i P1 flags tg inF text tt file tf h11 h7 h9 h10 h18
        split at h
        · rename_i hc
          obtain ⟨rfl, h2, h3⟩ := hc
          cases h
          exact ⟨rfl, ⟨_, _, _, _, _, _, _, _, _, _, hk, h11, h18, h7, h9, h10⟩, h2, Option.isNone_iff_eq_none.mp h3⟩
        · cases h
      · cases h
    · cases h
  · cases h
theorem CodeK.hd {K : PySem.W.Frag} {c P : Addr} (h : CodeK K c P) {hp : Heap} (X : K.In hp) : PySem.W.CodeHd hp c P := by
  obtain ⟨dd, vs, sl, file, tf, flags, tg, inF, text, tt, e, e11, e18, e7, e9, e10⟩ := h.ex
  refine ⟨_, vs, file, tf, flags, tg, inF, text, tt, X _ _ e, rfl, rfl, e11, ?_, e18, e7, e9, e10, h.ne⟩
  rw [Array.getD_eq_getD_getElem?, e11]
  rfl
section
variable {P : Program} {w : World} {K : PySem.W.Frag} {mg : Str → Option Value}
/-- tracked at most: the script, the table -/
def Two (T : Addr) (H : Hp) : Prop := ∀ b, H b = none ∨ b = T ∨ ∃ o xs, H b = some (.frz o (.lst xs))
theorem law_callT {mb : Str → Option Value} {CX : CXT} {k : Nat} {fa a c T : Addr} {fd : FuncData} {x : Str} {sp : Sp} {s₁ : Shared} {vs : List Value} {ns : List Int}
    (KX : K.In s₁.heap) (hns : s₁.heap.Ns mainGlobals mg) (hb : s₁.heap.Ns builtinsNs mb)
    (hbb : ∀ x : Str, x ≠ "__name__" → mb x = bootBuiltins x) (hlim : s₁.heap.NoLimit) (hg : s₁.gens = #[])
    (ck : CodeK K c T) (eT : s₁.heap.get? T = some { cls := .none, data := .fields #[] })
    (hbm : ∃ (bm : Addr) (ob : Obj), mg "__builtins__" = some (.ref bm) ∧ bm ≠ builtinsNs ∧ s₁.heap.get? bm = some ob ∧
      ob.cls = .type "module" ∧ ob.dict = some builtinsNs ∧ ob.data = .plain)
    (ha : s₁.heap.get? a = some { cls := .type "list", data := .seq vs.toArray }) (hi : IntsAre vs ns)
    (hl : ns.length ≤ sizeLine) (hr : Room k callerA)
    (F : ∀ base : Heap, K.In base → base.Ns mainGlobals mg → TabB base mg c T → FnG P w K mg base CX k fa fd [x] sp)
    (hbind : ∀ (s : Shared) (u : Value), BindsTo s fd ⟨[u], []⟩ [(x, u)])
    (hsp : ∀ H : Hp, H T = some (.tbl #[]) → SqL K H a (ns.map V.int) → sp [.ref a] H (fun v _ => v = .bl true) fun _ _ _ => False)
    (hCX : ∀ H e s', CX [] H s₁ (fun _ _ _ => False) e s' → False) :
    codeAny (model P w) callerA (.call (.ref fa) ⟨[.ref a], []⟩)
      (fun r s' => r = .ok (.ret (.bool true)) ∧ OldK s₁.heap s'.heap ∧ s'.os = s₁.os ∧ AllBare s'.gens) s₁ := by
  have rv := vals_ints hi
  have lenV := hi.length
  have neq : a ≠ T := by
    rintro rfl
    rw [ha] at eT
    cases eT
  have hC := ck.hd KX
  -- over any abstract heap that tracks the table, and the script at most
  have inner : ∀ H : Hp, H T = some (.tbl #[]) → Two T H → SqL K H a (ns.map V.int) → HOk P w H s₁.heap → (∀ b, H b ≠ none → b = a ∨ b = T) → (H a ≠ none → K.lookup a = none) →
      codeAny (model P w) callerA (.call (.ref fa) ⟨[.ref a], []⟩)
        (fun r s' => r = .ok (.ret (.bool true)) ∧ OldK s₁.heap s'.heap ∧ s'.os = s₁.os ∧ AllBare s'.gens) s₁ := by
    intro H hH hO hS hok hA hK
    -- what is neither list nor table is not tracked
    have free : ∀ {b : Addr} {o : Obj}, s₁.heap.get? b = some o → (∀ vs n, o.data ≠ .seq vs n) → o.data ≠ .fields #[] → H b = none := by
      intro b o e n1 n2
      cases q : H b with
      | none => rfl
      | some u =>
        rcases hA b (by rw [q]; simp) with rfl | rfl
        · rw [ha] at e
          cases e
          exact absurd rfl (n1 _ _)
        · rw [eT] at e
          cases e
          exact absurd rfl n2
    have freeD : ∀ {b : Addr} {o : Obj} {es : Array DictEntry} {ep : Nat}, s₁.heap.get? b = some o → o.data = .dict es ep → H b = none := by
      intro b o es ep e d
      refine free e (fun vs n z => ?_) fun z => ?_ <;> rw [d] at z <;> cases z
    have nsK : ∀ {b : Addr} {m : Str → Option Value}, s₁.heap.Ns b m → (hidT s₁.heap H).Ns b m := by
      rintro b m ⟨o, es, ep, e, d, r⟩
      exact ⟨o, es, ep, hidT_get e (freeD e d), d, r⟩
    have hKb : K.In (hidT s₁.heap H) := by
      intro b o e
      refine hidT_get (KX b o e) ?_
      cases q : H b with
      | none => rfl
      | some u =>
        rcases hA b (by rw [q]; simp) with rfl | rfl
        · rw [hK (by rw [q]; simp)] at e
          cases e
        · rw [ck.no] at e
          cases e
    obtain ⟨mc, l1, l2⟩ := hlim
    have hM : Mod K mg (hidT s₁.heap H) := ⟨hKb, nsK hns, ⟨mb, nsK hb, hbb⟩, mc, nsK l1, l2⟩
    have TB : TabB (hidT s₁.heap H) mg c T := by
      refine ⟨ck.hd hKb, ?_, ?_⟩
      · obtain ⟨bm, ob, b1, b2, b3, b4, b5, b6⟩ := hbm
        refine ⟨bm, ob, b1, b2, ?_, ?_, hidT_get b3 (free b3 (fun vs n z => ?_) fun z => ?_), b4, b5, b6⟩
        · rintro rfl
          obtain ⟨o, es, ep, e, hd, _⟩ := hns
          rw [e] at b3
          cases b3
          rw [hd] at b6
          cases b6
        · rintro rfl
          rw [eT] at b3
          cases b3
          cases b6
        · rw [b6] at z
          cases z
        · rw [b6] at z
          cases z
      · intro z
        obtain ⟨o, es, ep, e, hd, _⟩ := hns
        rw [z, eT] at e
        cases e
        cases hd
    have no0 : ∀ b : Addr, b ∈ ([] : List Addr) → False := fun b z => by simp at z
    have e0 : Env0 P w K mg (hidT s₁.heap H) callerA [] s₁ H :=
      ⟨rfl, hM, fun b o e => of_hidT e, Nat.le_of_eq (hidT_size _ _), trivial, fun b z => (no0 b z).elim, hok, .of_eq hg⟩
    have go := (F _ hKb (nsK hns) TB).run callerA [] s₁ H ⟨[.ref a], []⟩ [.ref a] [.ref a] _ _ rfl hr e0
      (hbind s₁ (.ref a)) (.cons rfl .nil) (hsp H hH hS)
    refine codeAny_mono go ?_
    intro r s' h
    match r, h with
    | .error e, h => exact (hCX H e s' h).elim
    | .ok .next, h => exact False.elim h
    | .ok .brk, h => exact False.elim h
    | .ok .cont, h => exact False.elim h
    | .ok (.ret u), h =>
      obtain ⟨v, H', os, bare, un, hok', r', q⟩ := h
      have q' : v = .bl true := q
      subst q'
      obtain rfl : u = Value.bool true := r'
      have kept : ∀ b o, b ≠ T → s₁.heap.get? b = some o → s'.heap.get? b = some o := by
        intro b o nb e
        cases q : H b with
        | none => exact un.keep b o e q (no0 b) (by simp)
        | some u =>
          rcases hO b with z | z | ⟨ob, xs, z⟩
          · rw [q] at z
            cases z
          · exact absurd z nb
          · obtain ⟨e1, _⟩ := hok b _ z
            obtain ⟨e2, _⟩ := hok' b _ (un.frzs b ob _ z)
            rw [e] at e1
            cases e1
            exact e2
      obtain ⟨more, z⟩ := un.tbls T #[] hH
      have gT : s'.heap.get? T = some { cls := .none, data := .fields (#[] ++ more) } := hok' T _ z
      refine ⟨rfl, ⟨?_, ?_⟩, os, bare⟩
      · intro b o e
        by_cases hbT : b = T
        · subst hbT
          rw [eT] at e
          cases e
          exact .inr (.inl ⟨(hC.tab eT).isCodeTable, rfl, #[], more, rfl, gT⟩)
        · exact .inl (kept b o hbT e)
      · intro b o e
        by_cases hbT : b = T
        · subst hbT
          exact ⟨_, gT⟩
        · exact ⟨o, kept b o hbT e⟩
  cases hk : K.lookup a with
  | some o =>
    have e := KX a o hk
    rw [ha] at e
    cases e
    have sz : vs.toArray.size ≤ sizeLine := by
      rw [List.size_toArray, lenV]
      exact hl
    have yes : ∀ {b : Addr}, b = T → (if b = T then some (HO.tbl #[]) else none) = some (.tbl #[]) := fun h => if_pos h
    have no : ∀ {b : Addr}, ¬ b = T → (if b = T then some (HO.tbl #[]) else none) = none := fun h => if_neg h
    refine inner (fun b => if b = T then some (.tbl #[]) else none) (yes rfl) ?_ (.inr ⟨_, vs.toArray, _, hk, rfl, rfl, rfl, sz, by simpa using rv⟩) ?_ ?_ fun z => absurd (no neq) z
    · intro b
      by_cases h : b = T
      · exact .inr (.inl h)
      · exact .inl (no h)
    · intro b u z
      by_cases h : b = T
      · have z' := (yes h).symm.trans z
        cases z'
        subst h
        exact eT
      · have z' := (no h).symm.trans z
        cases z'
    · intro b z
      by_cases h : b = T
      · exact .inr h
      · exact absurd (no h) z
  | none =>
    let u : HO := .frz { cls := .type "list", data := .seq vs.toArray } (.lst (ns.map V.int))
    have atA : ∀ {b : Addr}, b = a → (if b = a then some u else if b = T then some (.tbl #[]) else none) = some u := fun h => if_pos h
    have atT : ∀ {b : Addr}, ¬ b = a → b = T → (if b = a then some u else if b = T then some (.tbl #[]) else none) = some (.tbl #[]) := fun h h2 => (if_neg h).trans (if_pos h2)
    have at0 : ∀ {b : Addr}, ¬ b = a → ¬ b = T → (if b = a then some u else if b = T then some (.tbl #[]) else none) = none := fun h h2 => (if_neg h).trans (if_neg h2)
    refine inner (fun b => if b = a then some u else if b = T then some (.tbl #[]) else none) (atT neq.symm rfl) ?_ (.inl (.inr ⟨_, atA rfl⟩)) ?_ ?_ fun _ => hk
    · intro b
      by_cases h1 : b = a
      · exact .inr (.inr ⟨_, _, atA h1⟩)
      · by_cases h2 : b = T
        · exact .inr (.inl h2)
        · exact .inl (at0 h1 h2)
    · intro b v z
      by_cases h1 : b = a
      · have z' := (atA h1).symm.trans z
        cases z'
        subst h1
        refine ⟨ha, ?_, vs, _, rv, ha⟩
        rw [List.length_map]
        exact hl
      · by_cases h2 : b = T
        · have z' := (atT h1 h2).symm.trans z
          cases z'
          subst h2
          exact eT
        · have z' := (at0 h1 h2).symm.trans z
          cases z'
    · intro b z
      by_cases h1 : b = a
      · exact .inl h1
      · by_cases h2 : b = T
        · exact .inr h2
        · exact absurd (at0 h1 h2) z
end
/-- the goal of the head, for a law that makes lambdas -/
theorem walk_ofT {l : PySem.W.OpenLaw} {n k : Nat} {q : Program} {loose : List Str} {XP : (Str → Option Value) → Heap → Prop}
    {YP : World → Heap → Prop} {d : DefRec} {K : Params → PySem.W.Frag} {CX : World → CXT} {sp : World → Addr → Sp} {x : Str}
    (hn : l.most = some n) (hn2 : n ≤ sizeLine) (hdf : d.params.defaults = []) (hr : Room k callerA)
    (hrec : ((recsOf q).any fun e => e.name == d.name) = true)
    (hY : ∀ (w : World) (h : Heap), YP w h → (K w.params).In h)
    (F : ∀ (w : World) (mg : Str → Option Value) (fa : Addr) (h : Heap), (K w.params).In h → h.Ns mainGlobals mg →
      mg d.name = some (.ref fa) →
      ∃ (fd : FuncData) (c T : Addr) (oc : Value) (od : Option Addr) (sl : Array (Option Value)), (K w.params).lookup fa = some ⟨oc, od, .func fd, sl⟩ ∧ fd.code = .ref c ∧ CodeK (K w.params) c T ∧ (∀ (s : Shared) (u : Value), BindsTo s fd ⟨[u], []⟩ [(x, u)]) ∧
        ∀ base : Heap, (K w.params).In base → base.Ns mainGlobals mg → TabB base mg c T → FnG l.prog w (K w.params) mg base (CX w) k fa fd [x] (sp w T))
    (hsp : ∀ (w : World) (T : Addr) (H : Hp) (a : Addr) (ns : List Int), ns.length ≤ n →
      (∀ z ∈ ns, Builtin.Int.intBits z ≤ 1048576) → H T = some (.tbl #[]) → SqL (K w.params) H a (ns.map V.int) →
      sp w T [.ref a] H (fun v _ => v = .bl true) fun _ _ _ => False)
    (hCX : ∀ (w : World) (H : Hp) (s : Shared) (e : Value) (s' : Shared), CX w [] H s (fun _ _ _ => False) e s' → False) :
    PySem.W.WalkO q loose XP YP l.row.toRowW d [] (fun f vs => PySem.call f vs) := by
  refine Att.attach_callB hn hdf ?_
  intro w s₀ s₁ mg mb fa o pm cd doc a vs ns G Y ho hd hcd hmg hobj hints hlen hbits hg
  have KX := hY w _ Y
  obtain ⟨fd, c, T, oc, od, sl, lk, hc, ck, hbind, hF⟩ := F w mg fa _ KX G.T.g hmg
  have eT : s₁.heap.get? T = some { cls := .none, data := .fields #[] } := by
    obtain ⟨e, he, hne⟩ := List.any_eq_true.mp hrec
    obtain ⟨a', o', fd', c', P', g1, g2, g3, g4, g5, g6⟩ := G.T.tab e he
    rw [show e.name = d.name from beq_iff_eq.mp hne, hmg] at g1
    cases g1
    rw [KX _ _ lk] at g2
    cases g2
    cases g3
    rw [hc] at g4
    cases g4
    obtain ⟨⟨oc', vc, e1, _, e3, e4⟩, hP⟩ := g6
    obtain ⟨_, _, _, _, _, _, _, _, _, _, k1, k2, _⟩ := ck.ex
    rw [KX _ _ k1] at e1
    cases e1
    cases e3
    rw [k2] at e4
    cases e4
    exact hP
  exact law_callT KX G.T.g G.T.b G.T.builtins G.T.nolimit hg ck eT G.T.bmain hobj hints (Nat.le_trans hlen hn2) hr hF hbind (fun H hH hS => hsp w T H a ns hlen hbits hH hS) fun H e s' => hCX w H s₁ e s'
end X12

/-! x in t, t a tuple of data -/
namespace X13
open PySem PySem.Spec PyProof.Rows L2 Kit
def rInTD (K : PySem.W.Frag) : R2 := fun x t H Q => ∃ (dx : PyData) (dt : List PyData), Dp K H x dx ∧ Dp K H t (.tuple dt) ∧
  SeqAt.shaped dx = true ∧ SeqAt.shaped (.tuple dt) = true ∧ Q (.bl (dt.any fun z => PyData.eqv z dx)) H
theorem op_inTD {X : Cx} (room : X.A.units + 65 < cLine) : OpR X (compareOp .In) (rInTD X.K) := by
  intro pins s σ H x t vx vt Q I rx rt h
  obtain ⟨dx, dt, h1, h2, s1, s2, q⟩ := h
  obtain ⟨ax, g1⟩ := Dp.reads I dx x vx h1 rx
  obtain ⟨at', g2⟩ := Dp.reads I (.tuple dt) t vt h2 rt
  exact SeqAt.in_tuple_reads g2 g1 (SeqAt.canLay_of_shaped s2) (SeqAt.canLay_of_shaped s1) (room_in_shaped s1 room)
    ⟨.bl _, H, I, rfl, q⟩
end X13

set_option autoImplicit false
/-! single steps of a question, by name: where a lemma answers a part that is not at the front -/
namespace St
open PySem PySem.Spec PyProof.Rows L2
section
variable {σ : L2.St} {H : Hp} {Q : VK} {D : Ends} {te tf : TE} {ta tr : TA} {QA : List V → Hp → Prop}
theorem ret (h : te σ H fun v H1 => D.rt v H1) : tRet te D σ H := h
theorem tup (h : ta σ H fun xs H1 => xs.length ≤ sizeLine ∧ ∀ p, H1 p = none → Q (.ref p) (upd H1 p (.tup xs))) : tTup ta σ H Q := h
theorem cons (h : te σ H fun x H1 => tr σ H1 fun xs H2 => QA (x :: xs) H2) : tCons te tr σ H QA := h
theorem cb {r : List V → Hp → VK → Prop} (h : ta σ H fun vs H1 => r vs H1 Q) : tCB r ta σ H Q := h
theorem op {r : R2} (h : te σ H fun x H1 => tf σ H1 fun y H2 => r x y H2 Q) : tOp r te tf σ H Q := h
theorem yes {A B : Hp → Prop} (h : A H) : tYes σ H fun b H' => if b = true then A H' else B H' := by
  show if true = true then A H else B H
  rw [if_pos rfl]
  exact h
end
end St

namespace K53
open PySem PySem.Spec PyProof.Rows L2 Kit
def topS (i : Nat) : Stmt := PySem.Challenge.pw_wiretongue_k53_whole_delays_put_otherwis.main.body.getD i (.Pass ⟨0, 0, 0, 0⟩)
abbrev s_feeds_of : Stmt := topS 2
abbrev N_feeds_of : List Str := ["gate"]
theorem S_feeds_of : FnScope N_feeds_of ["gate"] (defScope s_feeds_of) := ⟨rfl, rfl, rfl, by decide +kernel, rfl, by decide +kernel, by decide +kernel⟩
abbrev s_brought : Stmt := topS 5
abbrev N_brought : List Str := ["arrivals", "gates", "ways", "g", "step", "feed", "way"]
theorem S_brought : FnScope N_brought ["arrivals", "gates", "ways", "g", "step"] (defScope s_brought) := ⟨rfl, rfl, rfl, by decide +kernel, rfl, by decide +kernel, by decide +kernel⟩
abbrev s_own_delay : Stmt := topS 6
abbrev N_own_delay : List Str := ["gate", "delays"]
theorem S_own_delay : FnScope N_own_delay ["gate", "delays"] (defScope s_own_delay) := ⟨rfl, rfl, rfl, by decide +kernel, rfl, by decide +kernel, by decide +kernel⟩
abbrev s_arrivals_of : Stmt := topS 7
abbrev N_arrivals_of : List Str := ["gates", "ways", "delays", "arrivals", "g", "gate", "time", "_"]
theorem S_arrivals_of : FnScope N_arrivals_of ["gates", "ways", "delays"] (defScope s_arrivals_of) := ⟨rfl, rfl, rfl, by decide +kernel, rfl, by decide +kernel, by decide +kernel⟩
abbrev s_path_to : Stmt := topS 8
abbrev N_path_to : List Str := ["box", "gates", "ways", "arrivals", "step", "path", "going", "_", "feed"]
theorem S_path_to : FnScope N_path_to ["box", "gates", "ways", "arrivals", "step"] (defScope s_path_to) := ⟨rfl, rfl, rfl, by decide +kernel, rfl, by decide +kernel, by decide +kernel⟩
abbrev s_slowest : Stmt := topS 9
abbrev N_slowest : List Str := ["net", "laying", "clock", "delays", "gates", "ways", "arrivals", "boxes", "g", "gate", "time", "box"]
theorem S_slowest : FnScope N_slowest ["net", "laying", "clock", "delays"] (defScope s_slowest) := ⟨rfl, rfl, rfl, by decide +kernel, rfl, by decide +kernel, by decide +kernel⟩
abbrev s_is_natural : Stmt := topS 11
abbrev N_is_natural : List Str := ["thing"]
theorem S_is_natural : FnScope N_is_natural ["thing"] (defScope s_is_natural) := ⟨rfl, rfl, rfl, by decide +kernel, rfl, by decide +kernel, by decide +kernel⟩
abbrev s_is_whole : Stmt := topS 12
abbrev N_is_whole : List Str := ["thing", "end"]
theorem S_is_whole : FnScope N_is_whole ["thing", "end"] (defScope s_is_whole) := ⟨rfl, rfl, rfl, by decide +kernel, rfl, by decide +kernel, by decide +kernel⟩
abbrev s_is_tuple : Stmt := topS 13
abbrev N_is_tuple : List Str := ["thing", "many"]
theorem S_is_tuple : FnScope N_is_tuple ["thing", "many"] (defScope s_is_tuple) := ⟨rfl, rfl, rfl, by decide +kernel, rfl, by decide +kernel, by decide +kernel⟩
abbrev s_are_arrivals : Stmt := topS 15
abbrev N_are_arrivals : List Str := ["gates", "ways", "thing", "delays", "arrival", "g", "gate", "own", "time", "_"]
theorem S_are_arrivals : FnScope N_are_arrivals ["gates", "ways", "thing", "delays"] (defScope s_are_arrivals) := ⟨rfl, rfl, rfl, by decide +kernel, rfl, by decide +kernel, by decide +kernel⟩
abbrev s_is_path : Stmt := topS 16
abbrev N_is_path : List Str := ["gates", "clock", "thing", "g", "feed"]
theorem S_is_path : FnScope N_is_path ["gates", "clock", "thing"] (defScope s_is_path) := ⟨rfl, rfl, rfl, by decide +kernel, rfl, by decide +kernel, by decide +kernel⟩
abbrev s_path_time : Stmt := topS 17
abbrev N_path_time : List Str := ["gates", "ways", "path", "delays", "time", "feed", "g", "own", "lengths", "way", "fed"]
theorem S_path_time : FnScope N_path_time ["gates", "ways", "path", "delays"] (defScope s_path_time) := ⟨rfl, rfl, rfl, by decide +kernel, rfl, by decide +kernel, by decide +kernel⟩
abbrev s_slowest_holds : Stmt := topS 18
abbrev N_slowest_holds : List Str := ["net", "laying", "clock", "thing", "delays", "gates", "ways", "time", "path", "arrivals", "boxes", "g", "gate", "late"]
theorem S_slowest_holds : FnScope N_slowest_holds ["net", "laying", "clock", "thing", "delays"] (defScope s_slowest_holds) := ⟨rfl, rfl, rfl, by decide +kernel, rfl, by decide +kernel, by decide +kernel⟩
abbrev s_l_deck : Stmt := topS 20
abbrev N_l_deck : List Str := ["_law_script", "_law_cells", "_law_seed", "_law_cell"]
theorem S_l_deck : FnScope N_l_deck ["_law_script"] (defScope s_l_deck) := ⟨rfl, rfl, rfl, by decide +kernel, rfl, by decide +kernel, by decide +kernel⟩
abbrev s_l_draw : Stmt := topS 21
abbrev N_l_draw : List Str := ["_law_deck_here", "_law_sides", "_law_at", "_law_number", "_law_cell"]
theorem S_l_draw : FnScope N_l_draw ["_law_deck_here", "_law_sides"] (defScope s_l_draw) := ⟨rfl, rfl, rfl, by decide +kernel, rfl, by decide +kernel, by decide +kernel⟩
abbrev s_l_pick : Stmt := topS 22
abbrev N_l_pick : List Str := ["_law_deck_here", "_law_some"]
theorem S_l_pick : FnScope N_l_pick ["_law_deck_here", "_law_some"] (defScope s_l_pick) := ⟨rfl, rfl, rfl, by decide +kernel, rfl, by decide +kernel, by decide +kernel⟩
abbrev s_l_net : Stmt := topS 23
abbrev N_l_net : List Str := ["_law_deck_here", "_law_many", "_law_sort", "_law_gates", "_law_k", "_law_way_here", "_law_near", "_law_one", "_law_other", "_law_some"]
theorem S_l_net : FnScope N_l_net ["_law_deck_here"] (defScope s_l_net) := ⟨rfl, rfl, rfl, by decide +kernel, rfl, by decide +kernel, by decide +kernel⟩
abbrev s_l_feeds : Stmt := topS 24
abbrev N_l_feeds : List Str := ["_law_gate"]
theorem S_l_feeds : FnScope N_l_feeds ["_law_gate"] (defScope s_l_feeds) := ⟨rfl, rfl, rfl, by decide +kernel, rfl, by decide +kernel, by decide +kernel⟩
abbrev s_l_way : Stmt := topS 25
abbrev N_l_way : List Str := ["_law_deck_here", "_law_first", "_law_last", "_law_found", "_law_here", "_law_turn", "_law_down", "_law_right"]
theorem S_l_way : FnScope N_l_way ["_law_deck_here", "_law_first", "_law_last"] (defScope s_l_way) := ⟨rfl, rfl, rfl, by decide +kernel, rfl, by decide +kernel, by decide +kernel⟩
abbrev s_l_there_and_back : Stmt := topS 26
abbrev N_l_there_and_back : List Str := ["_law_deck_here", "_law_cell", "_law_beside"]
theorem S_l_there_and_back : FnScope N_l_there_and_back ["_law_deck_here", "_law_cell"] (defScope s_l_there_and_back) := ⟨rfl, rfl, rfl, by decide +kernel, rfl, by decide +kernel, by decide +kernel⟩
abbrev s_l_laying : Stmt := topS 27
abbrev N_l_laying : List Str := ["_law_deck_here", "_law_net_here", "_law_first", "_law_by", "_law_cells", "_law_k", "_law_ways", "_law_gate", "_law_some", "_law_feed"]
theorem S_l_laying : FnScope N_l_laying ["_law_deck_here", "_law_net_here"] (defScope s_l_laying) := ⟨rfl, rfl, rfl, by decide +kernel, rfl, by decide +kernel, by decide +kernel⟩
abbrev s_l_delays : Stmt := topS 28
abbrev N_l_delays : List Str := ["_law_deck_here", "_law_far"]
theorem S_l_delays : FnScope N_l_delays ["_law_deck_here"] (defScope s_l_delays) := ⟨rfl, rfl, rfl, by decide +kernel, rfl, by decide +kernel, by decide +kernel⟩
abbrev s_l_times : Stmt := topS 29
abbrev N_l_times : List Str := ["_law_net_here", "_law_laying_here", "_law_own", "_law_found", "_law_clock", "_law_said"]
theorem S_l_times : FnScope N_l_times ["_law_net_here", "_law_laying_here", "_law_own"] (defScope s_l_times) := ⟨rfl, rfl, rfl, by decide +kernel, rfl, by decide +kernel, by decide +kernel⟩
abbrev s_l_put : Stmt := topS 30
abbrev N_l_put : List Str := ["_law_laying_here", "_law_by", "_law_cells", "_law_ways", "_law_found", "_law_some", "_law_cell", "_law_way_here"]
theorem S_l_put : FnScope N_l_put ["_law_laying_here", "_law_by"] (defScope s_l_put) := ⟨rfl, rfl, rfl, by decide +kernel, rfl, by decide +kernel, by decide +kernel⟩
abbrev s_l_longer : Stmt := topS 31
abbrev N_l_longer : List Str := ["_law_deck_here", "_law_laying_here", "_law_cells", "_law_ways", "_law_some", "_law_k", "_law_way_here", "_law_put_here"]
theorem S_l_longer : FnScope N_l_longer ["_law_deck_here", "_law_laying_here"] (defScope s_l_longer) := ⟨rfl, rfl, rfl, by decide +kernel, rfl, by decide +kernel, by decide +kernel⟩
abbrev s_l_grown : Stmt := topS 32
abbrev N_l_grown : List Str := ["_law_first", "_law_later", "_law_most", "_law_time", "_law_said", "_law_other", "_law_there", "_law_one", "_law_two"]
theorem S_l_grown : FnScope N_l_grown ["_law_first", "_law_later", "_law_most"] (defScope s_l_grown) := ⟨rfl, rfl, rfl, by decide +kernel, rfl, by decide +kernel, by decide +kernel⟩
abbrev s_law : Stmt := topS 33
abbrev N_law : List Str := ["_law_script", "_law_deck_here", "_law_turn", "_law_net_here", "_law_laying_here", "_law_one", "_law_other", "_law_a", "_law_k", "_law_first", "_law_second", "_law_both", "_law_b", "_law_many", "_law_due", "_law_time", "_law_said", "_law_far", "_law_some", "_law_by", "_law_longer_here", "_law_later"]
theorem S_law : FnScope N_law ["_law_script"] (defScope s_law) := ⟨rfl, rfl, rfl, by decide +kernel, rfl, by decide +kernel, by decide +kernel⟩
structure Bi (mg : Str → Option Value) : Prop where
  all_ : mg "all" = none
  any_ : mg "any" = none
  isinstance_ : mg "isinstance" = none
  len_ : mg "len" = none
  list_ : mg "list" = none
  range_ : mg "range" = none
  enumerate_ : mg "enumerate" = none
  zip_ : mg "zip" = none
  max_ : mg "max" = none
  tuple_ : mg "tuple" = none
  int_ : mg "int" = none
  bool_ : mg "bool" = none
  divmod_ : mg "divmod" = none
/-! ### the deck -/
abbrev big : Int := 170141183460469231731687303715884105727
def deckKv (c : Addr) (sd : Int) (t : Nat) : List (L2.Key × V) := [(.inr "cells", .ref c), (.inr "seed", .int sd), (.inr "at", .int (t : Int))]
structure Deck (H : Hp) (d c : Addr) (t : Nat) : Prop where
  ex : ∃ (cs : List Int) (sd : Int), H d = some (.dK (deckKv c sd t)) ∧ H c = some (.lst (cs.map V.int)) ∧ 0 ≤ sd ∧ sd < big ∧ cs.length ≤ 63 ∧
    ∀ z ∈ cs, Builtin.Int.intBits z ≤ 1048576


theorem put_at (c : Addr) (sd : Int) (t : Nat) (v : V) : putK (deckKv c sd t) (Sum.inr "at") v = [(.inr "cells", .ref c), (.inr "seed", .int sd), (.inr "at", v)] := by
  rfl
theorem get_at (c : Addr) (sd : Int) (t : Nat) : valV (deckKv c sd t) (Sum.inr "at") = some (.int (t : Int)) := rfl
theorem get_seed (c : Addr) (sd : Int) (t : Nat) : valV (deckKv c sd t) (Sum.inr "seed") = some (.int sd) := rfl
theorem get_cells (c : Addr) (sd : Int) (t : Nat) : valV (deckKv c sd t) (Sum.inr "cells") = some (.ref c) := rfl
theorem sl3 (c : Addr) (sd : Int) (t : Nat) : (deckKv c sd t).length < sizeLine := by
  show 3 < sizeLine
  decide

/-- what the draw makes of it is small again -/
theorem bits_lt {x : Int} {n : Nat} (h0 : 0 ≤ x) (h : x < 2 ^ n) : Builtin.Int.intBits x ≤ n := by
  refine PySem.intBits_le_iff.mpr ?_
  have e : ((2 ^ n : Nat) : Int) = (2 : Int) ^ n := by rw [Int.natCast_pow]; rfl
  have h2 : x < ((2 ^ n : Nat) : Int) := by rw [e]; exact h
  omega
theorem bits_add {x y : Int} {n : Nat} (hx : Builtin.Int.intBits x ≤ n) (hy : Builtin.Int.intBits y ≤ n) : Builtin.Int.intBits (x + y) ≤ n + 1 := by
  have h1 := PySem.intBits_le_iff.mp hx
  have h2 := PySem.intBits_le_iff.mp hy
  refine PySem.intBits_le_iff.mpr ?_
  have e : 2 ^ (n + 1) = 2 ^ n + 2 ^ n := by rw [Nat.pow_succ]; omega
  rw [e]
  omega

theorem snoc {α : Type} (cs : List α) : cs = [] ∨ ∃ l x, cs = l ++ [x] := by
  rcases List.eq_nil_or_concat cs with h | ⟨l, x, h⟩
  · exact .inl h
  · exact .inr ⟨l, x, by rw [h, List.concat_eq_append]⟩
theorem pos_big : (0 : Int) < 170141183460469231731687303715884105727 := by decide
theorem dp_ints {K : PySem.W.Frag} {H : Hp} : ∀ ns : List Int, DpAll K H (ns.map V.int) (ns.map PyData.int)
  | [] => .nil
  | n :: ns => .cons (.int n) (dp_ints ns)
def spDraw : Sp := fun vs H Q _ => ∃ (d c : Addr) (n : Int) (t : Nat), vs = [.ref d, .int n] ∧ 1 ≤ n ∧ n < 1000000000 ∧ Deck H d c t ∧ t < 1000000000000 ∧
  ∀ (r : Int) (H' : Hp), 0 ≤ r → r < n → But d c H H' → Deck H' d c (t + 1) → Q (.int r) H'

/-! ### heaps and the deck -/
theorem Deck.ne {H : Hp} {d c : Addr} {t : Nat} (h : Deck H d c t) : d ≠ c := by
  obtain ⟨cs, sd, h1, h2, _⟩ := h.ex
  exact ne_of h1 h2 (by intro z; cases z)
theorem Deck.keep {H H' : Hp} {d c : Addr} {t : Nat} (h : Deck H d c t) (hd : ∀ o, H d = some o → H' d = some o) (hc : ∀ o, H c = some o → H' c = some o) : Deck H' d c t := by
  obtain ⟨cs, sd, h1, h2, h3⟩ := h.ex
  exact ⟨cs, sd, hd _ h1, hc _ h2, h3⟩
theorem Deck.same {H H' : Hp} {d c : Addr} {t : Nat} (h : Deck H d c t) (s : Same H H') : Deck H' d c t := h.keep (fun o e => s _ o e) (fun o e => s _ o e)
theorem Deck.here {H : Hp} {d c : Addr} {t : Nat} (h : Deck H d c t) : H d ≠ none ∧ H c ≠ none := by
  obtain ⟨cs, sd, h1, h2, _⟩ := h.ex
  rw [h1, h2]
  exact ⟨fun z => (by cases z), fun z => (by cases z)⟩
theorem Deck.mut {H : Hp} {d c p : Addr} {o : HO} {t : Nat} (h : Deck H d c t) (n1 : d ≠ p) (n2 : c ≠ p) : Deck (upd H p o) d c t :=
  h.keep (fun o e => by rw [upd_ne n1]; exact e) (fun o e => by rw [upd_ne n2]; exact e)
theorem Deck.new {H : Hp} {d c p : Addr} {o : HO} {t : Nat} (h : Deck H d c t) (n : H p = none) : Deck (upd H p o) d c t := h.same (same_new n)
theorem Deck.free {H : Hp} {d c p : Addr} {t : Nat} (h : Deck H d c t) (n : H p = none) : p ≠ d ∧ p ≠ c :=
  ⟨fun z => h.here.1 (by rw [← z]; exact n), fun z => h.here.2 (by rw [← z]; exact n)⟩

/-! ### promises -/
def spDeck (K : PySem.W.Frag) : Sp := fun vs H Q _ => ∃ (a : Addr) (ns : List Int), vs = [.ref a] ∧ SqL K H a (ns.map V.int) ∧ ns.length ≤ 63 ∧
  (∀ z ∈ ns, Builtin.Int.intBits z ≤ 1048576) ∧ ∀ (d c : Addr) (H' : Hp), Same H H' → H d = none → H c = none → Deck H' d c 0 → Q (.ref d) H'
def spPick (K : PySem.W.Frag) : Sp := fun vs H Q _ => ∃ (d c : Addr) (t : Nat) (v : V) (xs : List V), vs = [.ref d, v] ∧ Sq K H v xs ∧ 1 ≤ xs.length ∧ xs.length < 1000000000 ∧
  v ≠ .ref d ∧ v ≠ .ref c ∧ Deck H d c t ∧ t < 1000000000000 ∧
  ∀ (i : Nat) (x : V) (H' : Hp), xs[i]? = some x → But d c H H' → Deck H' d c (t + 1) → Q x H'
section
variable {P : Program} {w : World} {K : PySem.W.Frag} {mg : Str → Option Value} {base : Heap}
theorem ok_draw {f : Addr} {fd : FuncData} (D : DefAt K mg "_law_draw" ["_law_deck_here", "_law_sides"] s_l_draw f fd) :
    Cal P w K mg base L2.CX0 1 "_law_draw" ["_law_deck_here", "_law_sides"] spDraw := by
  have S := S_l_draw
  refine cal_of D.fn D.mgf D.bs D.kbs S (fun vs H Q E h => ?_) (fun cdv A outer s H vs Q E hq hr h => ?_)
  · obtain ⟨d, c, n, t, rfl, _⟩ := h
    rfl
  · obtain ⟨d, c, n, t, rfl, hn1, hn2, ⟨cs, sd, hd, hc, hs0, hs1, hl, hz⟩, ht, q⟩ := h
    refine ⟨_, (pss_cons (ps_dput (hu_of hr) (pv 0) pe_str (pe_op op_add (pe_dget (hu_of hr) (pv 0) pe_str (fun _ _ => rfl)) pe_int) rfl)
 (pss_cons (ps_set (i := 2) S.nd rfl (.inl rfl) (pe_dget (hu_of hr) (pv 0) pe_str (fun _ _ => rfl)))
 (pss_cons (ps_set (i := 3) S.nd rfl (.inl rfl) (pe_op op_add (pe_dget (hu_of hr) (pv 0) pe_str (fun _ _ => rfl)) (pe_op op_mulB (pe_op op_mulB pe_int (pv 2)) (pv 2))))
 (C8.pss_cut (ps_if (pt_cmpR (op_neNil (room200 hr)) (pe_dget (hu_of hr) (pv 0) pe_str (fun _ _ => rfl)) (pe_lst pa_nil) (nomark _))
  (pss_cons (ps_set (i := 4) S.nd rfl (.inl rfl) (pe_bm0 PySem.F.plainAttrs_list PySem.F.slot_list_pop PySem.F.type_list_pop (mt_pop) (pe_dget (hu_of hr) (pv 0) pe_str (fun _ _ => rfl))))
 (pss_cons (ps_if (pt_cmpR op_ge (pv 4) (pe_op op_pow pe_int pe_int) (nomark _))
  (pss_cons (ps_expr (pe_bm PySem.F.plainAttrs_list PySem.F.slot_list_append PySem.F.type_list_append mt_append (pe_dget (hu_of hr) (pv 0) pe_str (fun _ _ => rfl)) (pa_cons (pe_op op_fdivN (pv 4) (pv 1)) pa_nil)))
 (pss_one (ps_ret (pe_op op_mod (pv 4) (pv 1)))))
  pss_nil)
 (pss_one (ps_set (i := 3) S.nd rfl (.inl rfl) (pe_op op_add (pv 3) (pe_op op_mulB pe_int (pv 4)))))))
  pss_nil)
 (pss_cons (ps_set (i := 3) S.nd rfl (.inl rfl) (pe_op op_mod (pe_op op_mulB (pv 3) (pe_op op_add (pv 3) (pe_op op_mulB pe_int (pv 2)))) pe_int))
 (pss_cons (ps_set (i := 3) S.nd rfl (.inl rfl) (pe_op op_mod (pe_op op_add (pe_op op_mulB (pv 3) (pv 3)) (pe_op op_mulB pe_int (pv 2))) pe_int))
 (pss_one (ps_ret (pe_op op_mod (pe_op op_fdivN (pv 3) pe_int) (pv 1)))))))))), ?_⟩
    have ndc : c ≠ d := ne_of hc hd (by intro z; cases z)
    have g1 : DGet H d (.str "at") (some (.int (t : Int))) := DGet.k (k := Sum.inr "at") hd
    refine ⟨.ref d, rfl, d, _, rfl, g1, t, 1, rfl, rfl, .ref d, rfl, d, _, rfl, DPut.k (k := Sum.inr "at") hd (sl3 c sd t), ?_⟩
    rw [put_at]
    have hd1 : (upd H d (.dK (deckKv c sd (t + 1)))) d = some (.dK (deckKv c sd (t + 1))) := upd_same
    have hc1 : (upd H d (.dK (deckKv c sd (t + 1)))) c = some (.lst (cs.map V.int)) := by
      rw [upd_ne ndc]
      exact hc
    have bt1 : But d c H (upd H d (.dK (deckKv c sd (t + 1)))) := fun b o h1 h2 e => by
      rw [upd_ne h1]
      exact e
    revert hd1 hc1 bt1
    show _ → _ → _ → tSeq _ _ _ _ (upd H d (.dK (deckKv c sd (t + 1))))
    generalize upd H d (.dK (deckKv c sd (t + 1))) = H1
    intro hd1 hc1 bt1
    have g2 : DGet H1 d (.str "at") (some (.int ((t + 1 : Nat) : Int))) := DGet.k (k := Sum.inr "at") hd1
    have g3 : DGet H1 d (.str "seed") (some (.int sd)) := DGet.k (k := Sum.inr "seed") hd1
    have g4 : DGet H1 d (.str "cells") (some (.ref c)) := DGet.k (k := Sum.inr "cells") hd1
    refine ⟨.ref d, rfl, d, _, rfl, g2, ?_⟩
    refine ⟨.ref d, rfl, d, _, rfl, g3, ?_⟩
    refine ⟨.int ((t + 1 : Nat) : Int), rfl, 7919, ((t + 1 : Nat) : Int), rfl, rfl, ?_, .int ((t + 1 : Nat) : Int), rfl, 7919 * ((t + 1 : Nat) : Int), ((t + 1 : Nat) : Int), rfl, rfl, ?_, sd, _, rfl, rfl, ?_⟩
    · exact IntMulOk.of_left (by decide)
    · exact IntMulOk.of_right (intBits_le_64 (by omega) (by omega))
    have T1 : (0 : Int) ≤ ((t + 1 : Nat) : Int) ∧ ((t + 1 : Nat) : Int) < 2 ^ 41 := by omega
    have T2 : (0 : Int) ≤ 7919 * ((t + 1 : Nat) : Int) * ((t + 1 : Nat) : Int) ∧ 7919 * ((t + 1 : Nat) : Int) * ((t + 1 : Nat) : Int) < 2 ^ 100 := by
      generalize ((t + 1 : Nat) : Int) = k at T1
      have h1 : (0 : Int) ≤ 7919 * k := by omega
      refine ⟨Int.mul_nonneg h1 T1.1, ?_⟩
      have h3 : 7919 * k * k ≤ 7919 * k * 2 ^ 41 := Int.mul_le_mul_of_nonneg_left (by omega) h1
      omega
    refine ⟨fun σ' H3 => ∃ (m : Int) (x4 : Option V), σ' = [some (.ref d), some (.int n), some (.int ((t + 1 : Nat) : Int)), some (.int m), x4] ∧ Builtin.Int.intBits m ≤ 1048700 ∧
      But d c H H3 ∧ Deck H3 d c (t + 1), ?_, ?_⟩
    · refine ⟨.ref d, rfl, d, _, rfl, g4, ?_⟩
      refine ⟨Nat.zero_le _, fun p np => ?_⟩
      have npc : c ≠ p := ne_of_none hc1 np
      have hcp : (upd H1 p (.lst [])) c = some (.lst (cs.map V.int)) := by
        rw [upd_ne npc]
        exact hc1
      have npd : d ≠ p := ne_of_none hd1 np
      have hdp : (upd H1 p (.lst [])) d = some (.dK (deckKv c sd (t + 1))) := by
        rw [upd_ne npd]
        exact hd1
      have btp : But d c H (upd H1 p (.lst [])) := fun b o h1 h2 e => by
        have e1 := bt1 b o h1 h2 e
        rw [upd_ne (ne_of_none e1 np)]
        exact e1
      refine ⟨c, p, _, rfl, rfl, .inl (.inl hcp), .inl (.inl upd_same), _, rfl, ?_⟩
      revert hcp hdp btp
      generalize upd H1 p (.lst []) = H2
      intro hc2 hd2 bt2
      have bm : Builtin.Int.intBits (sd + 7919 * ((t + 1 : Nat) : Int) * ((t + 1 : Nat) : Int)) ≤ 200 := by
        have hb : big < 2 ^ 127 := by decide
        exact bits_lt (by omega) (by omega)
      rcases snoc cs with rfl | ⟨l, x, rfl⟩
      · exact iteF ⟨_, _, rfl, Nat.le_trans bm (by decide), bt2, ⟨[], sd, hd2, hc2, hs0, hs1, hl, hz⟩⟩
      · have ne0 : ((l ++ [x]).map V.int).isEmpty = false := by
          cases l <;> rfl
        rw [ne0]
        refine iteT ?_
        have g5 : DGet H2 d (.str "cells") (some (.ref c)) := DGet.k (k := Sum.inr "cells") hd2
        have hx : Builtin.Int.intBits x ≤ 1048576 := hz x (List.mem_append_right _ (List.mem_singleton.mpr rfl))
        have hl' : l.length < 63 := by
          have e := hl
          rw [List.length_append, List.length_singleton] at e
          omega
        have hz' : ∀ z ∈ l, Builtin.Int.intBits z ≤ 1048576 := fun z hm => hz z (List.mem_append_left _ hm)
        have lst1 : ((l ++ [x]).map V.int)[((l ++ [x]).map V.int).length - 1]? = some (.int x) := by
          rw [List.map_append, List.length_append, List.length_map]
          show (l.map V.int ++ [V.int x])[l.length + 1 - 1]? = _
          rw [Nat.add_sub_cancel, List.getElem?_append_right (by rw [List.length_map]; exact Nat.le_refl _), List.length_map, Nat.sub_self]
          rfl
        have drop1 : ((l ++ [x]).map V.int).dropLast = l.map V.int := by
          rw [List.map_append]
          exact List.dropLast_concat
        -- the last cell is taken
        refine ⟨.ref d, rfl, d, _, rfl, g5, .inl ⟨rfl, _, .inl (.inl hc2)⟩, c, _, _, rfl, rfl, hc2, lst1, ?_⟩
        rw [drop1]
        have hd3 : (upd H2 c (.lst (l.map V.int))) d = some (.dK (deckKv c sd (t + 1))) := by
          rw [upd_ne ndc.symm]
          exact hd2
        have hc3 : (upd H2 c (.lst (l.map V.int))) c = some (.lst (l.map V.int)) := upd_same
        have bt3 : But d c H (upd H2 c (.lst (l.map V.int))) := fun b o h1 h2 e => by
          rw [upd_ne h2]
          exact bt2 b o h1 h2 e
        revert hd3 hc3 bt3
        show _ → _ → _ → tSeq _ _ _ _ (upd H2 c (.lst (l.map V.int)))
        generalize upd H2 c (.lst (l.map V.int)) = H3
        intro hd3 hc3 bt3
        refine ⟨.int x, rfl, 10, 18, rfl, rfl, ⟨by decide, by decide, by decide⟩, x, _, rfl, rfl, _, rfl, ite2 (fun _ => ?_) (fun _ => ?_)⟩
        · -- a digit of it
          have g6 : DGet H3 d (.str "cells") (some (.ref c)) := DGet.k (k := Sum.inr "cells") hd3
          refine ⟨.ref d, rfl, d, _, rfl, g6, .inl ⟨rfl, _, .inl (.inl hc3)⟩, .int x, rfl, .int n, rfl, x, n, rfl, rfl, ⟨by omega, by omega⟩, c, _, _, rfl, rfl, hc3, ?_, ?_⟩
          · rw [List.length_map]
            exact Nat.lt_of_lt_of_le hl' (by decide)
          refine ⟨.int x, rfl, .int n, rfl, x, n, rfl, rfl, by omega, ?_⟩
          refine q _ _ (Int.emod_nonneg _ (by omega)) (Int.emod_lt_of_pos _ (by omega)) (fun b o h1 h2 e => ?_) ⟨l ++ [x.fdiv n], sd, ?_, ?_, hs0, hs1, ?_, ?_⟩
          · rw [upd_ne h2]
            exact bt3 b o h1 h2 e
          · rw [upd_ne ndc.symm]
            exact hd3
          · rw [upd_same, List.map_append]
            rfl
          · rw [List.length_append]
            exact hl'
          · intro z hm
            rcases List.mem_append.mp hm with h1 | h1
            · exact hz' z h1
            · rw [List.mem_singleton.mp h1]
              exact PySem.intBits_fdiv_le hx
        · refine ⟨_, rfl, .int x, rfl, 69621, x, rfl, rfl, .of_left (by decide), _, _, rfl, rfl, ?_⟩
          refine ⟨_, _, rfl, ?_, bt3, ⟨l, sd, hd3, hc3, hs0, hs1, by omega, hz'⟩⟩
          have b1 : Builtin.Int.intBits (69621 * x) ≤ 1048650 := Nat.le_trans (PySem.intBits_mul_le (bits_lt (n := 20) (by decide) (by decide)) hx) (by decide)
          exact Nat.le_trans (bits_add (Nat.le_trans bm (by decide)) b1) (by decide)
    · rintro σ' H3 ⟨m, x4, rfl, hm, bt, dk⟩
      have T3 : Builtin.Int.intBits (48271 * ((t + 1 : Nat) : Int)) ≤ 100 := bits_lt (by omega) (by omega)
      have T4 : Builtin.Int.intBits (m + 48271 * ((t + 1 : Nat) : Int)) ≤ 1048701 := bits_add hm (Nat.le_trans T3 (by decide))
      refine ⟨.int m, rfl, .int m, rfl, .int ((t + 1 : Nat) : Int), rfl, 48271, ((t + 1 : Nat) : Int), rfl, rfl, .of_left (by decide), ?_⟩
      refine ⟨m, _, rfl, rfl, m, m + 48271 * ((t + 1 : Nat) : Int), rfl, rfl, .of_le hm T4 (by decide), _, _, rfl, rfl, pos_big, ?_⟩
      have b1 : (0 : Int) ≤ m * (m + 48271 * ((t + 1 : Nat) : Int)) % big := Int.emod_nonneg _ (by decide)
      have b2 : m * (m + 48271 * ((t + 1 : Nat) : Int)) % big < big := Int.emod_lt_of_pos _ (by decide)
      show tSeq _ _ _ [some (.ref d), some (.int n), some (.int ((t + 1 : Nat) : Int)), some (.int (m * (m + 48271 * ((t + 1 : Nat) : Int)) % big)), x4] _
      generalize m * (m + 48271 * ((t + 1 : Nat) : Int)) % big = r at b1 b2
      have b3 : Builtin.Int.intBits r ≤ 127 := bits_lt b1 (Int.lt_of_lt_of_le b2 (by decide))
      refine ⟨.int r, rfl, .int r, rfl, r, r, rfl, rfl, .of_le b3 b3 (by decide), .int ((t + 1 : Nat) : Int), rfl, 104729, ((t + 1 : Nat) : Int), rfl, rfl, .of_left (by decide), _, _, rfl, rfl, _, _, rfl, rfl, pos_big, ?_⟩
      refine ⟨_, rfl, _, 1048576, rfl, rfl, ⟨by decide, by decide⟩, .int n, rfl, _, n, rfl, rfl, by omega, ?_⟩
      exact q _ _ (Int.emod_nonneg _ (by omega)) (Int.emod_lt_of_pos _ (by omega)) bt dk

theorem ok_deck {f : Addr} {fd : FuncData} (D : DefAt K mg "_law_deck" ["_law_script"] s_l_deck f fd) (M : Bi mg) :
    Cal P w K mg base L2.CX0 1 "_law_deck" ["_law_script"] (spDeck K) := by
  have S := S_l_deck
  refine cal_of D.fn D.mgf D.bs D.kbs S (fun vs H Q E h => ?_) (fun cdv A outer s H vs Q E hq hr h => ?_)
  · obtain ⟨a, ns, rfl, _⟩ := h
    rfl
  · obtain ⟨a, ns, rfl, hs, hl, hb, q⟩ := h
    refine ⟨_, (pss_cons (ps_set (i := 1) S.nd rfl (.inl rfl) (pe_callTy call_list_of (by rfl) M.list_ (by decide +kernel) (pa_cons (pe_slice sl_list (pv 0) po_none (po_some pe_int)) pa_nil)))
 (pss_cons (ps_set (i := 2) S.nd rfl (.inl rfl) (pe_op op_add pe_int (pe_callB call_len_seq (by rfl) M.len_ (by decide +kernel) (pa_cons (pv 1) pa_nil))))
 (pss_cons (ps_for PassesOwn.never rfl (pi_list (pv 1)) (pg_name (i := 3) S.nd rfl (.inl rfl))
  (pss_one (ps_set (i := 2) S.nd rfl (.inl rfl) (pe_op op_mod (pe_op op_add (pe_op op_mulB (pv 2) pe_int) (pv 3)) pe_int))))
 (pss_one (ps_ret (pe_disp (pps_cons pe_str (pe_revL (pv 1)) (pps_cons pe_str (pv 2) (pps_cons pe_str pe_int pps_nil))) (by rfl) (by rfl) (fun z => by cases z) (by decide))))))), ?_⟩
    -- list(script[:63])
    refine ⟨.ref a, rfl, 63, rfl, a, _, rfl, hs, fun p np => ?_⟩
    have e63 : cutV (ns.map V.int) none (some 63) = ns.map V.int := by
      unfold cutV
      rw [HT.sIx_none, show HT.sIx (ns.map V.int).length (ns.map V.int).length (some 63) = min 63 (ns.map V.int).length from HT.sIx_nat _ _ 63]
      rw [List.length_map, Nat.min_eq_right hl]
      exact List.take_of_length_le (by rw [List.drop_zero, List.length_map]; exact Nat.le_refl _)
    rw [e63]
    refine ⟨p, _, rfl, .inl (.inl (.inl upd_same)), fun l nl => ?_⟩
    have s1 := same_new (o := .lst (ns.map V.int)) np
    have s2 := s1.trans (same_new (o := .lst (ns.map V.int)) nl)
    have el : (upd (upd H p (.lst (ns.map V.int))) l (.lst (ns.map V.int))) l = some (.lst (ns.map V.int)) := upd_same
    have fl : H l = none := s1.free nl
    revert s2 el
    show _ → _ → tSeq _ _ _ _ (upd (upd H p (.lst (ns.map V.int))) l (.lst (ns.map V.int)))
    generalize upd (upd H p (.lst (ns.map V.int))) l (.lst (ns.map V.int)) = H1
    intro s2 el
    -- the seed
    refine ⟨.ref l, rfl, l, _, rfl, .inl (.inl (.inl el)), 104729, _, rfl, rfl, ?_⟩
    have hlen : (ns.map V.int).length = ns.length := List.length_map _
    rw [hlen]
    refine ⟨.ref l, rfl, l, rfl, ⟨_, .inl (.inl el)⟩, for_list (xs := ns.map V.int)
      (fun i σ H' => H' = H1 ∧ ∃ (sd : Int) (x : Option V), σ = [some (.ref a), some (.ref l), some (.int sd), x] ∧ 0 ≤ sd ∧ sd < big) ?_ ?_ ?_ ?_⟩
    · exact ⟨rfl, 104729 + (ns.length : Int), none, rfl, by omega, by
        show (104729 : Int) + _ < 170141183460469231731687303715884105727
        omega⟩
    · rintro i σ H' _ ⟨rfl, _⟩
      exact .inl (.inl el)
    · rintro i x σ H' hx ⟨rfl, sd, y, rfl, h0, h1⟩
      rw [List.getElem?_map] at hx
      cases hz : ns[i]? with
      | none =>
        rw [hz] at hx
        cases hx
      | some z =>
        rw [hz] at hx
        obtain rfl : V.int z = x := Option.some.inj hx
        have bz := hb z (List.mem_of_getElem? hz)
        refine ⟨_, rfl, sd, 1000003, rfl, rfl, .of_right (by decide), _, rfl, _, _, rfl, rfl, _, _, rfl, rfl, pos_big, rfl, _, _, rfl, ?_, ?_⟩
        · exact Int.emod_nonneg _ (by decide)
        · exact Int.emod_lt_of_pos _ (by decide)
    · rintro σ H' ⟨rfl, sd, y, rfl, h0, h1⟩
      -- the dict
      intro r nr
      have npr : l ≠ r := ne_of_none el nr
      have el2 : (upd H' r (.dK [])) l = some (.lst (ns.map V.int)) := by
        rw [upd_ne npr]
        exact el
      refine ⟨.ref l, rfl, l, _, rfl, .inl (.inl el2), fun c nc => ?_⟩
      have ncr : r ≠ c := fun z => by
        rw [← z, upd_same] at nc
        cases nc
      refine ⟨_, rfl, ?_⟩
      refine ⟨by rw [upd_ne ncr, upd_same], deckKv c sd 0, rfl, by show 3 ≤ 15; decide, ?_⟩
      have fc : H' c = none := by
        rw [upd_ne (fun z => ncr z.symm)] at nc
        exact nc
      have fr : H r = none := s2.free nr
      have fc2 : H c = none := s2.free fc
      refine q r c _ ?_ fr fc2 ⟨ns.reverse, sd, ?_, ?_, h0, h1, ?_, ?_⟩
      · exact same_mut (same_mut (same_mut s2 fr) fc2) fr
      · exact upd_same
      · rw [upd_ne ncr.symm, upd_same, List.map_reverse]
      · rw [List.length_reverse]
        exact hl
      · intro z hz
        exact hb z (List.mem_reverse.mp hz)
theorem ok_pick {f : Addr} {fd : FuncData} (D : DefAt K mg "_law_pick" ["_law_deck_here", "_law_some"] s_l_pick f fd) (M : Bi mg)
    (C_l_draw : Cal P w K mg base L2.CX0 1 "_law_draw" ["_law_deck_here", "_law_sides"] spDraw) :
    Cal P w K mg base L2.CX0 2 "_law_pick" ["_law_deck_here", "_law_some"] (spPick K) := by
  have S := S_l_pick
  refine cal_of D.fn D.mgf D.bs D.kbs S (fun vs H Q E h => ?_) (fun cdv A outer s H vs Q E hq hr h => ?_)
  · obtain ⟨d, c, t, v, xs, rfl, _⟩ := h
    rfl
  · obtain ⟨d, c, t, v, xs, rfl, hs, h1, h2, n1, n2, dk, ht, q⟩ := h
    refine ⟨_, (pss_one (ps_ret (pe_ix ix_seq (pv 1) (pe_c C_l_draw pass0 hq hr (by omega) (by rfl) (pa_cons (pv 0) (pa_cons (pe_callB call_len (by rfl) M.len_ (by decide +kernel) (pa_cons (pv 1) pa_nil)) pa_nil))) (fun _ _ => rfl)))), ?_⟩
    refine ⟨v, rfl, .ref d, rfl, v, rfl, v, _, rfl, hs.lenV, d, c, _, t, rfl, by omega, by omega, dk, ht, fun r H' r0 r1 bt dk' => ?_⟩
    obtain ⟨y, e1, e2⟩ := atI_lt r0 r1 rfl
    exact (bt.sq n1 n2 hs).item e1 (q _ y H' e2 bt dk')

end
/-! ### data of tuples; the reader as a function -/
inductive Td
  | str (z : Str)
  | int (i : Int)
  | tup (xs : List Td)
inductive TdR (H : Hp) : Td → V → Prop
  | str (z : Str) : TdR H (.str z) (.str z)
  | int (i : Int) : TdR H (.int i) (.int i)
  | tup {p : Addr} {xs : List Td} {vs : List V} (h : H p = some (.tup vs)) (hl : xs.length = vs.length)
      (ha : ∀ (i : Nat) x v, xs[i]? = some x → vs[i]? = some v → TdR H x v) : TdR H (.tup xs) (.ref p)
theorem TdR.keep {H H' : Hp} {t : Td} {v : V} (h : TdR H t v) (k : ∀ p vs, H p = some (.tup vs) → H' p = some (.tup vs)) : TdR H' t v := by
  induction h with
  | str z => exact .str z
  | int i => exact .int i
  | tup e hl ha ih => exact .tup (k _ _ e) hl ih
def All2 (H : Hp) (ts : List Td) (vs : List V) : Prop := ts.length = vs.length ∧ ∀ (i : Nat) x v, ts[i]? = some x → vs[i]? = some v → TdR H x v
theorem All2.nil {H : Hp} : All2 H [] [] := ⟨rfl, fun i x v h => by cases h⟩
theorem All2.cons {H : Hp} {t : Td} {v : V} {ts : List Td} {vs : List V} (h : TdR H t v) (hs : All2 H ts vs) : All2 H (t :: ts) (v :: vs) := by
  refine ⟨by rw [List.length_cons, List.length_cons, hs.1], fun i x u h1 h2 => ?_⟩
  cases i with
  | zero =>
    cases h1
    cases h2
    exact h
  | succ i => exact hs.2 i x u h1 h2
theorem All2.snoc {H : Hp} {t : Td} {v : V} : ∀ {ts : List Td} {vs : List V}, All2 H ts vs → TdR H t v → All2 H (ts ++ [t]) (vs ++ [v])
  | [], [], _, h => .cons h .nil
  | [], _ :: _, hs, _ => absurd hs.1 (by simp)
  | _ :: _, [], hs, _ => absurd hs.1 (by simp)
  | a :: ts, b :: vs, hs, h => .cons (hs.2 0 _ _ rfl rfl) (All2.snoc ⟨Nat.succ.inj hs.1, fun i x u h1 h2 => hs.2 (i + 1) x u h1 h2⟩ h)
theorem All2.keep {H H' : Hp} {ts : List Td} {vs : List V} (h : All2 H ts vs) (k : ∀ p vs, H p = some (.tup vs) → H' p = some (.tup vs)) : All2 H' ts vs :=
  ⟨h.1, fun i x v h1 h2 => (h.2 i x v h1 h2).keep k⟩
theorem TdR.mk {H : Hp} {p : Addr} {ts : List Td} {vs : List V} (h : H p = some (.tup vs)) (a : All2 H ts vs) : TdR H (.tup ts) (.ref p) := .tup h a.1 a.2
theorem TdR.inv_tup {H : Hp} {ts : List Td} {v : V} (h : TdR H (.tup ts) v) : ∃ a vs, v = .ref a ∧ H a = some (.tup vs) ∧ All2 H ts vs := by
  cases h with
  | tup e hl ha => exact ⟨_, _, rfl, e, hl, ha⟩
theorem TdR.inv_str {H : Hp} {z : Str} {v : V} (h : TdR H (.str z) v) : v = .str z := by
  cases h
  rfl
theorem TdR.inv_int {H : Hp} {i : Int} {v : V} (h : TdR H (.int i) v) : v = .int i := by
  cases h
  rfl
theorem All2.inv_cons {H : Hp} {t : Td} {ts : List Td} {vs : List V} (h : All2 H (t :: ts) vs) : ∃ v vs', vs = v :: vs' ∧ TdR H t v ∧ All2 H ts vs' := by
  cases vs with
  | nil => exact absurd h.1 (by simp)
  | cons v vs => exact ⟨v, vs, rfl, h.2 0 _ _ rfl rfl, Nat.succ.inj h.1, fun i x u h1 h2 => h.2 (i + 1) x u h1 h2⟩
theorem All2.inv_nil {H : Hp} {vs : List V} (h : All2 H [] vs) : vs = [] := by
  cases vs with
  | nil => rfl
  | cons v vs => exact absurd h.1 (by simp)
theorem All2.same {H H' : Hp} {ts : List Td} {vs : List V} (h : All2 H ts vs) (s : Same H H') : All2 H' ts vs := h.keep fun p vs e => s p _ e
theorem TdR.same {H H' : Hp} {t : Td} {v : V} (h : TdR H t v) (s : Same H H') : TdR H' t v := h.keep fun p vs e => s p _ e
mutual
def pd : Td → PyData
  | .str z => .str z
  | .int i => .int i
  | .tup xs => .tuple (pdL xs)
def pdL : List Td → List PyData
  | [] => []
  | x :: xs => pd x :: pdL xs
end
theorem dpall {K : PySem.W.Frag} {H : Hp} : ∀ (xs : List Td) (vs : List V), xs.length = vs.length → (∀ (i : Nat) x v, xs[i]? = some x → vs[i]? = some v → Dp K H v (pd x)) → DpAll K H vs (pdL xs)
  | [], [], _, _ => by
    rw [pdL]
    exact .nil
  | [], _ :: _, h, _ => by cases h
  | _ :: _, [], h, _ => by cases h
  | x :: xs, v :: vs, h, ha => by
    rw [pdL]
    exact .cons (ha 0 x v rfl rfl) (dpall xs vs (Nat.succ.inj h) fun i y u h1 h2 => ha (i + 1) y u h1 h2)
theorem dp_of {K : PySem.W.Frag} {H : Hp} {t : Td} {v : V} (h : TdR H t v) : Dp K H v (pd t) := by
  induction h with
  | str z =>
    rw [pd]
    exact .str z
  | int i =>
    rw [pd]
    exact .int i
  | tup e hl ha ih =>
    rw [pd]
    exact .tup (.inl (.inl e)) (dpall _ _ hl ih)

end K53

namespace K53
open PySem PySem.Spec PyProof.Rows L2 Kit
/-! ### gates -/
inductive Gt
  | inp (x : Str) (k : Int)
  | iz (b : Int)
  | box (c : Str) (b : Int) (d : Nat)
  | nt (a : Nat)
  | two (w : Str) (a c : Nat)
def Gt.td : Gt → Td
  | .inp x k => .tup [.str "in", .str x, .int k]
  | .iz b => .tup [.str "is", .int b]
  | .box c b d => .tup [.str "box", .str c, .int b, .int d]
  | .nt a => .tup [.str "not", .int a]
  | .two w a c => .tup [.str w, .int a, .int c]
def Gt.vs : Gt → List V
  | .inp x k => [.str "in", .str x, .int k]
  | .iz b => [.str "is", .int b]
  | .box c b d => [.str "box", .str c, .int b, .int d]
  | .nt a => [.str "not", .int a]
  | .two w a c => [.str w, .int a, .int c]
def Gt.feeds : Gt → List Nat
  | .inp _ _ => []
  | .iz _ => []
  | .box _ _ d => [d]
  | .nt a => [a]
  | .two _ a c => [a, c]
def Gt.fed : Gt → Bool
  | .nt _ => true
  | .two _ _ _ => true
  | _ => false
def Gt.ok (n i : Nat) : Gt → Prop
  | .box _ _ d => d < n
  | .nt a => a < i
  | .two w a c => (w = "and" ∨ w = "or" ∨ w = "xor") ∧ a < i ∧ c < i
  | _ => True
def intsT (ns : List Nat) : Td := .tup (ns.map fun (k : Nat) => Td.int (k : Int))
theorem gt_at {H : Hp} {g : Gt} {v : V} (h : TdR H g.td v) : ∃ a, v = .ref a ∧ H a = some (.tup g.vs) := by
  have two : ∀ {x y : Td} {v : V}, TdR H (.tup [x, y]) v → ∃ a u w, v = .ref a ∧ H a = some (.tup [u, w]) ∧ TdR H x u ∧ TdR H y w := by
    intro x y v h
    obtain ⟨a, vs, rfl, e, al⟩ := h.inv_tup
    obtain ⟨u, vs, rfl, hu, al⟩ := al.inv_cons
    obtain ⟨w, vs, rfl, hw, al⟩ := al.inv_cons
    obtain rfl := al.inv_nil
    exact ⟨a, u, w, rfl, e, hu, hw⟩
  have tre : ∀ {x y z : Td} {v : V}, TdR H (.tup [x, y, z]) v → ∃ a u w t, v = .ref a ∧ H a = some (.tup [u, w, t]) ∧ TdR H x u ∧ TdR H y w ∧ TdR H z t := by
    intro x y z v h
    obtain ⟨a, vs, rfl, e, al⟩ := h.inv_tup
    obtain ⟨u, vs, rfl, hu, al⟩ := al.inv_cons
    obtain ⟨w, vs, rfl, hw, al⟩ := al.inv_cons
    obtain ⟨t, vs, rfl, ht, al⟩ := al.inv_cons
    obtain rfl := al.inv_nil
    exact ⟨a, u, w, t, rfl, e, hu, hw, ht⟩
  cases g with
  | inp x k =>
    obtain ⟨a, u, w, t, rfl, e, h1, h2, h3⟩ := tre h
    obtain rfl := h1.inv_str
    obtain rfl := h2.inv_str
    obtain rfl := h3.inv_int
    exact ⟨a, rfl, e⟩
  | iz b =>
    obtain ⟨a, u, w, rfl, e, h1, h2⟩ := two h
    obtain rfl := h1.inv_str
    obtain rfl := h2.inv_int
    exact ⟨a, rfl, e⟩
  | box c b d =>
    obtain ⟨a, vs, rfl, e, al⟩ := h.inv_tup
    obtain ⟨u, vs, rfl, h1, al⟩ := al.inv_cons
    obtain ⟨w, vs, rfl, h2, al⟩ := al.inv_cons
    obtain ⟨t, vs, rfl, h3, al⟩ := al.inv_cons
    obtain ⟨s, vs, rfl, h4, al⟩ := al.inv_cons
    obtain rfl := al.inv_nil
    obtain rfl := h1.inv_str
    obtain rfl := h2.inv_str
    obtain rfl := h3.inv_int
    obtain rfl := h4.inv_int
    exact ⟨a, rfl, e⟩
  | nt b =>
    obtain ⟨a, u, w, rfl, e, h1, h2⟩ := two h
    obtain rfl := h1.inv_str
    obtain rfl := h2.inv_int
    exact ⟨a, rfl, e⟩
  | two y b c =>
    obtain ⟨a, u, w, t, rfl, e, h1, h2, h3⟩ := tre h
    obtain rfl := h1.inv_str
    obtain rfl := h2.inv_int
    obtain rfl := h3.inv_int
    exact ⟨a, rfl, e⟩
theorem ite_str {a b : Str} {A B : Prop} (h1 : a = b → A) (h2 : a ≠ b → B) : if decide (V.str a = V.str b) = true then A else B := by
  by_cases h : a = b
  · rw [decide_eq_true (by rw [h])]
    exact iteT (h1 h)
  · rw [decide_eq_false fun z => h (V.str.inj z)]
    exact iteF (h2 h)
theorem ite_in {c x : Bool} {A B : Prop} (e : x = c) (h : if c = true then A else B) : if (if false = true then !x else x) = true then A else B := by
  rw [if_neg Bool.false_ne_true, e]
  exact h
theorem intsT_nil {H : Hp} {p : Addr} (h : H p = some (.tup [])) : TdR H (intsT []) (.ref p) := .mk h .nil
theorem intsT_one {H : Hp} {p : Addr} {k : Nat} (h : H p = some (.tup [.int (k : Int)])) : TdR H (intsT [k]) (.ref p) := .mk h (.cons (.int _) .nil)
theorem intsT_two {H : Hp} {p : Addr} {k j : Nat} (h : H p = some (.tup [.int (k : Int), .int (j : Int)])) : TdR H (intsT [k, j]) (.ref p) := .mk h (.cons (.int _) (.cons (.int _) .nil))
structure Tp (K : PySem.W.Frag) (mg : Str → Option Value) (cF cD : Addr) : Prop where
  c_FED : ∃ u, mg "FED" = some u ∧ RelV (.ref cF) u
  d_FED : ∀ H, SqT K H cF [.str "not", .str "and", .str "or", .str "xor"]
  c_DELAYS : ∃ u, mg "DELAYS" = some u ∧ RelV (.ref cD) u
  d_DELAYS : ∀ H, SqT K H cD [.int 1, .int 2, .int 3]
def spFeeds : Sp := fun vs H Q _ => ∃ (v : V) (g : Gt) (n i : Nat), vs = [v] ∧ TdR H g.td v ∧ g.ok n i ∧ ∀ w H', Same H H' → TdR H' (intsT g.feeds) w → Q w H'
section
variable {P : Program} {w : World} {K : PySem.W.Frag} {mg : Str → Option Value} {base : Heap} {cF cD : Addr}
theorem ok_feeds {f : Addr} {fd : FuncData} (D : DefAt K mg "feeds_of" ["gate"] s_feeds_of f fd) (T : Tp K mg cF cD) : Cal P w K mg base L2.CX0 1 "feeds_of" ["gate"] spFeeds := by
  have S := S_feeds_of
  refine cal_of D.fn D.mgf D.bs D.kbs S (fun vs H Q E h => ?_) (fun cdv A outer s H vs Q E hq hr h => ?_)
  · obtain ⟨v, g, n, i, rfl, _⟩ := h
    rfl
  · obtain ⟨v, g, n, i, rfl, hg, hok, q⟩ := h
    obtain ⟨a, rfl, ea⟩ := gt_at hg
    refine ⟨_, (pss_cons (ps_if (pt_cmpR op_eq (pe_ix ix_tup (pv 0) pe_int (fun _ _ => rfl)) pe_str (nomark _))
  (pss_one (ps_ret (pe_tup (pa_cons (pe_ix ix_tup (pv 0) pe_int (fun _ _ => rfl)) pa_nil))))
  pss_nil)
 (pss_one (ps_ret (pe_ifExp (pt_cmpR op_in_seq (pe_ix ix_tup (pv 0) pe_int (fun _ _ => rfl)) (C8.pe_gc (by rfl) T.c_FED) rfl) (pe_slice sl_tup (pv 0) (po_some pe_int) po_none) (pe_tup pa_nil))))), ?_⟩
    cases g with
    | inp x k =>
      refine ⟨.ref a, rfl, a, _, _, _, rfl, rfl, .inl (.inl ea), atI_nat (j := 0) rfl, rfl, _, rfl, ite_str (fun z => absurd z (by decide +kernel)) fun _ => ?_⟩
      refine ⟨.ref a, rfl, a, _, _, _, rfl, rfl, .inl (.inl ea), atI_nat (j := 0) rfl, cF, _, rfl, .inr (T.d_FED H), rfl, rfl, _, rfl, ?_⟩
      dsimp only
      refine ite_in (c := false) (by decide +kernel) (iteF ?_)
      exact ⟨Nat.zero_le _, fun p np => q _ _ (same_new np) (intsT_nil upd_same)⟩
    | iz b =>
      refine ⟨.ref a, rfl, a, _, _, _, rfl, rfl, .inl (.inl ea), atI_nat (j := 0) rfl, rfl, _, rfl, ite_str (fun z => absurd z (by decide +kernel)) fun _ => ?_⟩
      refine ⟨.ref a, rfl, a, _, _, _, rfl, rfl, .inl (.inl ea), atI_nat (j := 0) rfl, cF, _, rfl, .inr (T.d_FED H), rfl, rfl, _, rfl, ?_⟩
      dsimp only
      refine ite_in (c := false) (by decide +kernel) (iteF ?_)
      exact ⟨Nat.zero_le _, fun p np => q _ _ (same_new np) (intsT_nil upd_same)⟩
    | box c b d =>
      refine ⟨.ref a, rfl, a, _, _, _, rfl, rfl, .inl (.inl ea), atI_nat (j := 0) rfl, rfl, _, rfl, ite_str (fun _ => ?_) fun z => absurd rfl z⟩
      exact ⟨.ref a, rfl, a, _, _, _, rfl, rfl, .inl (.inl ea), atI_nat (j := 3) rfl, by show 1 ≤ sizeLine; decide, fun p np => q _ _ (same_new np) (intsT_one upd_same)⟩
    | nt b =>
      refine ⟨.ref a, rfl, a, _, _, _, rfl, rfl, .inl (.inl ea), atI_nat (j := 0) rfl, rfl, _, rfl, ite_str (fun z => absurd z (by decide +kernel)) fun _ => ?_⟩
      refine ⟨.ref a, rfl, a, _, _, _, rfl, rfl, .inl (.inl ea), atI_nat (j := 0) rfl, cF, _, rfl, .inr (T.d_FED H), rfl, rfl, _, rfl, ?_⟩
      dsimp only
      refine ite_in (c := true) (by decide +kernel) (iteT ?_)
      refine ⟨.ref a, rfl, 1, rfl, a, _, rfl, .inl (.inl ea), (by show ¬ (HT.sIx 2 0 (some 1) = 0 ∧ HT.sIx 2 2 none = 2); decide), fun p np => ?_⟩
      exact q _ _ (same_new np) (intsT_one upd_same)
    | two y b c =>
      obtain ⟨rfl | rfl | rfl, _, _⟩ := hok
      · refine ⟨.ref a, rfl, a, _, _, _, rfl, rfl, .inl (.inl ea), atI_nat (j := 0) rfl, rfl, _, rfl, ite_str (fun z => absurd z (by decide +kernel)) fun _ => ?_⟩
        refine ⟨.ref a, rfl, a, _, _, _, rfl, rfl, .inl (.inl ea), atI_nat (j := 0) rfl, cF, _, rfl, .inr (T.d_FED H), rfl, rfl, _, rfl, ?_⟩
        dsimp only
        refine ite_in (c := true) (by decide +kernel) (iteT ?_)
        refine ⟨.ref a, rfl, 1, rfl, a, _, rfl, .inl (.inl ea), (by show ¬ (HT.sIx 3 0 (some 1) = 0 ∧ HT.sIx 3 3 none = 3); decide), fun p np => ?_⟩
        exact q _ _ (same_new np) (intsT_two upd_same)
      · refine ⟨.ref a, rfl, a, _, _, _, rfl, rfl, .inl (.inl ea), atI_nat (j := 0) rfl, rfl, _, rfl, ite_str (fun z => absurd z (by decide +kernel)) fun _ => ?_⟩
        refine ⟨.ref a, rfl, a, _, _, _, rfl, rfl, .inl (.inl ea), atI_nat (j := 0) rfl, cF, _, rfl, .inr (T.d_FED H), rfl, rfl, _, rfl, ?_⟩
        dsimp only
        refine ite_in (c := true) (by decide +kernel) (iteT ?_)
        refine ⟨.ref a, rfl, 1, rfl, a, _, rfl, .inl (.inl ea), (by show ¬ (HT.sIx 3 0 (some 1) = 0 ∧ HT.sIx 3 3 none = 3); decide), fun p np => ?_⟩
        exact q _ _ (same_new np) (intsT_two upd_same)
      · refine ⟨.ref a, rfl, a, _, _, _, rfl, rfl, .inl (.inl ea), atI_nat (j := 0) rfl, rfl, _, rfl, ite_str (fun z => absurd z (by decide +kernel)) fun _ => ?_⟩
        refine ⟨.ref a, rfl, a, _, _, _, rfl, rfl, .inl (.inl ea), atI_nat (j := 0) rfl, cF, _, rfl, .inr (T.d_FED H), rfl, rfl, _, rfl, ?_⟩
        dsimp only
        refine ite_in (c := true) (by decide +kernel) (iteT ?_)
        refine ⟨.ref a, rfl, 1, rfl, a, _, rfl, .inl (.inl ea), (by show ¬ (HT.sIx 3 0 (some 1) = 0 ∧ HT.sIx 3 3 none = 3); decide), fun p np => ?_⟩
        exact q _ _ (same_new np) (intsT_two upd_same)
end
end K53

namespace K53
open PySem PySem.Spec PyProof.Rows L2 Kit
def rLen1 (K : PySem.W.Frag) : List V → Hp → VK → Prop := fun xs H Q => ∃ p ys, xs = [.ref p] ∧ (SqL K H p ys ∨ SqT K H p ys) ∧ Q (.int ys.length) H
/-! ### what feeds bring -/
def bro (arr : List Int) (fs ls : List Nat) (step : Int) : List (Int × Int) := List.zipWith (fun (f l : Nat) => (arr.getD f 0 + step * ((l : Int) - 1), (f : Int))) fs ls
abbrev Way := List (Int × Int)
def cellT (c : Int × Int) : Td := .tup [.int c.1, .int c.2]
def wayT (w : Way) : Td := .tup (w.map cellT)
def waysT (wl : List (List Way)) : Td := .tup (wl.map fun ws => .tup (ws.map wayT))
def gatesT (gs : List Gt) : Td := .tup (gs.map Gt.td)
def lens (ws : List Way) : List Nat := ws.map (·.length)
theorem sq_same {K : PySem.W.Frag} {H H1 : Hp} {v : V} {xs : List V} (e : Sq K H v xs) (h : Same H H1) : Sq K H1 v xs := by
  cases e with
  | lst e =>
    rcases e with (e | ⟨o, e⟩) | e
    · exact .lst (.inl (.inl (h _ _ e)))
    · exact .lst (.inl (.inr ⟨o, h _ _ e⟩))
    · exact .lst (.inr e)
  | tup e =>
    rcases e with (e | ⟨o, e⟩) | e
    · exact .tup (.inl (.inl (h _ _ e)))
    · exact .tup (.inl (.inr ⟨o, h _ _ e⟩))
    · exact .tup (.inr e)
  | str e => exact .str e
theorem none_back {H H1 : Hp} {p : Addr} (s : Same H H1) (h : H1 p = none) : H p = none := by
  cases e : H p with
  | none => rfl
  | some o =>
    rw [s p o e] at h
    cases h
theorem arr_at {arr : List Int} {i : Nat} (h : i < arr.length) : (arr.map V.int)[i]? = some (.int (arr.getD i 0)) := by
  rw [List.getElem?_map, List.getElem?_eq_getElem h, List.getD_eq_getElem?_getD, List.getElem?_eq_getElem h]
  rfl
theorem mul_ok {s : Int} {n m : Nat} {e : n = m} (s0 : 0 ≤ s) (s1 : s ≤ 100000) : IntMulOk s ((n : Int) - 1) :=
  .of_left (intBits_le_64 (by omega) (by omega))
theorem Gt.feeds_le (g : Gt) : g.feeds.length ≤ 2 := by
  cases g <;> simp [Gt.feeds]
theorem all2_get {H : Hp} {ts : List Td} {vs : List V} {i : Nat} {t : Td} (h : All2 H ts vs) (e : ts[i]? = some t) : ∃ v, vs[i]? = some v ∧ TdR H t v := by
  have hi : i < vs.length := by
    rw [← h.1]
    exact (List.getElem?_eq_some_iff.mp e).1
  exact ⟨vs[i], List.getElem?_eq_getElem hi, h.2 i t _ e (List.getElem?_eq_getElem hi)⟩
theorem all2_ints {H : Hp} : ∀ {ns : List Nat} {vs : List V}, All2 H (ns.map fun (k : Nat) => Td.int (k : Int)) vs → vs = ns.map fun (k : Nat) => V.int (k : Int)
  | [], vs, h => h.inv_nil
  | n :: ns, vs, h => by
    obtain ⟨v, vs', rfl, h1, h2⟩ := h.inv_cons
    rw [h1.inv_int, all2_ints h2]
    rfl
/-- a sound net with its laying -/
structure Okl (gs : List Gt) (wl : List (List Way)) : Prop where
  gate : ∀ (i : Nat) (g : Gt), gs[i]? = some g → g.ok gs.length i
  many : wl.length = gs.length
  ways : ∀ (i : Nat) (g : Gt) (ws : List Way), gs[i]? = some g → wl[i]? = some ws → ws.length = g.feeds.length ∧ ∀ w ∈ ws, 1 ≤ w.length ∧ w.length ≤ 1000
theorem Okl.at {gs : List Gt} {wl : List (List Way)} (h : Okl gs wl) {i : Nat} {g : Gt} (e : gs[i]? = some g) : ∃ ws, wl[i]? = some ws ∧ ws.length = g.feeds.length ∧ ∀ w ∈ ws, 1 ≤ w.length ∧ w.length ≤ 1000 := by
  have hi : i < wl.length := by
    rw [h.many]
    exact (List.getElem?_eq_some_iff.mp e).1
  exact ⟨wl[i], List.getElem?_eq_getElem hi, h.ways i g _ e (List.getElem?_eq_getElem hi)⟩
def spBro (K : PySem.W.Frag) : Sp := fun vs H Q _ => ∃ (va vg vw : V) (arr : List Int) (gs : List Gt) (wl : List (List Way)) (g : Nat) (gt : Gt) (ws : List Way) (step : Int),
  vs = [va, vg, vw, .int (g : Int), .int step] ∧ Sq K H va (arr.map V.int) ∧ TdR H (gatesT gs) vg ∧ TdR H (waysT wl) vw ∧ Okl gs wl ∧ gs[g]? = some gt ∧ wl[g]? = some ws ∧ (∀ f ∈ gt.feeds, f < arr.length) ∧ 0 ≤ step ∧ step ≤ 100000 ∧
  ∀ (p : Addr) (rs : List Addr) (H' : Hp), Same H H' → H p = none → H' p = some (.lst (rs.map V.ref)) → rs.length = (bro arr gt.feeds (lens ws) step).length →
    (∀ (i : Nat) (r : Addr) (pr : Int × Int), rs[i]? = some r → (bro arr gt.feeds (lens ws) step)[i]? = some pr → H' r = some (.tup [.int pr.1, .int pr.2])) → Q (.ref p) H'
section
variable {P : Program} {w : World} {K : PySem.W.Frag} {mg : Str → Option Value} {base : Heap} {cF cD : Addr}
theorem ok_bro {f : Addr} {fd : FuncData} (D : DefAt K mg "brought" ["arrivals", "gates", "ways", "g", "step"] s_brought f fd) (M : Bi mg)
    (C_feeds_of : Cal P w K mg base L2.CX0 1 "feeds_of" ["gate"] spFeeds) : Cal P w K mg base L2.CX0 2 "brought" ["arrivals", "gates", "ways", "g", "step"] (spBro K) := by
  have S := S_brought
  refine cal_of D.fn D.mgf D.bs D.kbs S (fun vs H Q E h => ?_) (fun cdv A outer s H vs Q E hq hr h => ?_)
  · obtain ⟨va, vg, vw, arr, gs, wl, g, gt, ws, step, rfl, _⟩ := h
    rfl
  · obtain ⟨va, vg, vw, arr, gs, wl, g, gt, ws, step, rfl, ha, hg, hw, ok, eg, ew, hf, s0, s1, q⟩ := h
    refine ⟨_, (pss_one (ps_ret (pe_lc (own := [("feed", 5), ("way", 6)]) (g := (gTup K 2 (gCons (gName 5) (gCons (gName 6) gNil)))) (tt := tYes) (te := (tTup (tCons (tOp (rI0 fun i j => .int (i + j)) (tOp (rIx K) (tVar 0) (tVar 5)) (tOp (rI IntMulOk fun i j => .int (i * j)) (tVar 4) (tOp (rI0 fun i j => .int (i - j)) (tCB (rLen1 K) (tCons (tVar 6) tNil)) (tC (.int 1))))) (tCons (tVar 5) tNil)))) rfl S.nd (RZ.pi_zipA (by rfl) M.zip_ (pa_cons (pe_c C_feeds_of pass0 hq hr (by omega) (by rfl) (pa_cons (pe_ix ix_tup (pv 1) (pv 3) (fun _ _ => rfl)) pa_nil)) (pa_cons (pe_ix ix_tup (pv 2) (pv 3) (fun _ _ => rfl)) pa_nil))) (blkOk_by (own := [("feed", 5), ("way", 6)]) (N := N_brought) (sc := defScope s_brought) (by decide +kernel)) (fun _ _ _ _ _ => (pg_tup (by rfl) (pgs_cons (pg_name (i := 5) S.nd rfl (.inl rfl)) (pgs_cons (pg_name (i := 6) S.nd rfl (.inl rfl)) pgs_nil)))) (fun _ _ _ _ _ => pts_nil) (fun _ _ _ _ _ => (pe_tup (pa_cons (pe_op op_add (pe_ix ix_seq (pv 0) (pv 5) (fun _ _ => rfl)) (pe_op op_mulB (pv 4) (pe_op op_sub (pe_callB call_len_seq (by rfl) M.len_ (by decide +kernel) (pa_cons (pv 6) pa_nil)) pe_int))) (pa_cons (pv 5) pa_nil))))))), ?_⟩
    obtain ⟨G, gvs, rfl, hG, gal⟩ := hg.inv_tup
    obtain ⟨W, wvs, rfl, hW, wal⟩ := hw.inv_tup
    obtain ⟨gv, egv, tgv⟩ := all2_get gal (i := g) (t := gt.td) (by rw [List.getElem?_map, eg]; rfl)
    obtain ⟨wv, ewv, twv⟩ := all2_get wal (i := g) (t := .tup (ws.map wayT)) (by rw [List.getElem?_map, ew]; rfl)
    refine ⟨.ref G, rfl, .int (g : Int), rfl, G, _, _, _, rfl, rfl, .inl (.inl hG), atI_nat egv, gv, gt, gs.length, g, rfl, tgv, ok.gate g gt eg, fun fv H1 sm1 tf => ?_⟩
    have twv1 := twv.same sm1
    obtain ⟨Wg, cvs, rfl, hWg, cal⟩ := twv1.inv_tup
    obtain ⟨Fg, fvs, rfl, hFg, fal⟩ := tf.inv_tup
    obtain rfl := all2_ints fal
    refine ⟨.ref W, rfl, .int (g : Int), rfl, W, _, _, _, rfl, rfl, .inl (.inl (sm1 _ _ hW)), atI_nat ewv, Fg, Wg, _, _, rfl, .inr ⟨.inl (.inl hFg), .inl (.inl hWg), ?_⟩⟩
    intro D1 nD
    obtain ⟨lw, hws⟩ := ok.ways g gt ws eg ew
    have n1 : gt.feeds.length = (gt.feeds.map fun (k : Nat) => V.int (k : Int)).length := (List.length_map _).symm
    have n2 : gt.feeds.length = cvs.length := by rw [← cal.1, List.length_map, lw]
    have lb : (bro arr gt.feeds (lens ws) step).length = gt.feeds.length := by
      unfold bro lens
      rw [List.length_zipWith, List.length_map, lw, Nat.min_self]
    have nF : Fg ≠ D1 := ne_of_none hFg nD
    have nW : Wg ≠ D1 := ne_of_none hWg nD
    refine lc_it (walk_zipT (K := K) (a := Fg) (b := Wg) n1 n2) (fun i H' => Same H1 H' ∧ ∃ rs : List Addr, H' D1 = some (.lst (rs.map V.ref)) ∧ rs.length = i ∧
      ∀ (j : Nat) (r : Addr) (pr : Int × Int), rs[j]? = some r → (bro arr gt.feeds (lens ws) step)[j]? = some pr → H' r = some (.tup [.int pr.1, .int pr.2])) ?_ ?_ ?_ ?_
    · exact ⟨same_new nD, [], upd_same, rfl, fun j r pr h => by cases h⟩
    · rintro i H' _ ⟨sm, _⟩
      exact ⟨.inl (.inl (sm _ _ hFg)), .inl (.inl (sm _ _ hWg))⟩
    · rintro i x H' H2 hi ⟨sm, rs, eD, lr, hrs⟩ ⟨TT, u, v, rfl, nT, rfl, e1, e2⟩
      have e1' : (gt.feeds.map fun (k : Nat) => V.int (k : Int))[i]? = some u := e1
      rw [List.getElem?_map] at e1'
      obtain ⟨fi, efi, rfl⟩ : ∃ fi : Nat, gt.feeds[i]? = some fi ∧ V.int (fi : Int) = u := by
        cases hfi : gt.feeds[i]? with
        | none =>
          rw [hfi] at e1'
          cases e1'
        | some fi =>
          rw [hfi] at e1'
          exact ⟨fi, rfl, Option.some.inj e1'⟩
      obtain ⟨wi, ewi⟩ : ∃ wi, ws[i]? = some wi := ⟨ws[i]'(by omega), List.getElem?_eq_getElem _⟩
      have twi := cal.2 i (wayT wi) v (by rw [List.getElem?_map, ewi]; rfl) e2
      have smT := sm.trans (same_new (o := .tup [.int (fi : Int), v]) nT)
      obtain ⟨C, cellsV, rfl, hC, cl⟩ := (twi.same smT).inv_tup
      have lenC : cellsV.length = wi.length := by rw [← cl.1, List.length_map]
      obtain ⟨w1, w2⟩ := hws wi (List.mem_of_getElem? ewi)
      have ha2 : Sq K (upd H' TT (.tup [.int (fi : Int), .ref C])) va (arr.map V.int) := sq_same ha (sm1.trans smT)
      have lfi : fi < arr.length := hf fi (List.mem_of_getElem? efi)
      have efa : (arr.map V.int)[fi]? = some (.int (arr.getD fi 0)) := arr_at lfi
      have efl : (bro arr gt.feeds (lens ws) step)[i]? = some (arr.getD fi 0 + step * ((wi.length : Int) - 1), (fi : Int)) := by
        unfold bro lens
        rw [List.getElem?_zipWith, efi, List.getElem?_map, ewi]
        rfl
      have eD1 : upd H' TT (.tup [.int (fi : Int), .ref C]) D1 = some (.lst (rs.map V.ref)) := by
        rw [upd_ne (ne_of_none eD nT)]
        exact eD
      refine ⟨TT, _, rfl, .inl (.inl upd_same), rfl, _, _, rfl, _, _, rfl, rfl, ?_⟩
      refine ⟨rfl, ?_⟩
      unfold tYes
      refine iteT ?_
      refine ⟨va, rfl, .int (fi : Int), rfl, ha2.item (atI_nat efa) ?_⟩
      refine ⟨.int step, rfl, .ref C, rfl, C, cellsV, rfl, .inr (.inl (.inl hC)), _, _, rfl, rfl, _, _, rfl, rfl, mul_ok (e := lenC) s0 s1, _, _, rfl, rfl, ?_⟩
      refine ⟨.int (fi : Int), rfl, show (2 : Nat) ≤ _ by decide, fun T3 n3 => ?_⟩
      have eD2 := upd_ne (o := .tup [.int (arr.getD fi 0 + step * ((cellsV.length : Int) - 1)), .int (fi : Int)]) (H := upd H' TT (.tup [.int (fi : Int), .ref C])) (ne_of_none eD1 n3)
      have n3D : T3 ≠ D1 := fun z => by
        rw [z, eD1] at n3
        cases n3
      refine ⟨rs.map V.ref, eD2.trans eD1, ?_, ?_, rs ++ [T3], ?_, ?_, ?_⟩
      · rw [List.length_map, lr]
        exact Nat.lt_of_lt_of_le hi (Nat.le_trans gt.feeds_le (by decide))
      · exact same_mut (smT.trans (same_new n3)) nD
      · rw [upd_same]
        simp
      · rw [List.length_append, lr]
        rfl
      · intro j r pr h1 h2
        by_cases hj : j < i
        · have h1' : rs[j]? = some r := by
            rw [List.getElem?_append_left (by omega)] at h1
            exact h1
          have z := hrs j r pr h1' h2
          have z1 := (same_new (o := .tup [.int (fi : Int), .ref C]) nT) _ _ z
          have z2 := (same_new (o := .tup [.int (arr.getD fi 0 + step * ((cellsV.length : Int) - 1)), .int (fi : Int)]) n3) _ _ z1
          have nr : r ≠ D1 := fun w => by
            rw [w, eD] at z
            cases z
          rw [upd_ne nr]
          exact z2
        · have lj : j < (rs ++ [T3]).length := (List.getElem?_eq_some_iff.mp h1).1
          rw [List.length_append, lr] at lj
          have hj2 : j = i := by
            have : [T3].length = 1 := rfl
            omega
          subst hj2
          rw [List.getElem?_append_right (by omega), lr, Nat.sub_self] at h1
          cases h1
          rw [efl] at h2
          cases h2
          rw [upd_ne n3D, upd_same, lenC]
    · rintro H' ⟨sm, rs, eD, lr, hrs⟩
      exact q _ rs H' (sm1.trans sm) (none_back sm1 nD) eD (by rw [lr, lb]) hrs
end
end K53

namespace K53
open PySem PySem.Spec PyProof.Rows L2 Kit
/-! ### when gates arrive -/
theorem sqt_same0 {K : PySem.W.Frag} {H H1 : Hp} {a : Addr} {xs : List V} (e : SqT K H a xs) (h : Same H H1) : SqT K H1 a xs := by
  rcases e with (e | ⟨o, e⟩) | e
  · exact .inl (.inl (h _ _ e))
  · exact .inl (.inr ⟨o, h _ _ e⟩)
  · exact .inr e
def mxi (l : List Int) : Int := (l.max?).getD 0
theorem mxi_eq {l : List Int} {m : Int} (h1 : m ∈ l) (h2 : ∀ x ∈ l, x ≤ m) : mxi l = m := by
  unfold mxi
  rw [List.max?_eq_some_iff.mpr ⟨h1, h2⟩]
  rfl
theorem pgt_le {q p : Int × Int} (h : L2.pgt q p = false) : q.1 ≤ p.1 := by
  unfold L2.pgt at h
  simp at h
  omega
structure Own where
  (s o t : Int)
def Own.ok (d : Own) : Prop := 0 ≤ d.s ∧ d.s ≤ 100000
def Gt.own (d : Own) : Gt → Int
  | .nt _ => d.o
  | _ => d.t
def Gt.kind : Gt → Str
  | .inp _ _ => "in"
  | .iz _ => "is"
  | .box _ _ _ => "box"
  | .nt _ => "not"
  | .two w _ _ => w
theorem fed_in {g : Gt} {n i : Nat} (h : g.ok n i) : inV (.str g.kind) [.str "not", .str "and", .str "or", .str "xor"] = g.fed := by
  cases g with
  | inp x k => exact (by decide +kernel : inV (.str "in") [.str "not", .str "and", .str "or", .str "xor"] = false)
  | iz b => exact (by decide +kernel : inV (.str "is") [.str "not", .str "and", .str "or", .str "xor"] = false)
  | box c b d => exact (by decide +kernel : inV (.str "box") [.str "not", .str "and", .str "or", .str "xor"] = false)
  | nt a => exact (by decide +kernel : inV (.str "not") [.str "not", .str "and", .str "or", .str "xor"] = true)
  | two y a c =>
    obtain ⟨rfl | rfl | rfl, _, _⟩ := h
    · exact (by decide +kernel : inV (.str "and") [.str "not", .str "and", .str "or", .str "xor"] = true)
    · exact (by decide +kernel : inV (.str "or") [.str "not", .str "and", .str "or", .str "xor"] = true)
    · exact (by decide +kernel : inV (.str "xor") [.str "not", .str "and", .str "or", .str "xor"] = true)
theorem fed_lt {g : Gt} {n i : Nat} (h : g.ok n i) (e : g.fed = true) : ∀ f ∈ g.feeds, f < i := by
  cases g with
  | inp x k => cases e
  | iz b => cases e
  | box c b d => cases e
  | nt a =>
    intro f hf
    rw [List.mem_singleton.mp hf]
    exact h
  | two y a c =>
    obtain ⟨_, h1, h2⟩ := h
    intro f hf
    have hf : f ∈ [a, c] := hf
    simp at hf
    rcases hf with rfl | rfl
    · exact h1
    · exact h2
theorem fed_pos {g : Gt} (e : g.fed = true) : 0 < g.feeds.length := by
  cases g <;> first | cases e; done | (show 0 < List.length (_ :: _); exact Nat.zero_lt_succ _)
theorem Gt.vs0 (g : Gt) : g.vs[0]? = some (.str g.kind) := by cases g <;> rfl
def arrV (gs : List Gt) (wl : List (List Way)) (d : Own) (arr : List Int) (k : Nat) : Int :=
  match gs[k]? with
  | some g => if g.fed then mxi ((bro arr g.feeds (lens (wl.getD k [])) d.s).map (·.1)) + g.own d else 0
  | none => 0
def arrN (gs : List Gt) (wl : List (List Way)) (d : Own) : Nat → List Int
  | 0 => []
  | k + 1 => arrN gs wl d k ++ [arrV gs wl d (arrN gs wl d k) k]
theorem arrN_len (gs : List Gt) (wl : List (List Way)) (d : Own) : ∀ k, (arrN gs wl d k).length = k
  | 0 => rfl
  | k + 1 => by rw [arrN, List.length_append, arrN_len gs wl d k]; rfl
def arrs (gs : List Gt) (wl : List (List Way)) (d : Own) : List Int := arrN gs wl d gs.length
def ownV (d : Own) : List V := [.int d.s, .int d.o, .int d.t]
def spOwn (K : PySem.W.Frag) : Sp := fun vs H Q _ => ∃ (v : V) (a : Addr) (g : Gt) (n i : Nat) (d : Own), vs = [v, .ref a] ∧ TdR H g.td v ∧ SqT K H a (ownV d) ∧ g.ok n i ∧ g.fed = true ∧ Q (.int (g.own d)) H
def spArrs (K : PySem.W.Frag) : Sp := fun vs H Q _ => ∃ (vg vw vd : V) (gs : List Gt) (wl : List (List Way)) (d : Own),
  vs = [vg, vw, vd] ∧ TdR H (gatesT gs) vg ∧ TdR H (waysT wl) vw ∧ (∃ a, vd = .ref a ∧ SqT K H a (ownV d)) ∧ Okl gs wl ∧ d.ok ∧ gs.length ≤ 1000 ∧
  ∀ (p : Addr) (H' : Hp), Same H H' → H' p = some (.tup ((arrs gs wl d).map V.int)) → Q (.ref p) H'
section
variable {P : Program} {w : World} {K : PySem.W.Frag} {mg : Str → Option Value} {base : Heap} {cF cD : Addr}
theorem ok_own {f : Addr} {fd : FuncData} (D : DefAt K mg "own_delay" ["gate", "delays"] s_own_delay f fd) : Cal P w K mg base L2.CX0 1 "own_delay" ["gate", "delays"] (spOwn K) := by
  have S := S_own_delay
  refine cal_of D.fn D.mgf D.bs D.kbs S (fun vs H Q E h => ?_) (fun cdv A outer s H vs Q E hq hr h => ?_)
  · obtain ⟨v, a, g, n, i, d, rfl, _⟩ := h
    rfl
  · obtain ⟨v, a, gt, n, i, d, rfl, hg, hd, hok, hfd, q⟩ := h
    refine ⟨_, (pss_one (ps_ret (pe_ifExp (pt_cmpR op_eq (pe_ix ix_tup (pv 0) pe_int (fun _ _ => rfl)) pe_str (nomark _)) (pe_ix ix_tup (pv 1) pe_int (fun _ _ => rfl)) (pe_ix ix_tup (pv 1) pe_int (fun _ _ => rfl))))), ?_⟩
    obtain ⟨gA, rfl, egA⟩ := gt_at hg
    refine ⟨.ref gA, rfl, gA, _, _, _, rfl, rfl, .inl (.inl egA), atI_nat (j := 0) gt.vs0, rfl, _, rfl, ?_⟩
    have nt : (gt.kind = "not" ∧ gt.own d = d.o) ∨ (gt.kind ≠ "not" ∧ gt.own d = d.t) := by
      cases gt with
      | inp x k => cases hfd
      | iz b => cases hfd
      | box c b e => cases hfd
      | nt b => exact .inl ⟨rfl, rfl⟩
      | two y b c =>
        obtain ⟨rfl | rfl | rfl, _, _⟩ := hok
        · exact .inr ⟨(by decide +kernel : ("and" : Str) ≠ "not"), rfl⟩
        · exact .inr ⟨(by decide +kernel : ("or" : Str) ≠ "not"), rfl⟩
        · exact .inr ⟨(by decide +kernel : ("xor" : Str) ≠ "not"), rfl⟩
    rcases nt with ⟨hk, ho⟩ | ⟨hk, ho⟩
    · refine ite_str (fun _ => ?_) fun z => absurd hk z
      rw [ho] at q
      exact ⟨.ref a, rfl, a, _, _, _, rfl, rfl, hd, atI_nat (j := 1) rfl, q⟩
    · refine ite_str (fun z => absurd z hk) fun _ => ?_
      rw [ho] at q
      exact ⟨.ref a, rfl, a, _, _, _, rfl, rfl, hd, atI_nat (j := 2) rfl, q⟩
theorem ok_arrs {f : Addr} {fd : FuncData} (D : DefAt K mg "arrivals_of" ["gates", "ways", "delays"] s_arrivals_of f fd) (M : Bi mg) (T : Tp K mg cF cD)
    (C_brought : Cal P w K mg base L2.CX0 2 "brought" ["arrivals", "gates", "ways", "g", "step"] (spBro K))
    (C_own_delay : Cal P w K mg base L2.CX0 1 "own_delay" ["gate", "delays"] (spOwn K)) : Cal P w K mg base L2.CX0 3 "arrivals_of" ["gates", "ways", "delays"] (spArrs K) := by
  have S := S_arrivals_of
  refine cal_of D.fn D.mgf D.bs D.kbs S (fun vs H Q E h => ?_) (fun cdv A outer s H vs Q E hq hr h => ?_)
  · obtain ⟨vg, vw, vd, gs, wl, d, rfl, _⟩ := h
    rfl
  · obtain ⟨vg, vw, vd, gs, wl, d, rfl, hg, hw, ⟨a, rfl, hd⟩, ok, od, gl, q⟩ := h
    refine ⟨_, (pss_cons (ps_set (i := 3) S.nd rfl (.inl rfl) (pe_lst pa_nil))
 (pss_cons (ps_for PassesOwn.never rfl (pi_enumT (by rfl) M.enumerate_ (pa_cons (pv 0) pa_nil)) (pg_tup (by rfl) (pgs_cons (pg_name (i := 4) S.nd rfl (.inl rfl)) (pgs_cons (pg_name (i := 5) S.nd rfl (.inl rfl)) pgs_nil)))
  (pss_one (ps_if (pt_cmpR op_in_seq (pe_ix ix_tup (pv 5) pe_int (fun _ _ => rfl)) (C8.pe_gc (by rfl) T.c_FED) rfl)
  (pss_cons (ps_asg (pe_callB (call_maxP rfl (Nat.lt_of_le_of_lt (Nat.add_le_add_left (by decide) _) (room200 hr))) (by rfl) M.max_ (by decide +kernel) (pa_cons (pe_c C_brought pass0 hq hr (by omega) (by rfl) (pa_cons (pv 3) (pa_cons (pv 0) (pa_cons (pv 1) (pa_cons (pv 4) (pa_cons (pe_ix ix_tup (pv 2) pe_int (fun _ _ => rfl)) pa_nil)))))) pa_nil)) (pg_tup (by rfl) (pgs_cons (pg_name (i := 6) S.nd rfl (.inl rfl)) (pgs_cons (pg_name (i := 7) S.nd rfl (.inl rfl)) pgs_nil))))
 (pss_one (ps_expr (pe_bm PySem.F.plainAttrs_list PySem.F.slot_list_append PySem.F.type_list_append mt_append (pv 3) (pa_cons (pe_op op_add (pv 6) (pe_c C_own_delay pass0 hq hr (by omega) (by rfl) (pa_cons (pv 5) (pa_cons (pv 2) pa_nil)))) pa_nil)))))
  (pss_one (ps_expr (pe_bm PySem.F.plainAttrs_list PySem.F.slot_list_append PySem.F.type_list_append mt_append (pv 3) (pa_cons pe_int pa_nil)))))))
 (pss_one (ps_ret (pe_callTy call_tuple_of (by rfl) M.tuple_ (by decide +kernel) (pa_cons (pv 3) pa_nil)))))), ?_⟩
    obtain ⟨G, gvs, rfl, hG, gal⟩ := hg.inv_tup
    have lg : gvs.length = gs.length := by rw [← gal.1, List.length_map]
    refine ⟨show (0 : Nat) ≤ _ by decide, fun L nL => ?_⟩
    have sL := same_new (o := .lst []) nL
    refine ⟨.ref G, rfl, G, gvs, rfl, .inl (.inl (sL _ _ hG)), for_it (walk_enumT (K := K) (a := G) (xs := gvs)) (fun i σ H' => Same H H' ∧ H' L = some (.lst ((arrN gs wl d i).map V.int)) ∧ ∃ x4 x5 x6 x7 : Option V,
      σ = [some (.ref G), some vw, some (.ref a), some (.ref L), x4, x5, x6, x7]) ?_ ?_ ?_ ?_⟩
    · exact ⟨sL, upd_same, none, none, none, none, rfl⟩
    · rintro i σ H' _ ⟨sm, _⟩
      exact .inl (.inl (sm _ _ hG))
    · rintro i x σ H' H2 hi ⟨sm, eL, x4, x5, x6, x7, rfl⟩ ⟨TT, u, v, rfl, nT, rfl, e1, e2⟩
      cases e1
      rw [lg] at hi
      obtain ⟨gt, egt⟩ : ∃ gt, gs[i]? = some gt := ⟨gs[i], List.getElem?_eq_getElem hi⟩
      have tg := gal.2 i gt.td v (by rw [List.getElem?_map, egt]; rfl) e2
      have sT := sm.trans (same_new (o := .tup [.int (i : Int), v]) nT)
      have eL2 := (same_new (o := .tup [.int (i : Int), v]) nT) _ _ eL
      obtain ⟨gA, rfl, egA⟩ := gt_at (tg.same sT)
      refine ⟨TT, _, rfl, .inl (.inl upd_same), rfl, _, _, rfl, _, _, rfl, rfl, ?_⟩
      revert egA sT eL2
      generalize eG1 : upd H' TT (.tup [.int (i : Int), .ref gA]) = G1
      intro sT eL2 egA
      refine ⟨.ref gA, rfl, gA, _, _, _, rfl, rfl, .inl (.inl (egA)), atI_nat (j := 0) gt.vs0, cF, _, rfl, .inr (T.d_FED _), rfl, rfl, _, rfl, ?_⟩
      dsimp only
      refine ite_in (fed_in (ok.gate i gt egt)) ?_
      obtain ⟨ws, ew, lw, hws⟩ := ok.at egt
      cases hfd : gt.fed with
      | false =>
        refine iteF ?_
        refine ⟨.ref L, rfl, .inl ⟨rfl, _, .inl (.inl eL2)⟩, L, _, _, rfl, rfl, eL2, ?_, ?_⟩
        · rw [List.length_map, arrN_len]
          exact Nat.lt_of_lt_of_le (Nat.lt_of_lt_of_le hi gl) (by decide)
        · refine ⟨same_mut sT nL, ?_, _, _, _, _, rfl⟩
          rw [upd_same, arrN, List.map_append]
          unfold arrV
          rw [egt]
          dsimp only
          rw [hfd]
          rfl
      | true =>
        refine iteT ?_
        have lb : (bro (arrN gs wl d i) gt.feeds (lens ws) d.s).length = gt.feeds.length := by
          unfold bro lens
          rw [List.length_zipWith, List.length_map, lw, Nat.min_self]
        refine ⟨.ref L, rfl, .ref G, rfl, vw, rfl, .int (i : Int), rfl, .ref a, rfl, a, _, _, _, rfl, rfl, sqt_same0 hd sT, atI_nat (j := 0) rfl, _, _, _, arrN gs wl d i, gs, wl, i, gt, ws, d.s, rfl, .lst (.inl (.inl eL2)), hg.same sT, hw.same sT, ok, egt, ew, fun f hf => by rw [arrN_len]; exact fed_lt (ok.gate i gt egt) hfd f hf, od.1, od.2, ?_⟩
        intro p rs G2 s3 np ep lrs hrs
        refine ⟨p, rs, _, rfl, .inl (.inl ep), lrs, by rw [lb]; exact fed_pos hfd, fun j r pr h1 h2 => .inl (.inl (hrs j r pr h1 h2)), fun j r pr h1 h2 top => ?_⟩
        refine ⟨r, _, rfl, .inl (.inl (hrs j r pr h1 h2)), rfl, _, _, rfl, _, _, rfl, rfl, ?_⟩
        have eL3 := s3 _ _ eL2
        have eg3 := s3 _ _ egA
        have e1 : mxi ((bro (arrN gs wl d i) gt.feeds (lens ws) d.s).map (·.1)) = pr.1 := mxi_eq (List.mem_map.mpr ⟨pr, List.mem_of_getElem? h2, rfl⟩) fun x hx => by
          obtain ⟨q', hq', rfl⟩ := List.mem_map.mp hx
          exact pgt_le (top q' hq')
        have em : arrV gs wl d (arrN gs wl d i) i = pr.1 + gt.own d := by
          unfold arrV
          rw [egt]
          dsimp only
          rw [hfd, List.getD_eq_getElem?_getD, ew]
          show mxi ((bro (arrN gs wl d i) gt.feeds (lens ws) d.s).map (·.1)) + _ = _
          rw [e1]
        have l1 : ((arrN gs wl d i).map V.int).length < sizeLine := by
          rw [List.length_map, arrN_len]
          exact Nat.lt_of_lt_of_le (Nat.lt_of_lt_of_le hi gl) (by decide)
        have fin : ∀ y : Int, y = pr.1 + gt.own d → upd G2 L (.lst ((arrN gs wl d i).map V.int ++ [V.int y])) L = some (.lst ((arrN gs wl d (i + 1)).map V.int)) := by
          intro y ey
          rw [upd_same, arrN, List.map_append, em, ey]
          rfl
        exact ⟨.ref L, rfl, .inl ⟨rfl, _, .inl (.inl eL3)⟩, .int pr.1, rfl, .ref gA, rfl, .ref a, rfl, .ref gA, a, gt, gs.length, i, d, rfl, (tg.same sT).same s3, sqt_same0 hd (sT.trans s3), ok.gate i gt egt, hfd, _, _, rfl, rfl, L, _, _, rfl, rfl, eL3, l1, same_mut (sT.trans s3) nL, fin _ rfl, _, _, _, _, rfl⟩
    · rintro σ H' ⟨sm, eL, x4, x5, x6, x7, rfl⟩
      rw [lg] at eL
      refine ⟨.ref L, rfl, L, _, rfl, .inl ⟨.inl (.inl eL), fun p np => ?_⟩⟩
      exact q p _ (sm.trans (same_new np)) upd_same
end
end K53

namespace K53
open PySem PySem.Spec PyProof.Rows L2 Kit
/-! ### the path of a box -/
/-- y brings x the latest -/
def Top (gs : List Gt) (wl : List (List Way)) (arr : List Int) (step : Int) (x y : Nat) : Prop :=
  ∃ gt ws pr, gs[x]? = some gt ∧ wl[x]? = some ws ∧ pr ∈ bro arr gt.feeds (lens ws) step ∧ pr.2 = (y : Int) ∧ ∀ q ∈ bro arr gt.feeds (lens ws) step, q.1 ≤ pr.1
inductive Chain (gs : List Gt) (wl : List (List Way)) (arr : List Int) (step : Int) : Nat → List Nat → Prop
  | last {x y : Nat} {g : Gt} (h : Top gs wl arr step x y) (e : gs[y]? = some g) (f : g.fed = false) : Chain gs wl arr step x [y]
  | more {x y : Nat} {g : Gt} {l : List Nat} (h : Top gs wl arr step x y) (e : gs[y]? = some g) (f : g.fed = true) (c : Chain gs wl arr step y l) : Chain gs wl arr step x (y :: l)
theorem feeds_lt {g : Gt} {n i : Nat} (h : g.ok n i) (hi : i < n) : ∀ f ∈ g.feeds, f < n := by
  cases g with
  | inp x k =>
    intro f hf
    cases hf
  | iz b =>
    intro f hf
    cases hf
  | box c b d =>
    intro f hf
    rw [List.mem_singleton.mp hf]
    exact h
  | nt a => exact fun f hf => Nat.lt_trans (fed_lt h rfl f hf) hi
  | two y a c => exact fun f hf => Nat.lt_trans (fed_lt h rfl f hf) hi
theorem bro_feed {arr : List Int} {fs ls : List Nat} {step : Int} {pr : Int × Int} (h : pr ∈ bro arr fs ls step) : ∃ f ∈ fs, pr.2 = (f : Int) := by
  unfold bro at h
  induction fs generalizing ls with
  | nil => cases h
  | cons a fs ih =>
    cases ls with
    | nil => cases h
    | cons b ls =>
      rw [List.zipWith_cons_cons] at h
      cases h with
      | head => exact ⟨a, List.mem_cons_self, rfl⟩
      | tail _ h =>
        obtain ⟨f, hf, e⟩ := ih h
        exact ⟨f, List.mem_cons_of_mem _ hf, e⟩
def nats (l : List Nat) : List V := l.map fun (k : Nat) => V.int (k : Int)
def spPath (K : PySem.W.Frag) : Sp := fun vs H Q _ => ∃ (vg vw : V) (ar : Addr) (gs : List Gt) (wl : List (List Way)) (d : Own) (b : Nat) (gt : Gt),
  vs = [.int (b : Int), vg, vw, .ref ar, .int d.s] ∧ TdR H (gatesT gs) vg ∧ TdR H (waysT wl) vw ∧ H ar = some (.tup ((arrs gs wl d).map V.int)) ∧ Okl gs wl ∧ d.ok ∧ gs.length ≤ 1000 ∧
  gs[b]? = some gt ∧ 0 < gt.feeds.length ∧
  ∀ (p : Addr) (l : List Nat) (H' : Hp), Same H H' → Chain gs wl (arrs gs wl d) d.s b l → l.length ≤ gs.length → H' p = some (.tup (nats (b :: l).reverse)) → Q (.ref p) H'
theorem last_at {b x : Nat} {l : List Nat} (e : (b :: l)[l.length]? = some x) : atI (nats (b :: l)) (-1) = some (.int (x : Int)) := by
  have h : ixN (nats (b :: l)).length (-1) = some l.length := by
    unfold nats ixN
    rw [List.length_map, List.length_cons, if_neg (by decide), if_pos (by omega)]
    congr 1
    omega
  unfold atI
  rw [h]
  show (nats (b :: l))[l.length]? = _
  unfold nats
  rw [List.getElem?_map, e]
  rfl
section
variable {P : Program} {w : World} {K : PySem.W.Frag} {mg : Str → Option Value} {base : Heap} {cF cD : Addr}
theorem ok_path {f : Addr} {fd : FuncData} (D : DefAt K mg "path_to" ["box", "gates", "ways", "arrivals", "step"] s_path_to f fd) (M : Bi mg) (T : Tp K mg cF cD)
    (C_brought : Cal P w K mg base L2.CX0 2 "brought" ["arrivals", "gates", "ways", "g", "step"] (spBro K)) : Cal P w K mg base L2.CX0 3 "path_to" ["box", "gates", "ways", "arrivals", "step"] (spPath K) := by
  have S := S_path_to
  refine cal_of D.fn D.mgf D.bs D.kbs S (fun vs H Q E h => ?_) (fun cdv A outer s H vs Q E hq hr h => ?_)
  · obtain ⟨vg, vw, ar, gs, wl, d, b, gt, rfl, _⟩ := h
    rfl
  · obtain ⟨vg, vw, ar, gs, wl, d, b, gt, rfl, hg, hw, ha, ok, od, gl, egt, hpos, q⟩ := h
    refine ⟨_, (pss_cons (ps_set (i := 5) S.nd rfl (.inl rfl) (pe_lst (pa_cons (pv 0) pa_nil)))
 (pss_cons (ps_set (i := 6) S.nd rfl (.inl rfl) pe_bl)
 (pss_cons (ps_while PassesOwn.never (pt_val (pv 6))
  (pss_cons (ps_asg (pe_callB (call_maxP rfl (Nat.lt_of_le_of_lt (Nat.add_le_add_left (by decide) _) (room200 hr))) (by rfl) M.max_ (by decide +kernel) (pa_cons (pe_c C_brought pass0 hq hr (by omega) (by rfl) (pa_cons (pv 3) (pa_cons (pv 1) (pa_cons (pv 2) (pa_cons (pe_ix ix_list (pv 5) (pe_un un_neg pe_int) (fun _ _ => rfl)) (pa_cons (pv 4) pa_nil)))))) pa_nil)) (pg_tup (by rfl) (pgs_cons (pg_name (i := 7) S.nd rfl (.inl rfl)) (pgs_cons (pg_name (i := 8) S.nd rfl (.inl rfl)) pgs_nil))))
 (pss_cons (ps_expr (pe_bm PySem.F.plainAttrs_list PySem.F.slot_list_append PySem.F.type_list_append mt_append (pv 5) (pa_cons (pv 8) pa_nil)))
 (pss_one (ps_set (i := 6) S.nd rfl (.inl rfl) (pe_cmpR op_in_seq (pe_ix ix_tup (pe_ix ix_tup (pv 1) (pv 8) (fun _ _ => rfl)) pe_int (fun _ _ => rfl)) (C8.pe_gc (by rfl) T.c_FED) rfl))))))
 (pss_one (ps_ret (pe_callTy call_tuple_of (by rfl) M.tuple_ (by decide +kernel) (pa_cons (pe_revL (pv 5)) pa_nil))))))), ?_⟩
    obtain ⟨G, gvs, rfl, hG, gal⟩ := hg.inv_tup
    have lar : (arrs gs wl d).length = gs.length := arrN_len _ _ _ _
    refine ⟨.int (b : Int), rfl, show (1 : Nat) ≤ _ by decide, fun L nL => ?_⟩
    have sL := same_new (o := .lst [V.int (b : Int)]) nL
    refine ⟨fun m σ H' => ∃ (l : List Nat) (x : Nat) (gx : Gt) (go : Bool) (x7 x8 : Option V), σ = [some (.int (b : Int)), some (.ref G), some vw, some (.ref ar), some (.int d.s), some (.ref L), some (.bl go), x7, x8] ∧
      Same H H' ∧ H' L = some (.lst (nats (b :: l))) ∧ l.length + m ≤ gs.length + 1 ∧ 1 ≤ m ∧
      (go = false → Chain gs wl (arrs gs wl d) d.s b l) ∧
      (go = true → (b :: l)[l.length]? = some x ∧ gs[x]? = some gx ∧ 0 < gx.feeds.length ∧ (∀ l', Chain gs wl (arrs gs wl d) d.s x l' → Chain gs wl (arrs gs wl d) d.s b (l ++ l')) ∧ ∀ f ∈ gx.feeds, f + 1 < m), ?_, ?_⟩
    · refine ⟨gs.length + 1, [], b, gt, true, none, none, rfl, sL, upd_same, by simp, Nat.succ_le_succ (Nat.zero_le _), fun z => (by cases z), fun _ => ⟨rfl, egt, hpos, fun l' h => h, fun f hf => ?_⟩⟩
      have hb := (List.getElem?_eq_some_iff.mp egt).1
      exact Nat.succ_lt_succ (feeds_lt (ok.gate b gt egt) hb f hf)
    rintro m σ H1 ⟨l, x, gx, go, x7, x8, rfl, sm, eL, lm, m1, hf, ht⟩
    refine ⟨.bl go, rfl, _, rfl, ?_⟩
    cases go with
    | false =>
      refine iteF ?_
      refine ⟨.ref L, rfl, L, _, rfl, .inl (.inl eL), fun p np => ?_⟩
      refine ⟨p, _, rfl, .inl ⟨.inl (.inl upd_same), fun p2 np2 => ?_⟩⟩
      refine q p2 l _ ((sm.trans (same_new np)).trans (same_new np2)) (hf rfl) (by omega) ?_
      rw [upd_same]
      unfold nats
      rw [List.map_reverse]
    | true =>
      refine iteT ?_
      obtain ⟨ex, egx, px, hc, hm⟩ := ht rfl
      have hx := (List.getElem?_eq_some_iff.mp egx).1
      obtain ⟨ws, ew, lw, hws⟩ := ok.at egx
      have flt := feeds_lt (ok.gate x gx egx) hx
      have lb : (bro (arrs gs wl d) gx.feeds (lens ws) d.s).length = gx.feeds.length := by
        unfold bro lens
        rw [List.length_zipWith, List.length_map, lw, Nat.min_self]
      refine ⟨fun σ' H' => ∃ m', m' < m ∧ _, fun σ' H' h => h, ?_⟩
      refine ⟨.ref ar, rfl, .ref G, rfl, vw, rfl, .ref L, rfl, _, rfl, L, _, _, _, rfl, rfl, .inl (.inl eL), last_at ex, .int d.s, rfl, _, _, _, arrs gs wl d, gs, wl, x, gx, ws, d.s, rfl, .tup (.inl (.inl (sm _ _ ha))), hg.same sm, hw.same sm, ok, egx, ew, fun f hf => by rw [lar]; exact flt f hf, od.1, od.2, ?_⟩
      intro p rs G2 s3 np ep lrs hrs
      refine ⟨p, rs, _, rfl, .inl (.inl ep), lrs, by rw [lb]; exact px, fun j r pr h1 h2 => .inl (.inl (hrs j r pr h1 h2)), fun j r pr h1 h2 top => ?_⟩
      refine ⟨r, _, rfl, .inl (.inl (hrs j r pr h1 h2)), rfl, _, _, rfl, _, _, rfl, rfl, ?_⟩
      have hpr := List.mem_of_getElem? h2
      obtain ⟨y, hy, ey⟩ := bro_feed hpr
      obtain ⟨t, y'⟩ := pr
      have ey : y' = (y : Int) := ey
      subst ey
      have hyn := flt y hy
      obtain ⟨gy, egy⟩ : ∃ gy, gs[y]? = some gy := ⟨gs[y], List.getElem?_eq_getElem hyn⟩
      have htop : Top gs wl (arrs gs wl d) d.s x y := ⟨gx, ws, _, egx, ew, hpr, rfl, fun q' hq' => pgt_le (top q' hq')⟩
      have eL3 := s3 _ _ eL
      have l1 : (nats (b :: l)).length < sizeLine := by
        unfold nats
        rw [List.length_map, List.length_cons]
        have : 1001 < sizeLine := by decide
        have := hm y hy
        omega
      have e4 : nats (b :: l) ++ [V.int (y : Int)] = nats (b :: (l ++ [y])) := by
        unfold nats
        rw [← List.cons_append, List.map_append]
        rfl
      refine ⟨.ref L, rfl, .inl ⟨rfl, _, .inl (.inl eL3)⟩, .int (y : Int), rfl, L, _, _, rfl, rfl, eL3, l1, ?_⟩
      rw [e4]
      have s4 := same_mut (o := .lst (nats (b :: (l ++ [y])))) (sm.trans s3) nL
      obtain ⟨gv, egv, tgv⟩ := all2_get (gal.same s4) (i := y) (t := gy.td) (by rw [List.getElem?_map, egy]; rfl)
      obtain ⟨gA, rfl, egA⟩ := gt_at tgv
      refine ⟨.ref G, rfl, .int (y : Int), rfl, G, gvs, _, _, rfl, rfl, .inl (.inl (s4 _ _ hG)), atI_nat egv, gA, _, _, _, rfl, rfl, .inl (.inl egA), atI_nat (j := 0) gy.vs0, cF, _, rfl, .inr (T.d_FED _), rfl, ?_⟩
      have ein : (if false = true then !inV (.str gy.kind) [.str "not", .str "and", .str "or", .str "xor"] else inV (.str gy.kind) [.str "not", .str "and", .str "or", .str "xor"]) = gy.fed := by
        rw [if_neg Bool.false_ne_true]
        exact fed_in (ok.gate y gy egy)
      refine ⟨rfl, y + 1, hm y hy, l ++ [y], y, gy, gy.fed, some (.int t), some (.int (y : Int)), ?_, s4, upd_same, ?_, Nat.succ_le_succ (Nat.zero_le _), fun z => hc _ (.last htop egy z), fun z => ⟨?_, egy, fed_pos z, fun l' h' => ?_, fun f hf => Nat.succ_lt_succ (fed_lt (ok.gate y gy egy) z f hf)⟩⟩
      · rw [← ein]
        rfl
      · have := hm y hy
        rw [List.length_append]
        show l.length + 1 + (y + 1) ≤ _
        omega
      · rw [List.length_append]
        show (b :: (l ++ [y]))[l.length + 1]? = _
        rw [List.getElem?_cons_succ, List.getElem?_append_right (Nat.le_refl _), Nat.sub_self]
        rfl
      · rw [List.append_assoc]
        exact hc _ (.more htop egy z h')
end
end K53

namespace K53
open PySem PySem.Spec PyProof.Rows L2 Kit
/-! ### the slowest way -/
def pSl : List Str := ["net", "laying", "clock", "delays"]
def gvD (cD : Addr) (vs zs : List V) : List V := vs ++ [.ref cD]
def gvP (vs zs : List V) : List V := vs ++ zs
def gvR (vs zs : List V) : List V := zs.reverse
theorem slw_binds {K : PySem.W.Frag} {f cD : Addr} {fd : FuncData} (F : FunD K "slowest" "slowest" (defArgs s_slowest) (defBody s_slowest) (defScope s_slowest) [] [("delays", .ref cD)] f fd) :
    (∃ g, KBn K fd pSl 3 [] g (gvD cD)) ∧ (∃ g, KBn K fd pSl 3 ["delays"] g gvP) ∧ ∃ g, KBn K fd pSl 0 ["delays", "clock", "laying", "net"] g gvR := by
  refine ⟨?_, ?_, ?_⟩
  · obtain ⟨mv, h⟩ := F.kbinds0 (ps := pSl) 3 [] [("delays", .ref cD)] (fun us mv ws => us ++ mv) (by simp) (fun q hq => hq) (fun r1 r2 r3 => r1.append r2) (fun D doc pm an cdv ct us mv ws l1 l2 l3 => by
      match us, mv, ws, l1, l2, l3 with
      | [a, b, c], [d], [], _, _, _ => exact ⟨_, _, _, _, _, _, rfl, rfl, rfl⟩)
    exact ⟨_, h⟩
  · obtain ⟨mv, h⟩ := F.kbinds0 (ps := pSl) 3 ["delays"] [] (fun us mv ws => us ++ ws) (by simp) (fun q hq => by cases hq) (fun r1 r2 r3 => r1.append r3) (fun D doc pm an cdv ct us mv ws l1 l2 l3 => by
      match us, mv, ws, l1, l2, l3 with
      | [a, b, c], [], [d], _, _, _ => exact rfl)
    exact ⟨_, h⟩
  · obtain ⟨mv, h⟩ := F.kbinds0 (ps := pSl) 0 ["delays", "clock", "laying", "net"] [] (fun us mv ws => ws.reverse) (by simp) (fun q hq => by cases hq) (fun r1 r2 r3 => r3.reverse) (fun D doc pm an cdv ct us mv ws l1 l2 l3 => by
      match us, mv, ws, l1, l2, l3 with
      | [], [], [d, c, b, a], _, _, _ => exact rfl)
    exact ⟨_, h⟩
def cellsT (cs : List (Int × Int)) : Td := .tup (cs.map cellT)
def netT (gs : List Gt) : Td := .tup [gatesT gs, .tup [], .tup []]
def layT (cs : List (Int × Int)) (wl : List (List Way)) : Td := .tup [cellsT cs, waysT wl]
def Gt.isBox (c : Str) : Gt → Bool
  | .box c' _ _ => decide (c' = c)
  | _ => false
def boxesN (gs : List Gt) (c : Str) (n : Nat) : List Nat := (List.range n).filter fun k => match gs[k]? with
  | some g => g.isBox c
  | none => false
/-- the time of a box -/
def boxT (gs : List Gt) (wl : List (List Way)) (arr : List Int) (step : Int) (b : Nat) : Int := match gs[b]? with
  | some (.box _ _ dd) => arr.getD dd 0 + step * ((((wl.getD b []).headD []).length : Int) - 1)
  | _ => 0
def SlwOk (gs : List Gt) (wl : List (List Way)) (d : Own) (c : Str) (t : Int) (l : List Nat) : Prop :=
  (boxesN gs c gs.length = [] ∧ t = 0 ∧ l = []) ∨
  ∃ (b : Nat) (ch : List Nat), b ∈ boxesN gs c gs.length ∧ l = (b :: ch).reverse ∧ ch.length ≤ gs.length ∧ Chain gs wl (arrs gs wl d) d.s b ch ∧ t = boxT gs wl (arrs gs wl d) d.s b ∧ ∀ b' ∈ boxesN gs c gs.length, boxT gs wl (arrs gs wl d) d.s b' ≤ t
def spSlow (K : PySem.W.Frag) : Sp := fun vs H Q _ => ∃ (N Y a : Addr) (c : Str) (gs : List Gt) (cs : List (Int × Int)) (wl : List (List Way)) (d : Own),
  vs = [.ref N, .ref Y, .str c, .ref a] ∧ TdR H (netT gs) (.ref N) ∧ TdR H (layT cs wl) (.ref Y) ∧ SqT K H a (ownV d) ∧ Okl gs wl ∧ d.ok ∧ gs.length ≤ 1000 ∧
  ∀ (R lp la : Addr) (t : Int) (l : List Nat) (H' : Hp), Same H H' → H' R = some (.tup [.int t, .ref lp, .ref la]) → H' lp = some (.tup (nats l)) → H' la = some (.tup ((arrs gs wl d).map V.int)) → SlwOk gs wl d c t l → Q (.ref R) H'
theorem boxesN_succ {gs : List Gt} {c : Str} {i : Nat} {g : Gt} (e : gs[i]? = some g) : boxesN gs c (i + 1) = if g.isBox c = true then boxesN gs c i ++ [i] else boxesN gs c i := by
  unfold boxesN
  rw [List.range_succ, List.filter_append]
  cases h : g.isBox c with
  | true =>
    rw [if_pos rfl]
    congr 1
    rw [List.filter_cons_of_pos (by rw [e]; exact h)]
    rfl
  | false =>
    rw [if_neg Bool.false_ne_true, List.filter_cons_of_neg (by rw [e]; simp [h])]
    exact List.append_nil _
theorem boxesN_len (gs : List Gt) (c : Str) (n : Nat) : (boxesN gs c n).length ≤ n := by
  have h := List.length_filter_le (fun k => match gs[k]? with
    | some g => g.isBox c
    | none => false) (List.range n)
  rw [List.length_range] at h
  exact h
theorem boxesN_mem {gs : List Gt} {c : Str} {n b : Nat} (h : b ∈ boxesN gs c n) : b < n ∧ ∃ bit dd, gs[b]? = some (.box c bit dd) := by
  unfold boxesN at h
  obtain ⟨h1, h2⟩ := List.mem_filter.mp h
  refine ⟨List.mem_range.mp h1, ?_⟩
  cases e : gs[b]? with
  | none =>
    rw [e] at h2
    cases h2
  | some g =>
    rw [e] at h2
    cases g with
    | box c' bit dd =>
      have h3 : c' = c := of_decide_eq_true h2
      exact ⟨bit, dd, by rw [h3]⟩
    | inp _ _ => cases h2
    | iz _ => cases h2
    | nt _ => cases h2
    | two _ _ _ => cases h2
theorem sqt_same {K : PySem.W.Frag} {H H1 : Hp} {a : Addr} {xs : List V} (e : SqT K H a xs) (h : Same H H1) : SqT K H1 a xs := by
  rcases e with (e | ⟨o, e⟩) | e
  · exact .inl (.inl (h _ _ e))
  · exact .inl (.inr ⟨o, h _ _ e⟩)
  · exact .inr e
theorem nats_at {l : List Nat} {i b : Nat} (h : l[i]? = some b) : (nats l)[i]? = some (.int (b : Int)) := by
  unfold nats
  rw [List.getElem?_map, h]
  rfl
section
variable {P : Program} {w : World} {K : PySem.W.Frag} {mg : Str → Option Value} {base : Heap} {cF cD : Addr}
theorem ok_slow {f : Addr} {fd : FuncData} (F : FunD K "slowest" "slowest" (defArgs s_slowest) (defBody s_slowest) (defScope s_slowest) [] [("delays", .ref cD)] f fd) (M : Bi mg)
    (C_brought : Cal P w K mg base L2.CX0 2 "brought" ["arrivals", "gates", "ways", "g", "step"] (spBro K))
    (C_arrivals_of : Cal P w K mg base L2.CX0 3 "arrivals_of" ["gates", "ways", "delays"] (spArrs K))
    (C_path_to : Cal P w K mg base L2.CX0 3 "path_to" ["box", "gates", "ways", "arrivals", "step"] (spPath K)) : FnG P w K mg base L2.CX0 4 f fd pSl (spSlow K) := by
  have S := S_slowest
  refine fng_of (He5.fun_of F) S (fun vs H Q E h => ?_) (fun cdv A outer s H vs Q E hq hr h => ?_)
  · obtain ⟨N, Y, a, c, gs, cs, wl, d, rfl, _⟩ := h
    rfl
  · obtain ⟨N, Y, a, c, gs, cs, wl, d, rfl, hN, hY, hd, ok, od, gl, q⟩ := h
    refine ⟨_, (pss_cons (ps_set (i := 4) S.nd rfl (.inr rfl) (pe_ix ix_tup (pv 0) pe_int (fun _ _ => rfl)))
 (pss_cons (ps_set (i := 5) S.nd rfl (.inr rfl) (pe_ix ix_tup (pv 1) pe_int (fun _ _ => rfl)))
 (pss_cons (ps_set (i := 6) S.nd rfl (.inr rfl) (pe_c C_arrivals_of pass0 hq hr (by omega) (by rfl) (pa_cons (pv 4) (pa_cons (pv 5) (pa_cons (pv 3) pa_nil)))))
 (pss_cons (ps_setLc (i := 7) (own := [("g", 8), ("gate", 9)]) (g := (gTup K 2 (gCons (gName 8) (gCons (gName 9) gNil)))) (tt := (tAnd (tTest (tOp rEq (tOp (rIxT K) (tVar 9) (tC (.int 0))) (tC (.str "box")))) (tTest (tOp rEq (tOp (rIxT K) (tVar 9) (tC (.int 1))) (tVar 2))))) rfl S.nd rfl rfl (sw_true rfl rfl rfl (by decide +kernel)) (pi_enumT (by rfl) M.enumerate_ (pa_cons (pv 4) pa_nil)) (blkOk_by (own := [("g", 8), ("gate", 9)]) (N := N_slowest) (sc := defScope s_slowest) (by decide +kernel)) (fun _ _ _ _ _ => (pg_tup (by rfl) (pgs_cons (pg_name (i := 8) S.nd rfl (.inl rfl)) (pgs_cons (pg_name (i := 9) S.nd rfl (.inl rfl)) pgs_nil)))) (fun _ _ _ _ _ => (pts_one (PW.pt (pw_and (pt_cmpR op_eq (pe_ix ix_tup (pv 9) pe_int (fun _ _ => rfl)) pe_str (nomark _)) (pw_and1 (pt_cmpR op_eq (pe_ix ix_tup (pv 9) pe_int (fun _ _ => rfl)) (pv 2) (nomark _))))))) (fun _ _ _ _ _ => (pv 8)))
 (pss_cons (ps_if (pt_not (pt_truth (pv 7) (by intro _; rfl)))
  (pss_one (ps_ret (pe_tup (pa_cons pe_int (pa_cons (pe_tup pa_nil) (pa_cons (pv 6) pa_nil))))))
  pss_nil)
 (pss_cons (ps_asg (pe_callB (call_maxP rfl (Nat.lt_of_le_of_lt (Nat.add_le_add_left (by decide) _) (room200 hr))) (by rfl) M.max_ (by decide +kernel) (pa_cons (pe_lc (own := [("g", 8)]) (g := gName 8) (tt := tYes) (te := (tTup (tCons (tOp (rIxT K) (tOp (rIxL K) (tCall (spBro K) [] E0 (tCons (tVar 6) (tCons (tVar 4) (tCons (tVar 5) (tCons (tVar 8) (tCons (tOp (rIxT K) (tVar 3) (tC (.int 0))) tNil)))))) (tC (.int 0))) (tC (.int 0))) (tCons (tVar 8) tNil)))) rfl S.nd (pi_list (pv 7)) (blkOk_by (own := [("g", 8)]) (N := N_slowest) (sc := defScope s_slowest) (by decide +kernel)) (fun _ _ _ _ _ => pg_name (i := 8) S.nd rfl (.inl rfl)) (fun _ _ _ _ _ => pts_nil) (fun _ _ _ _ _ => (pe_tup (pa_cons (pe_ix ix_tup (pe_ix ix_list (pe_c C_brought pass0 hq hr (by omega) (by rfl) (pa_cons (pv 6) (pa_cons (pv 4) (pa_cons (pv 5) (pa_cons (pv 8) (pa_cons (pe_ix ix_tup (pv 3) pe_int (fun _ _ => rfl)) pa_nil)))))) pe_int (fun _ _ => rfl)) pe_int (fun _ _ => rfl)) (pa_cons (pv 8) pa_nil))))) pa_nil)) (pg_tup (by rfl) (pgs_cons (pg_name (i := 10) S.nd rfl (.inl rfl)) (pgs_cons (pg_name (i := 11) S.nd rfl (.inl rfl)) pgs_nil))))
 (pss_one (ps_ret (pe_tup (pa_cons (pv 10) (pa_cons (pe_c C_path_to pass0 hq hr (by omega) (by rfl) (pa_cons (pv 11) (pa_cons (pv 4) (pa_cons (pv 5) (pa_cons (pv 6) (pa_cons (pe_ix ix_tup (pv 3) pe_int (fun _ _ => rfl)) pa_nil)))))) (pa_cons (pv 6) pa_nil)))))))))))), ?_⟩
    obtain ⟨_, nvs, rfl', eN, nal⟩ := hN.inv_tup
    cases rfl'
    obtain ⟨vg, nvs, rfl, hg, nal⟩ := nal.inv_cons
    obtain ⟨_, yvs, rfl', eY, yal⟩ := hY.inv_tup
    cases rfl'
    obtain ⟨vc, yvs, rfl, _, yal⟩ := yal.inv_cons
    obtain ⟨vw, yvs, rfl, hw, yal⟩ := yal.inv_cons
    obtain ⟨G, gvs, rfl, hG, gal⟩ := hg.inv_tup
    have lg : gvs.length = gs.length := by rw [← gal.1, List.length_map]
    refine ⟨.ref N, rfl, N, _, _, _, rfl, rfl, .inl (.inl eN), atI_nat (j := 0) rfl, .ref Y, rfl, Y, _, _, _, rfl, rfl, .inl (.inl eY), atI_nat (j := 1) rfl, .ref G, rfl, vw, rfl, .ref a, rfl, .ref G, vw, .ref a, gs, wl, d, rfl, hg, hw, ⟨a, rfl, hd⟩, ok, od, gl, fun la H1 s1 ela => ?_⟩
    refine ⟨.ref G, rfl, G, gvs, rfl, .inl (.inl (s1 _ _ hG)), ?_⟩
    intro D1 nD
    refine lc_it (walk_enumT (K := K) (a := G) (xs := gvs)) (fun i H' => Same H1 H' ∧ H' D1 = some (.lst (nats (boxesN gs c i)))) ?_ ?_ ?_ ?_
    · exact ⟨same_new nD, upd_same⟩
    · rintro i H' _ ⟨sm, _⟩
      exact .inl (.inl (sm _ _ (s1 _ _ hG)))
    · rintro i x H' H2 hi ⟨sm, eD⟩ ⟨TT, u, v, rfl, nT, rfl, e1, e2⟩
      cases e1
      rw [lg] at hi
      obtain ⟨gt, egt⟩ : ∃ gt, gs[i]? = some gt := ⟨gs[i], List.getElem?_eq_getElem hi⟩
      have tg := gal.2 i gt.td v (by rw [List.getElem?_map, egt]; rfl) e2
      have sT := (s1.trans sm).trans (same_new (o := .tup [.int (i : Int), v]) nT)
      obtain ⟨gA, rfl, egA⟩ := gt_at (tg.same sT)
      refine ⟨TT, _, rfl, .inl (.inl upd_same), rfl, _, _, rfl, _, _, rfl, rfl, ?_⟩
      refine ⟨rfl, ?_⟩
      have sT1 := sm.trans (same_new (o := .tup [.int (i : Int), .ref gA]) nT)
      have eDT := (same_new (o := .tup [.int (i : Int), .ref gA]) nT) _ _ eD
      refine ⟨.ref gA, rfl, gA, _, _, _, rfl, rfl, .inl (.inl egA), atI_nat (j := 0) gt.vs0, rfl, _, rfl, ?_⟩
      have isb : gt.kind = "box" → ∃ c' bit dd, gt = .box c' bit dd := by
        intro hk
        cases gt with
        | box c' bit dd => exact ⟨_, _, _, rfl⟩
        | inp x k => exact absurd hk (by decide +kernel : ("in" : Str) ≠ "box")
        | iz b => exact absurd hk (by decide +kernel : ("is" : Str) ≠ "box")
        | nt b => exact absurd hk (by decide +kernel : ("not" : Str) ≠ "box")
        | two y b e =>
          obtain ⟨rfl | rfl | rfl, _, _⟩ := ok.gate i _ egt
          · exact absurd hk (by decide +kernel : ("and" : Str) ≠ "box")
          · exact absurd hk (by decide +kernel : ("or" : Str) ≠ "box")
          · exact absurd hk (by decide +kernel : ("xor" : Str) ≠ "box")
      refine ite_str (fun hk => ?_) fun hk => ?_
      · obtain ⟨c', bit, dd, rfl⟩ := isb hk
        refine ⟨.ref gA, rfl, gA, _, _, _, rfl, rfl, .inl (.inl egA), atI_nat (j := 1) rfl, .str c, rfl, rfl, _, rfl, ?_⟩
        have eb := boxesN_succ (c := c) egt
        by_cases hc : c' = c
        · rw [show (Gt.box c' bit dd).isBox c = true from decide_eq_true hc, if_pos rfl] at eb
          rw [decide_eq_true (by rw [hc])]
          refine iteT ?_
          refine ⟨.int (i : Int), rfl, _, eDT, ?_, same_mut sT1 nD, ?_⟩
          · unfold nats
            rw [List.length_map]
            exact Nat.lt_of_le_of_lt (boxesN_len gs c i) (Nat.lt_of_lt_of_le (Nat.lt_of_lt_of_le hi gl) (by decide))
          · rw [upd_same, eb]
            unfold nats
            rw [List.map_append]
            rfl
        · rw [show (Gt.box c' bit dd).isBox c = false from decide_eq_false hc, if_neg Bool.false_ne_true] at eb
          rw [decide_eq_false fun z => hc (V.str.inj z)]
          refine iteF ?_
          rw [eb]
          exact ⟨sT1, eDT⟩
      · have eb := boxesN_succ (c := c) egt
        have nb : gt.isBox c = false := by
          cases gt with
          | box c' bit dd => exact absurd rfl hk
          | _ => rfl
        rw [nb, if_neg Bool.false_ne_true] at eb
        refine iteF ?_
        rw [eb]
        exact ⟨sT1, eDT⟩
    rintro H2 ⟨s2, eB⟩
    rw [lg] at eB
    generalize ebs : boxesN gs c gs.length = bs at *
    have lbs : bs.length ≤ gs.length := by
      rw [← ebs]
      exact boxesN_len gs c _
    have lsz : gs.length < sizeLine := Nat.lt_of_le_of_lt gl (by decide)
    have eG2 := s2 _ _ (s1 _ _ hG)
    have ela2 := s2 _ _ ela
    refine ⟨.ref D1, rfl, !(nats bs).isEmpty, .inl ⟨_, .inl (.inl eB), rfl⟩, ?_⟩
    cases hbs : bs with
    | nil =>
      refine iteT ?_
      refine ⟨Nat.zero_le _, fun E1 nE => ⟨.ref la, rfl, (by decide : (3 : Nat) ≤ sizeLine), fun R nR => ?_⟩⟩
      have s3 := same_new (o := .tup []) nE
      have s4 := same_new (o := .tup [.int 0, .ref E1, .ref la]) nR
      exact q R E1 la 0 [] _ (((s1.trans s2).trans s3).trans s4) upd_same (s4 _ _ upd_same) (s4 _ _ (s3 _ _ ela2)) (.inl ⟨by rw [ebs, hbs], rfl, rfl⟩)
    | cons b0 bs0 =>
      refine iteF ?_
      have hpos : 0 < bs.length := by
        rw [hbs]
        exact Nat.zero_lt_succ _
      refine ⟨.ref D1, rfl, D1, rfl, ⟨_, .inl (.inl eB)⟩, ?_⟩
      intro D2 nD2
      refine lc_it (walk_list (K := K) (a := D1) (xs := nats bs)) (fun i H' => Same H2 H' ∧ ∃ rs : List Addr, H' D2 = some (.lst (rs.map V.ref)) ∧ rs.length = i ∧
        ∀ (j : Nat) (r : Addr) (b : Nat), rs[j]? = some r → bs[j]? = some b → H' r = some (.tup [.int (boxT gs wl (arrs gs wl d) d.s b), .int (b : Int)])) ?_ ?_ ?_ ?_
      · exact ⟨same_new nD2, [], upd_same, rfl, fun j r b h => by cases h⟩
      · rintro i H' _ ⟨sm, _⟩
        exact .inl (.inl (sm _ _ eB))
      · rintro i x H' H3 hi ⟨sm, rs, eD, lr, hrs⟩ ⟨rfl, ex⟩
        have hi2 : i < bs.length := by
          unfold nats at hi
          rw [List.length_map] at hi
          exact hi
        obtain ⟨b, eb⟩ : ∃ b, bs[i]? = some b := ⟨bs[i], List.getElem?_eq_getElem hi2⟩
        rw [nats_at eb] at ex
        cases ex
        obtain ⟨hbn, bit, dd, egt⟩ := boxesN_mem (b := b) (by rw [ebs]; exact List.mem_of_getElem? eb)
        have hdd : dd < gs.length := ok.gate b _ egt
        obtain ⟨ws, ew, lw, hws⟩ := ok.at egt
        obtain ⟨w0, rfl⟩ : ∃ w0, ws = [w0] := by
          match ws, lw with
          | [w0], _ => exact ⟨w0, rfl⟩
        have lar : (arrs gs wl d).length = gs.length := arrN_len _ _ _ _
        have sAll := (s1.trans s2).trans sm
        have eD2 := eD
        refine ⟨rfl, ?_⟩
        unfold tYes
        refine iteT ?_
        refine ⟨.ref la, rfl, .ref G, rfl, vw, rfl, .int (b : Int), rfl, .ref a, rfl, a, _, _, _, rfl, rfl, sqt_same hd sAll, atI_nat (j := 0) rfl, _, _, _, arrs gs wl d, gs, wl, b, _, _, d.s, rfl, .tup (.inl (.inl (sm _ _ ela2))), hg.same sAll, hw.same sAll, ok, egt, ew, fun f hf => by rw [lar, List.mem_singleton.mp hf]; exact hdd, od.1, od.2, ?_⟩
        intro p rs' G2 s5 np ep lrs' hrs'
        have lrs1 : rs'.length = 1 := lrs'
        obtain ⟨r0, rfl⟩ : ∃ r0, rs' = [r0] := by
          match rs', lrs1 with
          | [r0], _ => exact ⟨r0, rfl⟩
        have er0 := hrs' 0 r0 _ rfl rfl
        have ebt : (arrs gs wl d).getD dd 0 + d.s * ((w0.length : Int) - 1) = boxT gs wl (arrs gs wl d) d.s b := by
          unfold boxT
          rw [egt, List.getD_eq_getElem?_getD, List.getD_eq_getElem?_getD, ew]
          rfl
        have er0 : G2 r0 = some (.tup [.int ((arrs gs wl d).getD dd 0 + d.s * ((w0.length : Int) - 1)), .int (dd : Int)]) := er0
        rw [ebt] at er0
        refine ⟨p, _, _, _, rfl, rfl, .inl (.inl ep), atI_nat (j := 0) rfl, r0, _, _, _, rfl, rfl, .inl (.inl er0), atI_nat (j := 0) rfl, .int (b : Int), rfl, (by decide : (2 : Nat) ≤ sizeLine), fun T3 n3 => ?_⟩
        have eD3 := s5 _ _ eD2
        have s6 := same_new (o := .tup [.int (boxT gs wl (arrs gs wl d) d.s b), .int (b : Int)]) n3
        have n3D : T3 ≠ D2 := fun z => by
          rw [z, eD3] at n3
          cases n3
        refine ⟨rs.map V.ref, s6 _ _ eD3, ?_, ?_, rs ++ [T3], ?_, ?_, ?_⟩
        · rw [List.length_map, lr]
          exact Nat.lt_of_lt_of_le hi2 (Nat.le_trans lbs (Nat.le_of_lt lsz))
        · exact same_mut ((sm.trans s5).trans s6) nD2
        · rw [upd_same]
          simp
        · rw [List.length_append, lr]
          rfl
        · intro j r b' h1 h2
          by_cases hj : j < i
          · have h1' : rs[j]? = some r := by
              rw [List.getElem?_append_left (by omega)] at h1
              exact h1
            have z := hrs j r b' h1' h2
            have nr : r ≠ D2 := fun w => by
              rw [w, eD] at z
              cases z
            rw [upd_ne nr]
            exact s6 _ _ (s5 _ _ z)
          · have lj : j < (rs ++ [T3]).length := (List.getElem?_eq_some_iff.mp h1).1
            rw [List.length_append, lr] at lj
            have hj2 : j = i := by
              have : [T3].length = 1 := rfl
              omega
            subst hj2
            rw [List.getElem?_append_right (by omega), lr, Nat.sub_self] at h1
            cases h1
            rw [eb] at h2
            cases h2
            rw [upd_ne n3D, upd_same]
      rintro H3 ⟨s3, rs, eD, lr, hrs⟩
      have lr2 : rs.length = bs.length := by
        rw [lr]
        unfold nats
        rw [List.length_map]
      have s03 := (s1.trans s2).trans s3
      refine ⟨D2, rs, bs.map fun b => (boxT gs wl (arrs gs wl d) d.s b, (b : Int)), rfl, .inl (.inl eD), by rw [List.length_map, lr2], by rw [List.length_map]; exact hpos, fun j r pr h1 h2 => ?_, fun j r pr h1 h2 top => ?_⟩
      · rw [List.getElem?_map] at h2
        cases eb : bs[j]? with
        | none =>
          rw [eb] at h2
          cases h2
        | some b =>
          rw [eb] at h2
          cases h2
          exact .inl (.inl (hrs j r b h1 eb))
      · rw [List.getElem?_map] at h2
        cases eb : bs[j]? with
        | none =>
          rw [eb] at h2
          cases h2
        | some b =>
          rw [eb] at h2
          cases h2
          have hb := List.mem_of_getElem? eb
          obtain ⟨hbn, bit, dd, egt⟩ := boxesN_mem (b := b) (by rw [ebs]; exact hb)
          refine ⟨r, _, rfl, .inl (.inl (hrs j r b h1 eb)), rfl, _, _, rfl, _, _, rfl, rfl, ?_⟩
          refine ⟨.int (boxT gs wl (arrs gs wl d) d.s b), rfl, .int (b : Int), rfl, .ref G, rfl, vw, rfl, .ref la, rfl, .ref a, rfl, a, _, _, _, rfl, rfl, sqt_same hd s03, atI_nat (j := 0) rfl, _, _, la, gs, wl, d, b, _, rfl, hg.same s03, hw.same s03, s3 _ _ ela2, ok, od, gl, egt, Nat.zero_lt_succ _, ?_⟩
          intro lp l H4 s4 hch hll elp
          refine ⟨.ref la, rfl, (by decide : (3 : Nat) ≤ sizeLine), fun R nR => ?_⟩
          have s5 := same_new (o := .tup [.int (boxT gs wl (arrs gs wl d) d.s b), .ref lp, .ref la]) nR
          refine q R lp la _ _ _ ((s03.trans s4).trans s5) upd_same (s5 _ _ elp) (s5 _ _ (s4 _ _ (s3 _ _ ela2))) (.inr ⟨b, l, by rw [ebs]; exact hb, rfl, hll, hch, rfl, fun b' hb' => ?_⟩)
          rw [ebs] at hb'
          exact pgt_le (top _ (List.mem_map.mpr ⟨b', hb', rfl⟩))
end
end K53

namespace K53
open PySem PySem.Spec PyProof.Rows L2 Kit
/-! ### the law's own: feeds -/
theorem Gt.nz1 (g : Gt) : HT.sIx g.vs.length 0 (some 1) ≠ 0 := by
  cases g with
  | inp _ _ => exact (by decide : HT.sIx 3 0 (some 1) ≠ 0)
  | iz _ => exact (by decide : HT.sIx 2 0 (some 1) ≠ 0)
  | box _ _ _ => exact (by decide : HT.sIx 4 0 (some 1) ≠ 0)
  | nt _ => exact (by decide : HT.sIx 2 0 (some 1) ≠ 0)
  | two _ _ _ => exact (by decide : HT.sIx 3 0 (some 1) ≠ 0)
theorem Gt.nz3 (g : Gt) : HT.sIx g.vs.length 0 (some 3) ≠ 0 := by
  cases g with
  | inp _ _ => exact (by decide : HT.sIx 3 0 (some 3) ≠ 0)
  | iz _ => exact (by decide : HT.sIx 2 0 (some 3) ≠ 0)
  | box _ _ _ => exact (by decide : HT.sIx 4 0 (some 3) ≠ 0)
  | nt _ => exact (by decide : HT.sIx 2 0 (some 3) ≠ 0)
  | two _ _ _ => exact (by decide : HT.sIx 3 0 (some 3) ≠ 0)
def fdK (p1 p2 p3 p4 p5 : Addr) : List (Key × V) := [(.inr "not", .ref p1), (.inr "box", .ref p2), (.inr "and", .ref p3), (.inr "or", .ref p4), (.inr "xor", .ref p5)]
theorem fd_not (p1 p2 p3 p4 p5 : Addr) : valV (mergeK [] (fdK p1 p2 p3 p4 p5)) (.inr "not") = some (.ref p1) := by rfl
theorem fd_box (p1 p2 p3 p4 p5 : Addr) : valV (mergeK [] (fdK p1 p2 p3 p4 p5)) (.inr "box") = some (.ref p2) := by rfl
theorem fd_and (p1 p2 p3 p4 p5 : Addr) : valV (mergeK [] (fdK p1 p2 p3 p4 p5)) (.inr "and") = some (.ref p3) := by rfl
theorem fd_or (p1 p2 p3 p4 p5 : Addr) : valV (mergeK [] (fdK p1 p2 p3 p4 p5)) (.inr "or") = some (.ref p4) := by rfl
theorem fd_xor (p1 p2 p3 p4 p5 : Addr) : valV (mergeK [] (fdK p1 p2 p3 p4 p5)) (.inr "xor") = some (.ref p5) := by rfl
theorem fd_in (p1 p2 p3 p4 p5 : Addr) : valV (mergeK [] (fdK p1 p2 p3 p4 p5)) (.inr "in") = none := by rfl
theorem fd_is (p1 p2 p3 p4 p5 : Addr) : valV (mergeK [] (fdK p1 p2 p3 p4 p5)) (.inr "is") = none := by rfl
section
variable {P : Program} {w : World} {K : PySem.W.Frag} {mg : Str → Option Value} {base : Heap}
theorem ok_l_feeds {f : Addr} {fd : FuncData} (D : DefAt K mg "_law_feeds" ["_law_gate"] s_l_feeds f fd) (M : Bi mg) : Cal P w K mg base L2.CX0 1 "_law_feeds" ["_law_gate"] spFeeds := by
  have S := S_l_feeds
  refine cal_of D.fn D.mgf D.bs D.kbs S (fun vs H Q E h => ?_) (fun cdv A outer s H vs Q E hq hr h => ?_)
  · obtain ⟨v, g, n, i, rfl, _⟩ := h
    rfl
  · obtain ⟨v, g, n, i, rfl, hg, hok, q⟩ := h
    obtain ⟨a, rfl, ea⟩ := gt_at hg
    refine ⟨_, (pss_one (ps_ret (pe_dget2 (hu_of hr) (pe_disp (pps_cons pe_str (pe_slice sl_tup (pv 0) (po_some pe_int) (po_some pe_int)) (pps_cons pe_str (pe_slice sl_tup (pv 0) (po_some pe_int) (po_some pe_int)) (pps_cons pe_str (pe_slice sl_tup (pv 0) (po_some pe_int) po_none) (pps_cons pe_str (pe_slice sl_tup (pv 0) (po_some pe_int) po_none) (pps_cons pe_str (pe_slice sl_tup (pv 0) (po_some pe_int) po_none) pps_nil))))) (by rfl) (by rfl) (fun z => by cases z) (by decide)) (pe_ix ix_tup (pv 0) pe_int (fun _ _ => rfl)) (pe_tup pa_nil) ⟨rfl, rfl, rfl, rfl⟩))), ?_⟩
    intro p np
    have k1 : ∀ o, H a = some o → upd H p (.dK []) a = some o := fun o e => (same_new np) _ _ e
    refine ⟨.ref a, rfl, 1, rfl, 2, rfl, a, g.vs, rfl, .inl (.inl (k1 _ ea)), fun h => g.nz1 h.1, fun p1 np1 => ?_⟩
    have m1 := (same_new (o := .dK []) np).trans (same_new (o := .tup (cutV g.vs (some 1) (some 2))) np1)
    have d1 := (same_new (o := .tup (cutV g.vs (some 1) (some 2))) np1) p _ upd_same
    refine ⟨.ref a, rfl, 3, rfl, 4, rfl, a, g.vs, rfl, .inl (.inl (m1 _ _ ea)), fun h => g.nz3 h.1, fun p2 np2 => ?_⟩
    have m2 := m1.trans (same_new (o := .tup (cutV g.vs (some 3) (some 4))) np2)
    have d2 := (same_new (o := .tup (cutV g.vs (some 3) (some 4))) np2) p _ d1
    refine ⟨.ref a, rfl, 1, rfl, a, g.vs, rfl, .inl (.inl (m2 _ _ ea)), fun h => g.nz1 h.1, fun p3 np3 => ?_⟩
    have m3 := m2.trans (same_new (o := .tup (cutV g.vs (some 1) none)) np3)
    have d3 := (same_new (o := .tup (cutV g.vs (some 1) none)) np3) p _ d2
    refine ⟨.ref a, rfl, 1, rfl, a, g.vs, rfl, .inl (.inl (m3 _ _ ea)), fun h => g.nz1 h.1, fun p4 np4 => ?_⟩
    have m4 := m3.trans (same_new (o := .tup (cutV g.vs (some 1) none)) np4)
    have d4 := (same_new (o := .tup (cutV g.vs (some 1) none)) np4) p _ d3
    refine ⟨.ref a, rfl, 1, rfl, a, g.vs, rfl, .inl (.inl (m4 _ _ ea)), fun h => g.nz1 h.1, fun p5 np5 => ?_⟩
    have m5 := m4.trans (same_new (o := .tup (cutV g.vs (some 1) none)) np5)
    have d5 := (same_new (o := .tup (cutV g.vs (some 1) none)) np5) p _ d4
    refine ⟨d5, [(.inr "not", .ref p1), (.inr "box", .ref p2), (.inr "and", .ref p3), (.inr "or", .ref p4), (.inr "xor", .ref p5)], rfl, (by decide : (5 : Nat) ≤ 15), ?_⟩
    have m6 := same_mut (o := .dK (mergeK [] [(.inr "not", .ref p1), (.inr "box", .ref p2), (.inr "and", .ref p3), (.inr "or", .ref p4), (.inr "xor", .ref p5)])) m5 np
    have ein := m6 _ _ ea
    refine ⟨p, rfl, .inl ⟨_, .inl upd_same⟩, .ref a, rfl, a, _, _, _, rfl, rfl, .inl (.inl ein), atI_nat (j := 0) g.vs0, Nat.zero_le _, fun e1 ne1 => ?_⟩
    have m7 := m6.trans (same_new (o := .tup []) ne1)
    refine ⟨_, DGet.k (k := .inr g.kind) ((same_new (o := .tup []) ne1) _ _ upd_same), ?_⟩
    have z1 : ∀ (pj : Addr) (xs : List V) (G : Hp), pj ≠ p → Same G (upd (upd (upd (upd (upd (upd H p (.dK [])) p1 (.tup (cutV g.vs (some 1) (some 2)))) p2 (.tup (cutV g.vs (some 3) (some 4)))) p3 (.tup (cutV g.vs (some 1) none))) p4 (.tup (cutV g.vs (some 1) none))) p5 (.tup (cutV g.vs (some 1) none))) → G pj = some (.tup xs) →
        upd (upd (upd (upd (upd (upd (upd (upd H p (.dK [])) p1 (.tup (cutV g.vs (some 1) (some 2)))) p2 (.tup (cutV g.vs (some 3) (some 4)))) p3 (.tup (cutV g.vs (some 1) none))) p4 (.tup (cutV g.vs (some 1) none))) p5 (.tup (cutV g.vs (some 1) none))) p (.dK (mergeK [] (fdK p1 p2 p3 p4 p5)))) e1 (.tup []) pj = some (.tup xs) := by
      intro pj xs G n1 sG eG
      have y := sG _ _ eG
      refine (same_new (o := .tup []) ne1) _ _ ?_
      rw [upd_ne n1]
      exact y
    have w2 := same_new (o := .tup (cutV g.vs (some 3) (some 4))) np2
    have w3 := same_new (o := .tup (cutV g.vs (some 1) none)) np3
    have w4 := same_new (o := .tup (cutV g.vs (some 1) none)) np4
    have w5 := same_new (o := .tup (cutV g.vs (some 1) none)) np5
    have n1 : p1 ≠ p := (ne_of_none upd_same np1).symm
    have n2 : p2 ≠ p := (ne_of_none d1 np2).symm
    have n3 : p3 ≠ p := (ne_of_none d2 np3).symm
    have n4 : p4 ≠ p := (ne_of_none d3 np4).symm
    have n5 : p5 ≠ p := (ne_of_none d4 np5).symm
    have r1 := z1 p1 _ _ n1 (((w2.trans w3).trans w4).trans w5) upd_same
    have r2 := z1 p2 _ _ n2 ((w3.trans w4).trans w5) upd_same
    have r3 := z1 p3 _ _ n3 (w4.trans w5) upd_same
    have r4 := z1 p4 _ _ n4 w5 upd_same
    have r5 := z1 p5 _ _ n5 (Same.refl _) upd_same
    cases g with
    | inp x k =>
      show Q ((valV (mergeK [] (fdK p1 p2 p3 p4 p5)) (.inr "in")).getD _) _
      rw [fd_in]
      exact q _ _ m7 (intsT_nil upd_same)
    | iz b =>
      show Q ((valV (mergeK [] (fdK p1 p2 p3 p4 p5)) (.inr "is")).getD _) _
      rw [fd_is]
      exact q _ _ m7 (intsT_nil upd_same)
    | box c b dd =>
      show Q ((valV (mergeK [] (fdK p1 p2 p3 p4 p5)) (.inr "box")).getD _) _
      rw [fd_box]
      exact q _ _ m7 (intsT_one r2)
    | nt b =>
      show Q ((valV (mergeK [] (fdK p1 p2 p3 p4 p5)) (.inr "not")).getD _) _
      rw [fd_not]
      exact q _ _ m7 (intsT_one r1)
    | two y b c =>
      obtain ⟨rfl | rfl | rfl, _, _⟩ := hok
      · show Q ((valV (mergeK [] (fdK p1 p2 p3 p4 p5)) (.inr "and")).getD _) _
        rw [fd_and]
        exact q _ _ m7 (intsT_two r3)
      · show Q ((valV (mergeK [] (fdK p1 p2 p3 p4 p5)) (.inr "or")).getD _) _
        rw [fd_or]
        exact q _ _ m7 (intsT_two r4)
      · show Q ((valV (mergeK [] (fdK p1 p2 p3 p4 p5)) (.inr "xor")).getD _) _
        rw [fd_xor]
        exact q _ _ m7 (intsT_two r5)
end
end K53

namespace K53
open PySem PySem.Spec PyProof.Rows L2 Kit
theorem net_inv {H : Hp} {gs : List Gt} {v : V} (h : TdR H (netT gs) v) : ∃ N G gvs rest, v = .ref N ∧ H N = some (.tup (.ref G :: rest)) ∧ TdR H (gatesT gs) (.ref G) ∧ H G = some (.tup gvs) ∧ All2 H (gs.map Gt.td) gvs ∧ gvs.length = gs.length := by
  obtain ⟨N, nvs, rfl, eN, nal⟩ := h.inv_tup
  obtain ⟨vg, nvs, rfl, hg, nal⟩ := nal.inv_cons
  obtain ⟨G, gvs, rfl, hG, gal⟩ := hg.inv_tup
  exact ⟨N, G, gvs, nvs, rfl, eN, hg, hG, gal, by rw [← gal.1, List.length_map]⟩
theorem lay_inv {H : Hp} {cs : List (Int × Int)} {wl : List (List Way)} {v : V} (h : TdR H (layT cs wl) v) : ∃ Y vc W wvs, v = .ref Y ∧ H Y = some (.tup [vc, .ref W]) ∧ TdR H (waysT wl) (.ref W) ∧ H W = some (.tup wvs) ∧ All2 H (wl.map fun ws => Td.tup (ws.map wayT)) wvs := by
  obtain ⟨Y, yvs, rfl, eY, yal⟩ := h.inv_tup
  obtain ⟨vc, yvs, rfl, _, yal⟩ := yal.inv_cons
  obtain ⟨vw, yvs, rfl, hw, yal⟩ := yal.inv_cons
  obtain rfl := yal.inv_nil
  obtain ⟨W, wvs, rfl, hW, wal⟩ := hw.inv_tup
  exact ⟨Y, vc, W, wvs, rfl, eY, hw, hW, wal⟩
theorem sql_same {K : PySem.W.Frag} {H H1 : Hp} {a : Addr} {xs : List V} (e : SqL K H a xs) (h : Same H H1) : SqL K H1 a xs := by
  rcases e with (e | ⟨o, e⟩) | e
  · exact .inl (.inl (h _ _ e))
  · exact .inl (.inr ⟨o, h _ _ e⟩)
  · exact .inr e
theorem take_snoc {α : Type} {l : List α} {i : Nat} {x : α} (h : l[i]? = some x) : l.take (i + 1) = l.take i ++ [x] := by
  rw [List.take_succ, h]
  rfl
/-! ### a path's steps come to its time -/
theorem getD_at {α : Type} {l : List α} {i : Nat} {x z : α} (h : l[i]? = some x) : l.getD i z = x := by
  rw [List.getD_eq_getElem?_getD, h]
  rfl
theorem arrN_get (gs : List Gt) (wl : List (List Way)) (d : Own) : ∀ (n k : Nat), k < n → (arrN gs wl d n)[k]? = some (arrV gs wl d (arrN gs wl d k) k)
  | 0, k, h => absurd h (Nat.not_lt_zero _)
  | n + 1, k, h => by
    have hl := arrN_len gs wl d n
    rw [arrN]
    by_cases e : k < n
    · rw [List.getElem?_append_left (by omega)]
      exact arrN_get gs wl d n k e
    · have e : k = n := by omega
      subst e
      rw [List.getElem?_append_right (by omega), hl, Nat.sub_self]
      rfl
theorem arrN_D {gs : List Gt} {wl : List (List Way)} {d : Own} {n m k : Nat} (h1 : k < n) (h2 : k < m) : (arrN gs wl d n).getD k 0 = (arrN gs wl d m).getD k 0 := by
  rw [List.getD_eq_getElem?_getD, List.getD_eq_getElem?_getD, arrN_get gs wl d n k h1, arrN_get gs wl d m k h2]
theorem bro_congr {a b : List Int} {s : Int} : ∀ {fs ls : List Nat}, (∀ f ∈ fs, a.getD f 0 = b.getD f 0) → bro a fs ls s = bro b fs ls s
  | [], _, _ => rfl
  | f :: fs, [], _ => rfl
  | f :: fs, l :: ls, h => by
    have ih := bro_congr (s := s) (fs := fs) (ls := ls) fun g hg => h g (List.mem_cons_of_mem _ hg)
    unfold bro at ih ⊢
    rw [List.zipWith_cons_cons, List.zipWith_cons_cons, ih, h f List.mem_cons_self]
theorem bro_at {a : List Int} {s : Int} : ∀ {fs ls : List Nat} {j f l : Nat}, fs[j]? = some f → ls[j]? = some l → (bro a fs ls s)[j]? = some (a.getD f 0 + s * ((l : Int) - 1), (f : Int)) := by
  intro fs ls j f l h1 h2
  unfold bro
  rw [List.getElem?_zipWith, h1, h2]
theorem bro_mem {a : List Int} {s : Int} {fs ls : List Nat} {p : Int × Int} (h : p ∈ bro a fs ls s) : ∃ (j f l : Nat), fs[j]? = some f ∧ ls[j]? = some l ∧ p = (a.getD f 0 + s * ((l : Int) - 1), (f : Int)) := by
  obtain ⟨j, hj⟩ := List.mem_iff_getElem?.mp h
  unfold bro at hj
  rw [List.getElem?_zipWith] at hj
  cases h1 : fs[j]? with
  | none =>
    rw [h1] at hj
    cases hj
  | some f =>
    cases h2 : ls[j]? with
    | none =>
      rw [h1, h2] at hj
      cases hj
    | some l =>
      rw [h1, h2] at hj
      cases hj
      exact ⟨j, f, l, h1, h2, rfl⟩
theorem arr_fed {gs : List Gt} {wl : List (List Way)} {d : Own} (ok : Okl gs wl) {x : Nat} {gt : Gt} {ws : List Way} (eg : gs[x]? = some gt) (ew : wl[x]? = some ws) (hf : gt.fed = true) :
    (arrs gs wl d).getD x 0 = mxi ((bro (arrs gs wl d) gt.feeds (lens ws) d.s).map (·.1)) + gt.own d := by
  have hx := (List.getElem?_eq_some_iff.mp eg).1
  rw [List.getD_eq_getElem?_getD]
  unfold arrs
  rw [arrN_get gs wl d _ x hx]
  show arrV gs wl d (arrN gs wl d x) x = _
  unfold arrV
  rw [eg]
  dsimp only
  rw [hf, if_pos rfl, List.getD_eq_getElem?_getD, ew]
  show mxi ((bro (arrN gs wl d x) gt.feeds (lens ws) d.s).map (·.1)) + _ = _
  rw [bro_congr fun f h => arrN_D (fed_lt (ok.gate x gt eg) hf f h) (Nat.lt_trans (fed_lt (ok.gate x gt eg) hf f h) hx)]
theorem arr_src {gs : List Gt} {wl : List (List Way)} {d : Own} {x : Nat} {gt : Gt} (eg : gs[x]? = some gt) (hf : gt.fed = false) : (arrs gs wl d).getD x 0 = 0 := by
  have hx := (List.getElem?_eq_some_iff.mp eg).1
  rw [List.getD_eq_getElem?_getD]
  unfold arrs
  rw [arrN_get gs wl d _ x hx]
  show arrV gs wl d (arrN gs wl d x) x = _
  unfold arrV
  rw [eg]
  dsimp only
  rw [hf]
  rfl
/-- what the feeds that are y bring by themselves -/
theorem chain_ix {gs : List Gt} {wl : List (List Way)} {arr : List Int} {s : Int} {x : Nat} {l : List Nat} (h : Chain gs wl arr s x l) : 1 ≤ l.length ∧
    (∀ i, i < l.length → ∃ y z, (x :: l)[i]? = some y ∧ (x :: l)[i + 1]? = some z ∧ Top gs wl arr s y z) ∧
    (∀ i, 1 ≤ i → i < l.length → ∃ y g, (x :: l)[i]? = some y ∧ gs[y]? = some g ∧ g.fed = true) ∧ ∃ y g, (x :: l)[l.length]? = some y ∧ gs[y]? = some g ∧ g.fed = false := by
  induction h with
  | @last x y g h e f =>
    refine ⟨Nat.le_refl _, fun i hi => ?_, fun i h1 h2 => ?_, y, g, rfl, e, f⟩
    · have hi : i < 1 := hi
      obtain rfl : i = 0 := by omega
      exact ⟨x, y, rfl, rfl, h⟩
    · have h2 : i < 1 := h2
      omega
  | @more x y g l h e f c ih =>
    obtain ⟨i1, i2, i3, i4⟩ := ih
    refine ⟨Nat.succ_le_succ (Nat.zero_le _), fun i hi => ?_, fun i h1 h2 => ?_, ?_⟩
    · cases i with
      | zero => exact ⟨x, y, rfl, rfl, h⟩
      | succ i => exact i2 i (Nat.lt_of_succ_lt_succ hi)
    · cases i with
      | zero => exact absurd h1 (by decide)
      | succ i =>
        cases i with
        | zero => exact ⟨y, g, rfl, e, f⟩
        | succ i => exact i3 (i + 1) (Nat.succ_le_succ (Nat.zero_le _)) (Nat.lt_of_succ_lt_succ h2)
    · exact i4
/-- the path as it is told, from its source -/
structure Pth (gs : List Gt) (wl : List (List Way)) (d : Own) (l : List Nat) (b : Nat) (n : Nat) : Prop where
  len : l.length = n + 1
  pos : 1 ≤ n
  top : ∀ i, i < n → ∃ x y, l[i + 1]? = some x ∧ l[i]? = some y ∧ Top gs wl (arrs gs wl d) d.s x y
  mid : ∀ i, 1 ≤ i → i < n → ∃ x g, l[i]? = some x ∧ gs[x]? = some g ∧ g.fed = true
  src : ∃ y g, l[0]? = some y ∧ gs[y]? = some g ∧ g.fed = false
  box : l[n]? = some b
theorem pth_of {gs : List Gt} {wl : List (List Way)} {d : Own} {b : Nat} {ch : List Nat} (h : Chain gs wl (arrs gs wl d) d.s b ch) : Pth gs wl d (b :: ch).reverse b ch.length := by
  obtain ⟨i1, i2, i3, i4⟩ := chain_ix h
  have rv : ∀ i, i ≤ ch.length → (b :: ch).reverse[i]? = (b :: ch)[ch.length - i]? := fun i hi => by
    rw [List.getElem?_reverse (by show i < ch.length + 1; omega)]
    show (b :: ch)[ch.length + 1 - 1 - i]? = _
    rw [Nat.add_sub_cancel]
  refine ⟨by rw [List.length_reverse]; rfl, i1, fun i hi => ?_, fun i h1 h2 => ?_, ?_, ?_⟩
  · obtain ⟨y, z, h1, h2, h3⟩ := i2 (ch.length - (i + 1)) (by omega)
    refine ⟨y, z, ?_, ?_, h3⟩
    · rw [rv _ (by omega)]
      exact h1
    · rw [rv _ (by omega), ← h2]
      congr 1
      omega
  · obtain ⟨y, g, h3, h4, h5⟩ := i3 (ch.length - i) (by omega) (by omega)
    exact ⟨y, g, by rw [rv _ (by omega)]; exact h3, h4, h5⟩
  · obtain ⟨y, g, h3, h4, h5⟩ := i4
    exact ⟨y, g, by rw [rv _ (by omega)]; exact h3, h4, h5⟩
  · rw [rv _ (Nat.le_refl _), Nat.sub_self]
    rfl
end K53

namespace K53
open PySem PySem.Spec PyProof.Rows L2 Kit
/-! ### shown -/
def strN (i : Nat) : Str := Str.ofString (toString (i : Int))
theorem strN_cps (i : Nat) : (strN i).cps.toList = (Nat.toDigits 10 i).map Char.toNat := by
  unfold strN
  rw [signs_ofString]
  show (Nat.repr i).toList.map Char.toNat = _
  rw [Nat.repr_eq_ofList_toDigits, String.toList_ofList]
theorem digs_len : ∀ (k i : Nat), i < 10 ^ (k + 1) → (Nat.toDigits 10 i).length ≤ k + 1 ∧ 1 ≤ (Nat.toDigits 10 i).length
  | 0, i, h => by
    rw [Nat.toDigits_of_lt_base (by omega)]
    exact ⟨Nat.le_refl _, Nat.le_refl _⟩
  | k + 1, i, h => by
    by_cases h1 : i < 10
    · rw [Nat.toDigits_of_lt_base h1]
      exact ⟨by show 1 ≤ _; omega, Nat.le_refl _⟩
    · obtain ⟨a, b⟩ := digs_len k (i / 10) (by rw [Nat.pow_succ] at h; omega)
      rw [Nat.toDigits_of_base_le (by decide) (by omega), List.length_append]
      exact ⟨by show _ + 1 ≤ _; omega, by omega⟩
def okZ (z : Str) : Prop := z.length ≤ 20 ∧ ∀ c ∈ z.cps.toList, c < 256 ∧ c ≠ 32 ∧ c ≠ 10
theorem okZ_dec {z : Str} (h : (decide (z.length ≤ 20) && z.cps.toList.all fun c => decide (c < 256 ∧ c ≠ 32 ∧ c ≠ 10)) = true) : okZ z := by
  rw [Bool.and_eq_true, decide_eq_true_eq, List.all_eq_true] at h
  exact ⟨h.1, fun c hc => of_decide_eq_true (h.2 c hc)⟩
structure SR (t : Td) (n L : Nat) : Prop where
  sh : (pd t).showable = true
  hd : (pd t).hasDict = false
  dp : (pd t).depth ≤ n
  ln : (pd t).shown.length + 2 ≤ L
  cl : (pd t).canLay0 = true
structure SRL (ts : List Td) (n L : Nat) : Prop where
  sh : PyData.showableAll (pdL ts) = true
  hd : PyData.hasDictAll (pdL ts) = false
  dp : PyData.depthAll (pdL ts) ≤ n
  ln : ((PyData.shownAll (pdL ts)).map (·.length)).sum + 2 * ts.length ≤ L
  cl : PyData.canLayAll0 (pdL ts) = true
theorem shownAll_len : ∀ ts : List Td, (PyData.shownAll (pdL ts)).length = ts.length
  | [] => by simp [pdL, PyData.shownAll]
  | t :: ts => by
    rw [pdL, PyData.shownAll, List.length_cons, List.length_cons, shownAll_len ts]
theorem SRL.nil {n : Nat} : SRL [] n 0 := by
  constructor
  · simp [pdL, PyData.showableAll]
  · simp [pdL, PyData.hasDictAll]
  · simp [pdL, PyData.depthAll]
  · simp [pdL, PyData.shownAll]
  · rw [pdL, PyData.canLayAll0]
theorem SRL.cons {t : Td} {ts : List Td} {n L M : Nat} (h : SR t n L) (hs : SRL ts n M) : SRL (t :: ts) n (L + M) := by
  obtain ⟨a1, a2, a3, a4, a5⟩ := h
  obtain ⟨b1, b2, b3, b4, b5⟩ := hs
  constructor
  · rw [pdL, PyData.showableAll, a1, b1]
    rfl
  · rw [pdL, PyData.hasDictAll, a2, b2]
    rfl
  · rw [pdL, PyData.depthAll]
    exact Nat.max_le.mpr ⟨a3, b3⟩
  · rw [pdL, PyData.shownAll, List.map_cons, List.sum_cons, List.length_cons]
    omega
  · rw [pdL, PyData.canLayAll0, a5, b5]
    rfl
theorem SRL.mono {ts : List Td} {n m L M : Nat} (h : SRL ts n L) (hn : n ≤ m) (hl : L ≤ M) : SRL ts m M := ⟨h.sh, h.hd, Nat.le_trans h.dp hn, Nat.le_trans h.ln hl, h.cl⟩
theorem SR.mono {t : Td} {n m L M : Nat} (h : SR t n L) (hn : n ≤ m) (hl : L ≤ M) : SR t m M := ⟨h.sh, h.hd, Nat.le_trans h.dp hn, Nat.le_trans h.ln hl, h.cl⟩
theorem SRL.tup {ts : List Td} {n L : Nat} (h : SRL ts n L) : SR (.tup ts) (n + 1) (L + 5) := by
  obtain ⟨b1, b2, b3, b4, b5⟩ := h
  constructor
  · rw [pd, PyData.showable, b1]
  · rw [pd, PyData.hasDict, b2]
  · rw [pd, PyData.depth]
    omega
  · rw [pd, PyData.shown]
    have := tupleText_len_le (PyData.shownAll (pdL ts))
    rw [shownAll_len] at this
    omega
  · rw [pd, PyData.canLay0, b5]
theorem SR.str {z : Str} (h : okZ z) (n : Nat) : SR (.str z) n 204 := by
  constructor
  · rw [pd, PyData.showable]
  · rw [pd, PyData.hasDict]
  · rw [pd, PyData.depth]
    omega
  · rw [pd, PyData.shown]
    have := StrLaws.reprText_len z fun c hc => Nat.lt_trans (h.2 c hc).1 (by decide)
    have := h.1
    omega
  · rw [pd, PyData.canLay0, PyData.strOk, ← Array.all_toList, List.all_eq_true]
    exact fun c hc => decide_eq_true (Nat.lt_trans (h.2 c hc).1 (by decide))
theorem SR.nat {i : Nat} (h : i ≤ 9999999) (n : Nat) : SR (.int (i : Int)) n 9 := by
  constructor
  · rw [pd, PyData.showable, decide_eq_true_eq]
    have h2 : ((i : Int).natAbs) < 2 ^ 24 := by omega
    rcases Nat.eq_zero_or_pos (i : Int).natAbs with e | e
    · rw [e]
      decide
    · have := (Nat.log2_lt (Nat.ne_of_gt e)).mpr h2
      omega
  · rw [pd, PyData.hasDict]
  · rw [pd, PyData.depth]
    omega
  · rw [pd, PyData.shown]
    have e : (strN i).length = (Nat.toDigits 10 i).length := by
      have e1 : (strN i).length = (strN i).cps.toList.length := Array.length_toList.symm
      rw [e1, strN_cps, List.length_map]
    have := digs_len 6 i (by omega)
    show (strN i).length + 2 ≤ 9
    omega
  · rw [pd, PyData.canLay0]

def small (k : Int) : Prop := ∃ n : Nat, k = (n : Int) ∧ n ≤ 9999999
theorem SR.sm {k : Int} (h : small k) (n : Nat) : SR (.int k) n 9 := by
  obtain ⟨m, rfl, h⟩ := h
  exact SR.nat h n
def Gt.sm : Gt → Prop
  | .inp x k => okZ x ∧ small k
  | .iz b => small b
  | .box c b d => okZ c ∧ small b ∧ d ≤ 9999999
  | .nt a => a ≤ 9999999
  | .two w a c => okZ w ∧ a ≤ 9999999 ∧ c ≤ 9999999
theorem okZ_in : okZ (Str.ofString "in") := okZ_dec (by decide +kernel)
theorem okZ_is : okZ (Str.ofString "is") := okZ_dec (by decide +kernel)
theorem okZ_box : okZ (Str.ofString "box") := okZ_dec (by decide +kernel)
theorem okZ_not : okZ (Str.ofString "not") := okZ_dec (by decide +kernel)
theorem Gt.sr {g : Gt} (h : g.sm) : SR g.td 2 500 := by
  cases g with
  | inp x k => exact (SRL.tup (SRL.cons (SR.str okZ_in 1) (SRL.cons (SR.str h.1 1) (SRL.cons (SR.sm h.2 1) SRL.nil)))).mono (by decide) (by decide)
  | iz b => exact (SRL.tup (SRL.cons (SR.str okZ_is 1) (SRL.cons (SR.sm h 1) SRL.nil))).mono (by decide) (by decide)
  | box c b d => exact (SRL.tup (SRL.cons (SR.str okZ_box 1) (SRL.cons (SR.str h.1 1) (SRL.cons (SR.sm h.2.1 1) (SRL.cons (SR.nat h.2.2 1) SRL.nil))))).mono (by decide) (by decide)
  | nt a => exact (SRL.tup (SRL.cons (SR.str okZ_not 1) (SRL.cons (SR.nat h 1) SRL.nil))).mono (by decide) (by decide)
  | two w a c => exact (SRL.tup (SRL.cons (SR.str h.1 1) (SRL.cons (SR.nat h.2.1 1) (SRL.cons (SR.nat h.2.2 1) SRL.nil)))).mono (by decide) (by decide)
theorem SRL.map {α : Type} {f : α → Td} {n L : Nat} : ∀ {l : List α}, (∀ x ∈ l, SR (f x) n L) → SRL (l.map f) n (L * l.length)
  | [], _ => SRL.nil
  | x :: l, h => (SRL.cons (h x List.mem_cons_self) (SRL.map (l := l) fun y hy => h y (List.mem_cons_of_mem _ hy))).mono (Nat.le_refl _) (by rw [List.length_cons, Nat.mul_succ]; omega)
def smC (c : Int × Int) : Prop := small c.1 ∧ small c.2
theorem cell_sr {c : Int × Int} (h : smC c) : SR (cellT c) 1 23 := (SRL.tup (SRL.cons (SR.sm h.1 0) (SRL.cons (SR.sm h.2 0) SRL.nil))).mono (by decide) (by decide)
def smW (w : Way) : Prop := w.length ≤ 1000 ∧ ∀ c ∈ w, smC c
theorem way_sr {w : Way} (h : smW w) : SR (wayT w) 2 23005 := (SRL.tup (SRL.map fun c hc => cell_sr (h.2 c hc))).mono (by decide) (by have := h.1; omega)
theorem wl_sr {ws : List Way} (h : ∀ w ∈ ws, smW w) (hl : ws.length ≤ 2) : SR (.tup (ws.map wayT)) 3 46015 := (SRL.tup (SRL.map fun w hw => way_sr (h w hw))).mono (by decide) (by omega)
/-- all is small -/
structure Sml (gs : List Gt) (cs : List (Int × Int)) (wl : List (List Way)) : Prop where
  n : gs.length ≤ 40
  g : ∀ g ∈ gs, g.sm
  m : cs.length ≤ 40
  c : ∀ c ∈ cs, smC c
  k : wl.length ≤ 40
  w : ∀ ws ∈ wl, ws.length ≤ 2 ∧ ∀ w ∈ ws, smW w
theorem both_sr {gs : List Gt} {cs : List (Int × Int)} {wl : List (List Way)} (h : Sml gs cs wl) : SR (.tup [netT gs, layT cs wl]) 10 2000000 := by
  have g1 := SRL.tup (SRL.map (f := Gt.td) fun g hg => Gt.sr (h.g g hg))
  have e1 : SR (.tup []) 1 5 := (SRL.tup (SRL.nil (n := 0))).mono (by decide) (by decide)
  have n1 : SR (netT gs) 6 20030 := (SRL.tup (SRL.cons (g1.mono (m := 5) (M := 20010) (by decide) (by have := h.n; omega)) (SRL.cons (e1.mono (m := 5) (by decide) (Nat.le_refl _)) (SRL.cons (e1.mono (m := 5) (by decide) (Nat.le_refl _)) SRL.nil)))).mono (by decide) (by decide)
  have c1 := SRL.tup (SRL.map (f := cellT) fun c hc => cell_sr (h.c c hc))
  have w1 := SRL.tup (SRL.map (f := fun ws : List Way => Td.tup (ws.map wayT)) fun ws hw => wl_sr (h.w ws hw).2 (h.w ws hw).1)
  have l1 : SR (layT cs wl) 6 1900000 := (SRL.tup (SRL.cons (c1.mono (m := 5) (M := 1000) (by decide) (by have := h.m; omega)) (SRL.cons (w1.mono (m := 5) (M := 1840610) (by decide) (by have := h.k; omega)) SRL.nil))).mono (by decide) (by decide)
  exact (SRL.tup (SRL.cons n1 (SRL.cons l1 SRL.nil))).mono (by decide) (by decide)
/-- a tuple of small ints -/
theorem ints_sr {l : List Int} (h : ∀ x ∈ l, small x) (hl : l.length ≤ 1000) : SR (.tup (l.map Td.int)) 2 10000 := (SRL.tup (SRL.map (f := Td.int) fun x hx => SR.sm (h x hx) 0)).mono (by decide) (by omega)
theorem ints_td {H : Hp} {p : Addr} {l : List Int} (h : H p = some (.tup (l.map V.int))) : TdR H (.tup (l.map Td.int)) (.ref p) := by
  refine .mk h ⟨by rw [List.length_map, List.length_map], fun i x v h1 h2 => ?_⟩
  rw [List.getElem?_map] at h1 h2
  cases e : l[i]? with
  | none =>
    rw [e] at h1
    cases h1
  | some z =>
    rw [e] at h1 h2
    cases h1
    cases h2
    exact .int _
/-! ### arrivals are small -/
def Own.few (d : Own) : Prop := (0 ≤ d.s ∧ d.s ≤ 3) ∧ (0 ≤ d.o ∧ d.o ≤ 1000) ∧ 0 ≤ d.t ∧ d.t ≤ 1000
theorem mxi_bd {l : List Int} {B : Int} (hB : 0 ≤ B) (h : ∀ x ∈ l, 0 ≤ x ∧ x ≤ B) : 0 ≤ mxi l ∧ mxi l ≤ B := by
  unfold mxi
  cases e : l.max? with
  | none => exact ⟨Int.le_refl _, hB⟩
  | some m => exact h m (List.max?_eq_some_iff.mp e).1
theorem step_bd {d : Own} (h : d.few) {m : Nat} (h1 : 1 ≤ m) (h2 : m ≤ 1000) : 0 ≤ d.s * ((m : Int) - 1) ∧ d.s * ((m : Int) - 1) ≤ 2997 := by
  obtain ⟨⟨a, b⟩, _, _⟩ := h
  refine ⟨Int.mul_nonneg a (by omega), ?_⟩
  have := Int.mul_le_mul b (show (m : Int) - 1 ≤ 999 by omega) (by omega) (by decide)
  omega
theorem getD_bd {l : List Int} {B : Int} (hB : 0 ≤ B) (h : ∀ x ∈ l, 0 ≤ x ∧ x ≤ B) (i : Nat) : 0 ≤ l.getD i 0 ∧ l.getD i 0 ≤ B := by
  rw [List.getD_eq_getElem?_getD]
  cases e : l[i]? with
  | none => exact ⟨Int.le_refl _, hB⟩
  | some x => exact h x (List.mem_of_getElem? e)
theorem bro_bd {arr : List Int} {g : Gt} {ws : List Way} {d : Own} {B : Int} (hB : 0 ≤ B) (hd : d.few) (h : ∀ x ∈ arr, 0 ≤ x ∧ x ≤ B) (hw : ∀ w ∈ ws, 1 ≤ w.length ∧ w.length ≤ 1000) :
    ∀ x ∈ (bro arr g.feeds (lens ws) d.s).map (·.1), 0 ≤ x ∧ x ≤ B + 2997 := by
  intro x hx
  obtain ⟨p, hp, rfl⟩ := List.mem_map.mp hx
  obtain ⟨j, f, l, h1, h2, rfl⟩ := bro_mem hp
  unfold lens at h2
  rw [List.getElem?_map] at h2
  cases e : ws[j]? with
  | none =>
    rw [e] at h2
    cases h2
  | some w =>
    rw [e] at h2
    cases h2
    obtain ⟨w1, w2⟩ := hw w (List.mem_of_getElem? e)
    obtain ⟨a, b⟩ := step_bd hd w1 w2
    obtain ⟨a2, b2⟩ := getD_bd hB h f
    dsimp only
    omega
theorem arrN_bd {gs : List Gt} {wl : List (List Way)} {d : Own} (ok : Okl gs wl) (hd : d.few) : ∀ k, ∀ x ∈ arrN gs wl d k, 0 ≤ x ∧ x ≤ 4000 * (k : Int)
  | 0, x, h => by cases h
  | k + 1, x, h => by
    have ih := arrN_bd ok hd k
    rw [arrN] at h
    rcases List.mem_append.mp h with h | h
    · have := ih x h
      omega
    · rw [List.mem_singleton.mp h]
      unfold arrV
      cases e : gs[k]? with
      | none => exact ⟨Int.le_refl _, by dsimp only; omega⟩
      | some g =>
        dsimp only
        cases hf : g.fed with
        | false => exact ⟨Int.le_refl _, by rw [if_neg Bool.false_ne_true]; omega⟩
        | true =>
          rw [if_pos rfl]
          obtain ⟨ws, ew, lw, hws⟩ := ok.at e
          rw [List.getD_eq_getElem?_getD, ew]
          obtain ⟨a, b⟩ := mxi_bd (by omega) (bro_bd (g := g) (ws := ws) (by omega) hd ih hws)
          have ow : 0 ≤ g.own d ∧ g.own d ≤ 1000 := by
            obtain ⟨_, h2, h3⟩ := hd
            cases g <;> first | exact h2 | exact h3
          show 0 ≤ mxi ((bro (arrN gs wl d k) g.feeds (lens ws) d.s).map (·.1)) + _ ∧ mxi ((bro (arrN gs wl d k) g.feeds (lens ws) d.s).map (·.1)) + _ ≤ _
          omega
theorem small_of {x : Int} (h1 : 0 ≤ x) (h2 : x ≤ 9999999) : small x := ⟨x.toNat, by omega, by omega⟩
theorem arrs_small {gs : List Gt} {wl : List (List Way)} {d : Own} (ok : Okl gs wl) (hd : d.few) (hn : gs.length ≤ 40) : ∀ x ∈ arrs gs wl d, small x := by
  intro x hx
  have := arrN_bd ok hd gs.length x hx
  exact small_of this.1 (by omega)
theorem boxT_small {gs : List Gt} {wl : List (List Way)} {d : Own} (ok : Okl gs wl) (hd : d.few) (hn : gs.length ≤ 40) (b : Nat) : 0 ≤ boxT gs wl (arrs gs wl d) d.s b ∧ boxT gs wl (arrs gs wl d) d.s b ≤ 9999999 := by
  unfold boxT
  cases e : gs[b]? with
  | none => exact ⟨Int.le_refl _, (by decide : (0 : Int) ≤ 9999999)⟩
  | some g =>
    cases g with
    | box c bit dd =>
      obtain ⟨ws, ew, lw, hws⟩ := ok.at e
      obtain ⟨w0, rfl⟩ : ∃ w0, ws = [w0] := by
        match ws, lw with
        | [w0], _ => exact ⟨w0, rfl⟩
      obtain ⟨w1, w2⟩ := hws w0 List.mem_cons_self
      obtain ⟨a, b'⟩ := step_bd hd w1 w2
      obtain ⟨a2, b2⟩ := getD_bd (B := 4000 * (gs.length : Int)) (by omega) (arrN_bd ok hd gs.length) dd
      dsimp only
      rw [getD_at ew]
      show 0 ≤ (arrs gs wl d).getD dd 0 + d.s * ((w0.length : Int) - 1) ∧ (arrs gs wl d).getD dd 0 + d.s * ((w0.length : Int) - 1) ≤ 9999999
      unfold arrs
      omega
    | _ => exact ⟨Int.le_refl _, (by decide : (0 : Int) ≤ 9999999)⟩
end K53

namespace K53
open PySem PySem.Spec PyProof.Rows L2 Kit
/-! ### the law's own: a net -/
/-- tuples stay -/
def TK (H H' : Hp) : Prop := ∀ p vs, H p = some (.tup vs) → H' p = some (.tup vs)
theorem TK.trans {H H1 H2 : Hp} (a : TK H H1) (b : TK H1 H2) : TK H H2 := fun p vs e => b p vs (a p vs e)
theorem TK.same {H H1 : Hp} (a : Same H H1) : TK H H1 := fun p vs e => a p _ e
theorem TK.but {H H1 : Hp} {d c : Addr} {t : Nat} (k : Deck H d c t) (a : But d c H H1) : TK H H1 := fun p vs e => by
  obtain ⟨cs, sd, h1, h2, _⟩ := k.ex
  exact a p _ (fun z => by rw [z, h1] at e; cases e) (fun z => by rw [z, h2] at e; cases e) e
theorem TK.lst {H H1 : Hp} {L : Addr} {xs : List V} {o : HO} (a : TK H H1) (e : H1 L = some (.lst xs)) : TK H (upd H1 L o) := fun p vs h => by
  have h2 := a p vs h
  rw [upd_ne (fun z => by rw [z, e] at h2; cases h2)]
  exact h2
structure NetOk (gs : List Gt) (n : Nat) : Prop where
  len : gs.length ≤ n
  ok : ∀ (i : Nat) (g : Gt), gs[i]? = some g → g.ok n i ∧ g.sm
theorem NetOk.snoc {gs : List Gt} {n : Nat} {g : Gt} (h : NetOk gs n) (hl : gs.length < n) (hg : g.ok n gs.length) (hs : g.sm) : NetOk (gs ++ [g]) n := by
  refine ⟨by rw [List.length_append]; exact hl, fun i g' e => ?_⟩
  by_cases hi : i < gs.length
  · rw [List.getElem?_append_left hi] at e
    exact h.ok i g' e
  · have lj : i < (gs ++ [g]).length := (List.getElem?_eq_some_iff.mp e).1
    rw [List.length_append] at lj
    have hi2 : i = gs.length := by
      have : [g].length = 1 := rfl
      omega
    subst hi2
    rw [List.getElem?_append_right (Nat.le_refl _), Nat.sub_self] at e
    cases e
    exact ⟨hg, hs⟩
theorem but_none {H H' : Hp} {d c p : Addr} {t : Nat} (k : Deck H' d c t) (b : But d c H H') (h : H' p = none) : H p = none := by
  cases e : H p with
  | none => rfl
  | some o =>
    have f := k.free h
    rw [b p o f.1 f.2 e] at h
    cases h
theorem gt_td {H : Hp} {p : Addr} (g : Gt) (h : H p = some (.tup g.vs)) : TdR H g.td (.ref p) := by
  cases g with
  | inp x k => exact .mk h (.cons (.str _) (.cons (.str _) (.cons (.int _) .nil)))
  | iz b => exact .mk h (.cons (.str _) (.cons (.int _) .nil))
  | box c b d => exact .mk h (.cons (.str _) (.cons (.str _) (.cons (.int _) (.cons (.int _) .nil))))
  | nt a => exact .mk h (.cons (.str _) (.cons (.int _) .nil))
  | two y a c => exact .mk h (.cons (.str _) (.cons (.int _) (.cons (.int _) .nil)))
theorem near_at {kk r x : Int} {i : Nat} {v : V} (h0 : 1 ≤ kk) (h1 : 0 ≤ r) (h2 : r < kk) (h3 : 0 ≤ x) (h : ([.int (kk - 1), .int r, .int (if kk - 1 - x > 0 then kk - 1 - x else 0)] : List V)[i]? = some v) : ∃ a : Nat, v = .int (a : Int) ∧ (a : Int) < kk := by
  match i, h with
  | 0, h =>
    cases h
    exact ⟨(kk - 1).toNat, by congr 1; omega, by omega⟩
  | 1, h =>
    cases h
    exact ⟨r.toNat, by congr 1; omega, by omega⟩
  | 2, h =>
    cases h
    by_cases e : kk - 1 - x > 0
    · exact ⟨(kk - 1 - x).toNat, by rw [if_pos e]; congr 1; omega, by omega⟩
    · exact ⟨0, by rw [if_neg e]; rfl, by omega⟩
  | n + 3, h => cases h
theorem sides_at {so : Int} (h0 : 0 ≤ so) (h1 : so < 4) : ∃ sd : Int, atI [V.int 8, .int 8, .int 4, .int 12] so = some (.int sd) ∧ 1 ≤ sd ∧ sd ≤ 12 := by
  obtain ⟨n, rfl⟩ : ∃ n : Nat, so = (n : Int) := ⟨so.toNat, by omega⟩
  match n, h1 with
  | 0, _ => exact ⟨8, rfl, by decide, by decide⟩
  | 1, _ => exact ⟨8, rfl, by decide, by decide⟩
  | 2, _ => exact ⟨4, rfl, by decide, by decide⟩
  | 3, _ => exact ⟨12, rfl, by decide, by decide⟩
  | n + 4, h => omega
theorem many_at {r1 r2 : Int} (h0 : 0 ≤ r1) (h1 : r1 < 12) : ∃ m : Nat, 3 ≤ m ∧ m ≤ 40 ∧ atI [V.int (3 + r1), .int 40] (if decide (V.int r2 = V.int 5) = true then 1 else 0) = some (.int (m : Int)) := by
  by_cases e : decide (V.int r2 = V.int 5) = true
  · rw [if_pos e]
    exact ⟨40, by decide, by decide, rfl⟩
  · rw [if_neg e]
    refine ⟨(3 + r1).toNat, by omega, by omega, ?_⟩
    show some (V.int (3 + r1)) = _
    congr 2
    omega
theorem kkm_at {i : Nat} {x : V} (h : (sgV "kkm")[i]? = some x) : ∃ z : Str, x = .str z ∧ okZ z := by
  have e : sgV "kkm" = [.str "k", .str "k", .str "m"] := by decide +kernel
  rw [e] at h
  match i, h with
  | 0, h =>
    cases h
    exact ⟨_, rfl, okZ_dec (by decide +kernel)⟩
  | 1, h =>
    cases h
    exact ⟨_, rfl, okZ_dec (by decide +kernel)⟩
  | 2, h =>
    cases h
    exact ⟨_, rfl, okZ_dec (by decide +kernel)⟩
  | n + 3, h => cases h
theorem xyz_at {k : Nat} (h : k < 40) : ∃ ch, atI ("xyzuv" : Str).cps.toList ((k : Int).fdiv 8) = some ch ∧ okZ ⟨#[ch]⟩ := by
  have e : ((k : Int).fdiv 8) = ((k / 8 : Nat) : Int) := by
    rw [Int.fdiv_eq_ediv_of_nonneg _ (by decide)]
    rfl
  rw [e]
  have h2 : k / 8 < 5 := by omega
  generalize k / 8 = j at h2
  match j, h2 with
  | 0, _ => exact ⟨120, by decide +kernel, okZ_dec (by decide +kernel)⟩
  | 1, _ => exact ⟨121, by decide +kernel, okZ_dec (by decide +kernel)⟩
  | 2, _ => exact ⟨122, by decide +kernel, okZ_dec (by decide +kernel)⟩
  | 3, _ => exact ⟨117, by decide +kernel, okZ_dec (by decide +kernel)⟩
  | 4, _ => exact ⟨118, by decide +kernel, okZ_dec (by decide +kernel)⟩
  | n + 5, h => omega
def spNet : Sp := fun vs H Q _ => ∃ (d c : Addr) (t : Nat), vs = [.ref d] ∧ Deck H d c t ∧ t < 1000000 ∧
  ∀ (v : V) (gs : List Gt) (t' : Nat) (H' : Hp), But d c H H' → Deck H' d c t' → t' ≤ t + 500 → TdR H' (netT gs) v → NetOk gs gs.length → gs.length ≤ 40 → 2 ≤ gs.length → Q v H'
section
variable {P : Program} {w : World} {K : PySem.W.Frag} {mg : Str → Option Value} {base : Heap}
theorem ok_l_net {f : Addr} {fd : FuncData} (D : DefAt K mg "_law_net" ["_law_deck_here"] s_l_net f fd) (M : Bi mg)
    (C_l_draw : Cal P w K mg base L2.CX0 1 "_law_draw" ["_law_deck_here", "_law_sides"] spDraw) (C_l_pick : Cal P w K mg base L2.CX0 2 "_law_pick" ["_law_deck_here", "_law_some"] (spPick K)) :
    Cal P w K mg base L2.CX0 3 "_law_net" ["_law_deck_here"] spNet := by
  have S := S_l_net
  refine cal_of D.fn D.mgf D.bs D.kbs S (fun vs H Q E h => ?_) (fun cdv A outer s H vs Q E hq hr h => ?_)
  · obtain ⟨d, c, t, rfl, _⟩ := h
    rfl
  · obtain ⟨d, c, t, rfl, dk, ht, q⟩ := h
    refine ⟨_, (pss_cons (ps_set (i := 1) S.nd rfl (.inl rfl) (pe_ix ix_list (pe_lst (pa_cons (pe_op op_add pe_int (pe_c C_l_draw pass0 hq hr (by omega) (by rfl) (pa_cons (pv 0) (pa_cons pe_int pa_nil)))) (pa_cons pe_int pa_nil))) (pe_callTy call_int1 (by rfl) M.int_ (by decide +kernel) (pa_cons (pe_cmpR op_eq (pe_c C_l_draw pass0 hq hr (by omega) (by rfl) (pa_cons (pv 0) (pa_cons pe_int pa_nil))) pe_int (nomark _)) pa_nil)) (fun _ _ => rfl)))
 (pss_cons (ps_set (i := 2) S.nd rfl (.inl rfl) (pe_c C_l_draw pass0 hq hr (by omega) (by rfl) (pa_cons (pv 0) (pa_cons pe_int pa_nil))))
 (pss_cons (ps_set (i := 3) S.nd rfl (.inl rfl) (pe_lst (pa_cons (pe_tup (pa_cons pe_str (pa_cons pe_str (pa_cons pe_int pa_nil)))) (pa_cons (pe_tup (pa_cons pe_str (pa_cons pe_str (pa_cons (pe_c C_l_draw pass0 hq hr (by omega) (by rfl) (pa_cons (pv 0) (pa_cons pe_int pa_nil))) (pa_cons (pe_c C_l_draw pass0 hq hr (by omega) (by rfl) (pa_cons (pv 0) (pa_cons (pv 1) pa_nil))) pa_nil))))) pa_nil))))
 (pss_cons (ps_for PassesOwn.never rfl (pi_range2 (by rfl) M.range_ (pa_cons pe_int (pa_cons (pv 1) pa_nil))) (pg_name (i := 4) S.nd rfl (.inl rfl))
  (pss_cons (ps_set (i := 5) S.nd rfl (.inl rfl) (pe_c C_l_draw pass0 hq hr (by omega) (by rfl) (pa_cons (pv 0) (pa_cons (pe_ix ix_list (pe_lst (pa_cons pe_int (pa_cons pe_int (pa_cons pe_int (pa_cons pe_int pa_nil))))) (pv 2) (fun _ _ => rfl)) pa_nil))))
 (pss_cons (ps_set (i := 6) S.nd rfl (.inl rfl) (pe_lst (pa_cons (pe_op op_sub (pv 4) pe_int) (pa_cons (pe_c C_l_draw pass0 hq hr (by omega) (by rfl) (pa_cons (pv 0) (pa_cons (pv 4) pa_nil))) (pa_cons (pe_callB (call_max2 rfl) (by rfl) M.max_ (by decide +kernel) (pa_cons pe_int (pa_cons (pe_op op_sub (pe_op op_sub (pv 4) pe_int) (pe_c C_l_draw pass0 hq hr (by omega) (by rfl) (pa_cons (pv 0) (pa_cons pe_int pa_nil)))) pa_nil))) pa_nil)))))
 (pss_cons (ps_par (i := 7) (j := 8) rfl S.nd rfl rfl (by decide) rfl rfl (pa_cons (pe_c C_l_pick pass0 hq hr (by omega) (by rfl) (pa_cons (pv 0) (pa_cons (pv 6) pa_nil))) (pa_cons (pe_c C_l_pick pass0 hq hr (by omega) (by rfl) (pa_cons (pv 0) (pa_cons (pv 6) pa_nil))) pa_nil)) (by rfl))
 (pss_cons (ps_set (i := 9) S.nd rfl (.inl rfl) (pe_lst (pa_cons (pe_tup (pa_cons pe_str (pa_cons (pv 7) (pa_cons (pv 8) pa_nil)))) (pa_cons (pe_tup (pa_cons pe_str (pa_cons (pv 7) (pa_cons (pv 8) pa_nil)))) (pa_cons (pe_tup (pa_cons pe_str (pa_cons (pv 7) pa_nil))) (pa_cons (pe_tup (pa_cons pe_str (pa_cons (pv 7) (pa_cons (pv 7) pa_nil)))) (pa_cons (pe_tup (pa_cons pe_str (pa_cons (pe_c C_l_draw pass0 hq hr (by omega) (by rfl) (pa_cons (pv 0) (pa_cons pe_int pa_nil))) pa_nil))) pa_nil)))))))
 (pss_cons (ps_expr (pe_bm PySem.F.plainAttrs_list PySem.F.slot_list_append PySem.F.type_list_append mt_append (pv 9) (pa_cons (pe_tup (pa_cons pe_str (pa_cons (pe_c C_l_pick pass0 hq hr (by omega) (by rfl) (pa_cons (pv 0) (pa_cons pe_str pa_nil))) (pa_cons (pe_c C_l_draw pass0 hq hr (by omega) (by rfl) (pa_cons (pv 0) (pa_cons pe_int pa_nil))) (pa_cons (pe_c C_l_draw pass0 hq hr (by omega) (by rfl) (pa_cons (pv 0) (pa_cons (pv 1) pa_nil))) pa_nil))))) pa_nil)))
 (pss_cons (ps_expr (pe_bm PySem.F.plainAttrs_list PySem.F.slot_list_append PySem.F.type_list_append mt_append (pv 9) (pa_cons (pe_tup (pa_cons pe_str (pa_cons (pe_ix ix_str pe_str (pe_op op_fdivN (pv 4) pe_int) (fun _ _ => rfl)) (pa_cons (pe_op op_mod (pv 4) pe_int) pa_nil)))) pa_nil)))
 (pss_one (ps_expr (pe_bm PySem.F.plainAttrs_list PySem.F.slot_list_append PySem.F.type_list_append mt_append (pv 3) (pa_cons (pe_ix ix_list (pe_op op_cat (pv 9) (pe_op op_rep (pe_lst (pa_cons (pe_tup (pa_cons pe_str (pa_cons (pv 7) pa_nil))) pa_nil)) pe_int)) (pv 5) (fun _ _ => rfl)) pa_nil)))))))))))
 (pss_one (ps_ret (pe_tup (pa_cons (pe_callTy call_tuple_of (by rfl) M.tuple_ (by decide +kernel) (pa_cons (pv 3) pa_nil)) (pa_cons (pe_tup pa_nil) (pa_cons (pe_tup pa_nil) pa_nil)))))))))), ?_⟩
    refine ⟨.ref d, rfl, d, c, 12, t, rfl, by decide, by decide, dk, by omega, fun r1 H1 a1 b1 k1 dk1 => ⟨_, _, rfl, rfl, (by decide : (2 : Nat) ≤ sizeLine), fun p1 np1 => ?_⟩⟩
    generalize hP1 : upd _ p1 _ = P1
    have sP1 : Same H1 P1 := hP1 ▸ same_new np1
    have eP1 : P1 p1 = some _ := hP1 ▸ upd_same
    refine ⟨.ref d, rfl, d, c, 8, t + 1, rfl, by decide, by decide, dk1.same sP1, by omega, fun r2 H2 a2 b2 k2 dk2 => ⟨rfl, .inr ⟨_, rfl, ?_⟩⟩⟩
    obtain ⟨m, m1, m2, hat⟩ := many_at (r2 := r2) a1 b1
    have f1 := dk1.free np1
    refine ⟨p1, _, _, _, rfl, rfl, .inl (.inl (k2 p1 _ f1.1 f1.2 eP1)), hat, ?_⟩
    refine ⟨.ref d, rfl, d, c, 4, t + 2, rfl, by decide, by decide, dk2, by omega, fun so H3 a3 b3 k3 dk3 => ?_⟩
    obtain ⟨sd, hsd, sd1, sd2⟩ := sides_at a3 b3
    refine ⟨(by decide : (3 : Nat) ≤ sizeLine), fun g1 ng1 => ?_⟩
    generalize hP2 : upd _ g1 _ = P2
    have sP2 : Same H3 P2 := hP2 ▸ same_new ng1
    have eg1 : P2 g1 = some _ := hP2 ▸ upd_same
    refine ⟨.ref d, rfl, d, c, 2, t + 3, rfl, by decide, by decide, dk3.same sP2, by omega, fun r4 H4 a4 b4 k4 dk4 => ?_⟩
    refine ⟨.ref d, rfl, .int (m : Int), rfl, d, c, (m : Int), t + 4, rfl, by omega, by omega, dk4, by omega, fun r5 H5 a5 b5 k5 dk5 => ?_⟩
    refine ⟨(by decide : (4 : Nat) ≤ sizeLine), fun g2 ng2 => ?_⟩
    generalize hP3 : upd _ g2 _ = P3
    have sP3 : Same H5 P3 := hP3 ▸ same_new ng2
    have eg2 : P3 g2 = some _ := hP3 ▸ upd_same
    refine ⟨(by decide : (2 : Nat) ≤ sizeLine), fun L nL => ?_⟩
    generalize hP4 : upd _ L _ = P4
    have sP4 : Same P3 P4 := hP4 ▸ same_new nL
    have eL : P4 L = some _ := hP4 ▸ upd_same
    have bb := (((((k1.same sP1).trans k2).trans k3).same sP2).trans k4).trans k5
    have dk6 := dk5.same sP3
    have nL0 : H L = none := but_none dk6 (bb.same sP3) nL
    have bb4 := (bb.same sP3).same sP4
    have tg1 : TdR P4 (Gt.inp "x" 0).td (.ref g1) := (gt_td (.inp "x" 0) eg1).keep ((((TK.but (dk3.same sP2) k4).trans (TK.but dk4 k5)).trans (TK.same sP3)).trans (TK.same sP4))
    obtain ⟨n5, rfl⟩ : ∃ n5 : Nat, r5 = (n5 : Int) := ⟨r5.toNat, by omega⟩
    have tg2 : TdR P4 (Gt.box "k" r4 n5).td (.ref g2) := (gt_td (.box "k" r4 n5) eg2).keep (TK.same sP4)
    have ej : ((m : Int) - 2).toNat = m - 2 := by omega
    refine ⟨.int (m : Int), rfl, 2, (m : Int), rfl, ⟨by decide, by decide, by omega, by omega⟩, ?_⟩
    rw [ej]
    refine for_range (lo := 2) (n := m - 2) (fun i σ H' => ∃ (gs : List Gt) (vs : List V) (t' : Nat), But d c H H' ∧ Deck H' d c t' ∧ t' ≤ t + 5 + 9 * i ∧ H' L = some (.lst vs) ∧ All2 H' (gs.map Gt.td) vs ∧ NetOk gs m ∧ gs.length = i + 2 ∧ ∃ x4 x5 x6 x7 x8 x9 : Option V,
      σ = [some (.ref d), some (.int (m : Int)), some (.int so), some (.ref L), x4, x5, x6, x7, x8, x9]) ?_ ?_ ?_
    · refine ⟨[.inp "x" 0, .box "k" r4 n5], _, t + 5, bb4, dk6.same sP4, by omega, eL, .cons tg1 (.cons tg2 .nil), ⟨by show 2 ≤ m; omega, fun i g e => ?_⟩, rfl, none, none, none, none, none, none, rfl⟩
      match i, e with
      | 0, e =>
        cases e
        exact ⟨True.intro, okZ_dec (by decide +kernel), ⟨0, rfl, by decide⟩⟩
      | 1, e =>
        cases e
        exact ⟨(by show n5 < m; omega), okZ_dec (by decide +kernel), small_of a4 (by omega), (by show n5 ≤ 9999999; omega)⟩
      | n + 2, e => cases e
    · rintro i σ H' hi ⟨gs, vs, t', bt, dkt, lt, eLt, al, no, lgs, x4, x5, x6, x7, x8, x9, rfl⟩
      rw [show (2 : Int) + (i : Int) = ((i + 2 : Nat) : Int) by omega]
      generalize hkk : i + 2 = kk at *
      have hkm : kk < m := by omega
      obtain ⟨nLd1, nLd2⟩ := dk6.free nL
      -- which
      refine ⟨.ref d, rfl, (by decide : (4 : Nat) ≤ sizeLine), fun q1 nq1 => ?_⟩
      generalize hU1 : upd _ q1 _ = U1
      have s1 : Same H' U1 := hU1 ▸ same_new nq1
      have e1 : U1 q1 = some _ := hU1 ▸ upd_same
      refine ⟨.int so, rfl, q1, _, _, _, rfl, rfl, .inl (.inl e1), hsd, d, c, sd, t', rfl, sd1, by omega, dkt.same s1, by omega, fun wh G1 aw bw h1 j1 => ?_⟩
      -- near
      refine ⟨.int (kk : Int), rfl, _, _, rfl, rfl, .ref d, rfl, .int (kk : Int), rfl, d, c, (kk : Int), t' + 1, rfl, by omega, by omega, j1, by omega, fun rr G2 ar br h2 j2 => ?_⟩
      refine ⟨.int (kk : Int), rfl, _, _, rfl, rfl, .ref d, rfl, d, c, 3, t' + 2, rfl, by decide, by decide, j2, by omega, fun rx G3 ax bx h3 j3 => ?_⟩
      refine ⟨_, _, rfl, rfl, _, _, rfl, (by decide : (3 : Nat) ≤ sizeLine), fun q2 nq2 => ?_⟩
      generalize hU2 : upd _ q2 _ = U2
      have s2 : Same G3 U2 := hU2 ▸ same_new nq2
      have e2 : U2 q2 = some _ := hU2 ▸ upd_same
      have nq2d := j3.free nq2
      have nr : ∀ z : Addr, V.ref q2 = .ref z → q2 = z := fun z h => V.ref.inj h
      -- one, other
      refine ⟨.ref d, rfl, .ref q2, rfl, d, c, t' + 3, .ref q2, _, rfl, .lst (.inl (.inl e2)), (by decide : (1 : Nat) ≤ 3), (by decide : (3 : Nat) < 1000000000), fun h => nq2d.1 (nr _ h), fun h => nq2d.2 (nr _ h), j3.same s2, by omega, fun i1 v1 G4 z1 h4 j4 => ?_⟩
      refine ⟨.ref d, rfl, .ref q2, rfl, d, c, t' + 4, .ref q2, _, rfl, .lst (.inl (.inl (h4 q2 _ nq2d.1 nq2d.2 e2))), (by decide : (1 : Nat) ≤ 3), (by decide : (3 : Nat) < 1000000000), fun h => nq2d.1 (nr _ h), fun h => nq2d.2 (nr _ h), j4, by omega, fun i2 v2 G5 z2 h5 j5 => ?_⟩
      obtain ⟨a, rfl, la⟩ := near_at (by omega) ar br ax z1
      obtain ⟨b, rfl, lb⟩ := near_at (by omega) ar br ax z2
      refine ⟨_, _, rfl, ?_⟩
      -- some
      refine ⟨.int (a : Int), rfl, .int (b : Int), rfl, (by decide : (3 : Nat) ≤ sizeLine), fun u1 nu1 => ?_⟩
      generalize hW1 : upd _ u1 _ = W1
      have y1 : Same G5 W1 := hW1 ▸ same_new nu1
      have o1 : W1 u1 = some _ := hW1 ▸ upd_same
      refine ⟨.int (a : Int), rfl, .int (b : Int), rfl, (by decide : (3 : Nat) ≤ sizeLine), fun u2 nu2 => ?_⟩
      generalize hW2 : upd _ u2 _ = W2
      have y2 : Same W1 W2 := hW2 ▸ same_new nu2
      have o2 : W2 u2 = some _ := hW2 ▸ upd_same
      refine ⟨.int (a : Int), rfl, (by decide : (2 : Nat) ≤ sizeLine), fun u3 nu3 => ?_⟩
      generalize hW3 : upd _ u3 _ = W3
      have y3 : Same W2 W3 := hW3 ▸ same_new nu3
      have o3 : W3 u3 = some _ := hW3 ▸ upd_same
      refine ⟨.int (a : Int), rfl, .int (a : Int), rfl, (by decide : (3 : Nat) ≤ sizeLine), fun u4 nu4 => ?_⟩
      generalize hW4 : upd _ u4 _ = W4
      have y4 : Same W3 W4 := hW4 ▸ same_new nu4
      have o4 : W4 u4 = some _ := hW4 ▸ upd_same
      have y14 := ((y1.trans y2).trans y3).trans y4
      refine ⟨.ref d, rfl, d, c, 2, t' + 5, rfl, by decide, by decide, j5.same y14, by omega, fun r6 G6 a6 b6 h6 j6 => ?_⟩
      refine ⟨(by decide : (2 : Nat) ≤ sizeLine), fun u5 nu5 => ?_⟩
      generalize hW5 : upd _ u5 _ = W5
      have y5 : Same G6 W5 := hW5 ▸ same_new nu5
      have o5 : W5 u5 = some _ := hW5 ▸ upd_same
      refine ⟨(by decide : (5 : Nat) ≤ sizeLine), fun SL nSL => ?_⟩
      generalize hW6 : upd _ SL _ = W6
      have y6 : Same W5 W6 := hW6 ▸ same_new nSL
      have oS : W6 SL = some _ := hW6 ▸ upd_same
      have jW5 := j6.same y5
      have nSLd := jW5.free nSL
      have jW6 := jW5.same y6
      -- the box
      refine ⟨.ref SL, rfl, .inl ⟨rfl, _, .inl (.inl oS)⟩, .ref d, rfl, d, c, t' + 6, .str "kkm", _, rfl, .str (by decide +kernel), (by decide +kernel : 1 ≤ (sgV "kkm").length), (by decide +kernel : (sgV "kkm").length < 1000000000), fun h => (by cases h), fun h => (by cases h), jW6, by omega, fun i3 v3 G7 z3 h7 j7 => ?_⟩
      obtain ⟨ck, rfl, okc⟩ := kkm_at z3
      refine ⟨.ref d, rfl, d, c, 2, t' + 7, rfl, by decide, by decide, j7, by omega, fun r7 G8 a7 b7 h8 j8 => ?_⟩
      refine ⟨.ref d, rfl, .int (m : Int), rfl, d, c, (m : Int), t' + 8, rfl, by omega, by omega, j8, by omega, fun r8 G9 a8 b8 h9 j9 => ?_⟩
      refine ⟨(by decide : (4 : Nat) ≤ sizeLine), fun u6 nu6 => ?_⟩
      generalize hW7 : upd _ u6 _ = W7
      have y7 : Same G9 W7 := hW7 ▸ same_new nu6
      have o6 : W7 u6 = some _ := hW7 ▸ upd_same
      have oS7 : W7 SL = some _ := y7 _ _ (h9 SL _ nSLd.1 nSLd.2 (h8 SL _ nSLd.1 nSLd.2 (h7 SL _ nSLd.1 nSLd.2 oS)))
      refine ⟨SL, _, _, rfl, rfl, oS7, (by decide : (5 : Nat) < sizeLine), ?_⟩
      generalize hW8 : upd _ SL _ = W8
      have oS8 : W8 SL = some _ := hW8 ▸ upd_same
      obtain ⟨chx, hchx, okx⟩ := xyz_at (k := kk) (by omega)
      refine ⟨.ref SL, rfl, .inl ⟨rfl, _, .inl (.inl oS8)⟩, .int (kk : Int), rfl, _, _, rfl, rfl, ⟨by decide, by decide⟩, "xyzuv", _, chx, rfl, rfl, by decide, hchx, .int (kk : Int), rfl, _, _, rfl, rfl, (by show (0 : Int) < 8; decide), (by decide : (3 : Nat) ≤ sizeLine), fun u7 nu7 => ?_⟩
      generalize hW9 : upd _ u7 _ = W9
      have y9 : Same W8 W9 := hW9 ▸ same_new nu7
      have o7 : W9 u7 = some _ := hW9 ▸ upd_same
      have oS9 := y9 _ _ oS8
      refine ⟨SL, _, _, rfl, rfl, oS9, (by decide : (6 : Nat) < sizeLine), ?_⟩
      generalize hWA : upd _ SL _ = WA
      have oSA : WA SL = some _ := hWA ▸ upd_same
      -- which is taken
      have bG5 : But d c H' G5 := (((((But.of s1).trans h1).trans h2).trans h3).same s2).trans (h4.trans h5)
      have bG9 : But d c H' W7 := ((((((bG5.same y14).trans h6).same y5).same y6).trans h7).trans (h8.trans h9)).same y7
      have eL7 : W7 L = some (.lst vs) := bG9 L _ nLd1 nLd2 eLt
      have nLS : L ≠ SL := fun z => by
        have e5 : W5 L = some (.lst vs) := y5 _ _ (h6 L _ nLd1 nLd2 (y14 _ _ (bG5 L _ nLd1 nLd2 eLt)))
        rw [z, nSL] at e5
        cases e5
      have eL8 : W8 L = some (.lst vs) := by
        rw [← hW8, upd_ne nLS]
        exact eL7
      have eLA : WA L = some (.lst vs) := by
        rw [← hWA, upd_ne nLS]
        exact y9 _ _ eL8
      refine ⟨.ref L, rfl, .inl ⟨rfl, _, .inl (.inl eLA)⟩, .ref SL, rfl, .int (a : Int), rfl, (by decide : (2 : Nat) ≤ sizeLine), fun u8 nu8 => ?_⟩
      generalize hWB : upd _ u8 _ = WB
      have yB : Same WA WB := hWB ▸ same_new nu8
      have o8 : WB u8 = some _ := hWB ▸ upd_same
      refine ⟨(by decide : (1 : Nat) ≤ sizeLine), fun w1 nw1 => ?_⟩
      generalize hWC : upd _ w1 _ = WC
      have yC : Same WB WC := hWC ▸ same_new nw1
      have ow1 : WC w1 = some _ := hWC ▸ upd_same
      refine ⟨w1, 5, _, rfl, rfl, ow1, by decide, by decide, (by decide : 1 * (5 : Int).toNat ≤ sizeLine), fun w2 nw2 => ?_⟩
      generalize hWD : upd _ w2 _ = WD
      have yD : Same WC WD := hWD ▸ same_new nw2
      have ow2 : WD w2 = some _ := hWD ▸ upd_same
      have oSD := yD _ _ (yC _ _ (yB _ _ oSA))
      refine ⟨SL, w2, _, _, rfl, rfl, oSD, ow2, (by decide : (12 : Nat) ≤ sizeLine), fun w3 nw3 => ?_⟩
      generalize hWE : upd _ w3 _ = WE
      have yE : Same WD WE := hWE ▸ same_new nw3
      have ow3 : WE w3 = some _ := hWE ▸ upd_same
      have kB := TK.same ((yC.trans yD).trans yE)
      have kA := (TK.same yB).trans kB
      have k9 : TK W9 WE := TK.trans (hWA ▸ TK.lst (TK.same (Same.refl W9)) oS9) kA
      have k8 := (TK.same y9).trans k9
      have k7 : TK W7 WE := TK.trans (hW8 ▸ TK.lst (TK.same (Same.refl W7)) oS7) k8
      have kG9 := (TK.same y7).trans k7
      have kW6 := (((TK.but jW6 h7).trans (TK.but j7 h8)).trans (TK.but j8 h9)).trans kG9
      have kW5 := (TK.same y6).trans kW6
      have kG6 := (TK.same y5).trans kW5
      have kW4 := (TK.but (j5.same y14) h6).trans kG6
      have kW3 := (TK.same y4).trans kW4
      have kW2 := (TK.same y3).trans kW3
      have kW1 := (TK.same y2).trans kW2
      have bW5 : But d c H' W5 := ((bG5.same y14).trans h6).same y5
      have nS0 : H' SL = none := but_none jW5 bW5 nSL
      have bW8 : But d c H' W8 := hW8 ▸ bG9.mut nS0
      have bWA : But d c H' WA := hWA ▸ (bW8.same y9).mut nS0
      have bWE := bWA.same (((yB.trans yC).trans yD).trans yE)
      have jW8 : Deck W8 d c (t' + 9) := hW8 ▸ (j9.same y7).mut nSLd.1.symm nSLd.2.symm
      have jWA : Deck WA d c (t' + 9) := hWA ▸ (jW8.same y9).mut nSLd.1.symm nSLd.2.symm
      have jWE := jWA.same (((yB.trans yC).trans yD).trans yE)
      have eLE := yE _ _ (yD _ _ (yC _ _ (yB _ _ eLA)))
      have la2 : a < kk := by omega
      have lb2 : b < kk := by omega
      obtain ⟨wn, rfl⟩ : ∃ wn : Nat, wh = (wn : Int) := ⟨wh.toNat, by omega⟩
      obtain ⟨r8n, rfl⟩ : ∃ r8n : Nat, r8 = (r8n : Int) := ⟨r8.toNat, by omega⟩
      have pk : ∃ (u : Addr) (g : Gt), ([V.ref u1, V.ref u2, V.ref u3, V.ref u4, V.ref u5] ++ [V.ref u6] ++ [V.ref u7] ++ (List.replicate (5 : Int).toNat [V.ref u8]).flatten)[wn]? = some (.ref u) ∧ TdR WE g.td (.ref u) ∧ g.ok m kk ∧ g.sm := by
        have tn : ∃ (g : Gt), TdR WE g.td (.ref u8) ∧ g.ok m kk ∧ g.sm := ⟨.nt a, (gt_td (.nt a) o8).keep kB, la2, (by show a ≤ 9999999; omega)⟩
        obtain ⟨g8, q8, q9, q10⟩ := tn
        have hw12 : wn < 12 := by omega
        match wn, hw12 with
        | 0, _ => exact ⟨u1, .two "and" a b, rfl, (gt_td (.two "and" a b) o1).keep kW1, ⟨.inl rfl, la2, lb2⟩, okZ_dec (by decide +kernel), by omega, by omega⟩
        | 1, _ => exact ⟨u2, .two "or" a b, rfl, (gt_td (.two "or" a b) o2).keep kW2, ⟨.inr (.inl rfl), la2, lb2⟩, okZ_dec (by decide +kernel), by omega, by omega⟩
        | 2, _ => exact ⟨u3, .nt a, rfl, (gt_td (.nt a) o3).keep kW3, la2, (by show a ≤ 9999999; omega)⟩
        | 3, _ => exact ⟨u4, .two "xor" a a, rfl, (gt_td (.two "xor" a a) o4).keep kW4, ⟨.inr (.inr rfl), la2, la2⟩, okZ_dec (by decide +kernel), by omega, by omega⟩
        | 4, _ => exact ⟨u5, .iz r6, rfl, (gt_td (.iz r6) o5).keep kW5, True.intro, small_of a6 (by omega)⟩
        | 5, _ => exact ⟨u6, .box ck r7 r8n, rfl, (gt_td (.box ck r7 r8n) o6).keep k7, (by show r8n < m; omega), okc, small_of a7 (by omega), (by show r8n ≤ 9999999; omega)⟩
        | 6, _ => exact ⟨u7, .inp ⟨#[chx]⟩ ((kk : Int) % 8), rfl, (gt_td (.inp ⟨#[chx]⟩ ((kk : Int) % 8)) o7).keep k9, True.intro, okx, small_of (by omega) (by omega)⟩
        | 7, _ => exact ⟨u8, g8, rfl, q8, q9, q10⟩
        | 8, _ => exact ⟨u8, g8, rfl, q8, q9, q10⟩
        | 9, _ => exact ⟨u8, g8, rfl, q8, q9, q10⟩
        | 10, _ => exact ⟨u8, g8, rfl, q8, q9, q10⟩
        | 11, _ => exact ⟨u8, g8, rfl, q8, q9, q10⟩
        | n + 12, h => omega
      obtain ⟨u, g, hu, tu, gok, gsm⟩ := pk
      have lv : vs.length = gs.length := by rw [← al.1, List.length_map]
      refine ⟨.int (wn : Int), rfl, w3, _, _, _, rfl, rfl, .inl (.inl ow3), atI_nat hu, L, _, _, rfl, rfl, eLE, (by rw [lv, lgs]; exact Nat.lt_trans hkm (Nat.lt_of_le_of_lt m2 (by decide))), ?_⟩
      have kf := TK.lst (o := .lst (vs ++ [V.ref u])) (TK.same (Same.refl WE)) eLE
      refine ⟨gs ++ [g], vs ++ [.ref u], t' + 9, (bt.trans bWE).mut nL0, jWE.mut (Ne.symm nLd1) (Ne.symm nLd2), by omega, upd_same, ?_, no.snoc (by omega) (by rw [lgs]; exact gok) gsm, by rw [List.length_append, lgs]; show kk + 1 = i + 1 + 2; omega, _, _, _, _, _, _, rfl⟩
      rw [List.map_append]
      exact All2.snoc ((al.keep (TK.but dkt bWE)).keep kf) (tu.keep kf)
    · rintro σ H' ⟨gs, vs, t', bt, dkt, lt, eLt, al, no, lgs, x4, x5, x6, x7, x8, x9, rfl⟩
      have lv : vs.length = gs.length := by rw [← al.1, List.length_map]
      have lgm : gs.length = m := by omega
      refine ⟨.ref L, rfl, L, vs, rfl, .inl ⟨.inl (.inl eLt), fun T1 nT1 => ?_⟩⟩
      generalize hV1 : upd _ T1 _ = V1
      have v1 : Same H' V1 := hV1 ▸ same_new nT1
      have x1 : V1 T1 = some _ := hV1 ▸ upd_same
      refine ⟨Nat.zero_le _, fun T2 nT2 => ?_⟩
      generalize hV2 : upd _ T2 _ = V2
      have v2 : Same V1 V2 := hV2 ▸ same_new nT2
      have x2 : V2 T2 = some _ := hV2 ▸ upd_same
      refine ⟨Nat.zero_le _, fun T3 nT3 => ?_⟩
      generalize hV3 : upd _ T3 _ = V3
      have v3 : Same V2 V3 := hV3 ▸ same_new nT3
      have x3 : V3 T3 = some _ := hV3 ▸ upd_same
      refine ⟨(by decide : (3 : Nat) ≤ sizeLine), fun T4 nT4 => ?_⟩
      generalize hV4 : upd _ T4 _ = V4
      have v4 : Same V3 V4 := hV4 ▸ same_new nT4
      have x4 : V4 T4 = some _ := hV4 ▸ upd_same
      have v14 := ((v1.trans v2).trans v3).trans v4
      refine q _ gs t' V4 (bt.same v14) (dkt.same v14) (by omega) ?_ (by rw [lgm]; exact no) (by omega) (by omega)
      exact .mk x4 (.cons (.mk (v4 _ _ (v3 _ _ (v2 _ _ x1))) (al.same v14)) (.cons (.mk (v4 _ _ (v3 _ _ x2)) .nil) (.cons (.mk (v4 _ _ x3) .nil) .nil)))
end
end K53

namespace K53
open PySem PySem.Spec PyProof.Rows L2 Kit
/-! ### the law's own: a way -/
def cV (c : Int × Int) : List V := [.int c.1, .int c.2]
def on9 (c : Int × Int) : Prop := (0 ≤ c.1 ∧ c.1 < 9) ∧ 0 ≤ c.2 ∧ c.2 < 9
theorem on9_sm {c : Int × Int} (h : on9 c) : smC c := ⟨small_of h.1.1 (by have := h.1.2; omega), small_of h.2.1 (by have := h.2.2; omega)⟩
theorem cell_td {H : Hp} {p : Addr} {c : Int × Int} (h : H p = some (.tup (cV c))) : TdR H (cellT c) (.ref p) := .mk h (.cons (.int _) (.cons (.int _) .nil))
def spWay : Sp := fun vs H Q _ => ∃ (d c F T : Addr) (t : Nat) (a b : Int × Int), vs = [.ref d, .ref F, .ref T] ∧ Deck H d c t ∧ t < 10000000 ∧ H F = some (.tup (cV a)) ∧ H T = some (.tup (cV b)) ∧ on9 a ∧ on9 b ∧
  ∀ (v : V) (w : Way) (t' : Nat) (H' : Hp), But d c H H' → Deck H' d c t' → t' ≤ t + 40 → TdR H' (wayT w) v → 1 ≤ w.length → w.length ≤ 40 → (∀ z ∈ w, smC z) → Q v H'
def cellD (c : Int × Int) : PyData := .tuple [.int c.1, .int c.2]
theorem pd_cell (c : Int × Int) : pd (cellT c) = cellD c := by
  unfold cellT cellD
  rw [pd, pdL, pd, pdL, pd, pdL]
theorem cell_sh (c : Int × Int) : SeqAt.shaped (cellD c) = true := by
  unfold SeqAt.shaped cellD
  simp [PyData.canLay0, PyData.canLayAll0, PyData.depth, PyData.depthAll]
theorem cell_eqv (a b : Int × Int) : PyData.eqv (cellD a) (cellD b) = decide (a = b) := by
  unfold cellD
  rw [PyData.eqv, PyData.eqvAll, PyData.eqvAll, PyData.eqvAll, PyData.eqv, PyData.eqv]
  by_cases h : a = b
  · subst h
    simp
  · rw [decide_eq_false h]
    obtain ⟨a1, a2⟩ := a
    obtain ⟨b1, b2⟩ := b
    dsimp only
    by_cases h1 : a1 = b1
    · by_cases h2 : a2 = b2
      · exact absurd (by rw [h1, h2]) h
      · simp [h2]
    · simp [h1]
structure WI (d c L : Addr) (H G : Hp) (hA : Addr) (hc : Int × Int) (vs : List V) (w : Way) (t : Nat) : Prop where
  but : But d c H G
  dk : Deck G d c t
  eL : G L = some (.lst vs)
  al : All2 G (w.map cellT) vs
  eh : G hA = some (.tup (cV hc))
  on : on9 hc
  sm : ∀ z ∈ w, smC z
  l1 : L ≠ d
  l2 : L ≠ c
  l0 : H L = none
theorem WI.step {d c L : Addr} {H G G2 : Hp} {hA : Addr} {hc : Int × Int} {vs : List V} {w : Way} {t t2 : Nat} (h : WI d c L H G hA hc vs w t) (b : But d c G G2) (k : Deck G2 d c t2) : WI d c L H G2 hA hc vs w t2 := by
  have tk := TK.but h.dk b
  exact ⟨h.but.trans b, k, b L _ h.l1 h.l2 h.eL, h.al.keep tk, tk _ _ h.eh, h.on, h.sm, h.l1, h.l2, h.l0⟩
theorem WI.same {d c L : Addr} {H G G2 : Hp} {hA : Addr} {hc : Int × Int} {vs : List V} {w : Way} {t : Nat} (h : WI d c L H G hA hc vs w t) (b : Same G G2) : WI d c L H G2 hA hc vs w t := h.step (But.of b) (h.dk.same b)
/-- another cell -/
theorem WI.go {d c L : Addr} {H G : Hp} {hA hB : Addr} {hc hd : Int × Int} {vs : List V} {w : Way} {t : Nat} (h : WI d c L H G hA hc vs w t) (e : G hB = some (.tup (cV hd))) (o : on9 hd) : WI d c L H (upd G L (.lst (vs ++ [.ref hB]))) hB hd (vs ++ [.ref hB]) (w ++ [hd]) t := by
  have tk : TK G (upd G L (.lst (vs ++ [.ref hB]))) := TK.lst (TK.same (Same.refl G)) h.eL
  refine ⟨h.but.mut h.l0, h.dk.mut h.l1.symm h.l2.symm, upd_same, ?_, tk _ _ e, o, ?_, h.l1, h.l2, h.l0⟩
  · rw [List.map_append]
    exact All2.snoc (h.al.keep tk) ((cell_td e).keep tk)
  · intro z hz
    rcases List.mem_append.mp hz with hz | hz
    · exact h.sm z hz
    · rw [List.mem_singleton.mp hz]
      exact on9_sm o
def far (a b : Int × Int) : Nat := (a.1 - b.1).natAbs + (a.2 - b.2).natAbs
theorem sg_at (x y : Int) : ∃ sg : Int, atI [V.int 1, .int (-1)] (if decide (x < y) = true then 1 else 0) = some (.int sg) ∧ ((x < y ∧ sg = -1) ∨ (¬ x < y ∧ sg = 1)) := by
  by_cases h : x < y
  · exact ⟨-1, by rw [decide_eq_true h]; rfl, .inl ⟨h, rfl⟩⟩
  · exact ⟨1, by rw [decide_eq_false h]; rfl, .inr ⟨h, rfl⟩⟩
theorem prod_small {r1 r2 : Int} (a1 : 0 ≤ r1) (b1 : r1 < 3) (a2 : 0 ≤ r2) (b2 : r2 < 2) : 0 ≤ r1 * r2 ∧ r1 * r2 ≤ 2 := by
  have h : r2 = 0 ∨ r2 = 1 := by omega
  rcases h with rfl | rfl
  · rw [Int.mul_zero]
    decide
  · rw [Int.mul_one]
    omega
section
variable {P : Program} {w : World} {K : PySem.W.Frag} {mg : Str → Option Value} {base : Heap}
theorem ok_l_way {f : Addr} {fd : FuncData} (D : DefAt K mg "_law_way" ["_law_deck_here", "_law_first", "_law_last"] s_l_way f fd) (M : Bi mg)
    (C_l_draw : Cal P w K mg base L2.CX0 1 "_law_draw" ["_law_deck_here", "_law_sides"] spDraw) :
    Cal P w K mg base L2.CX0 2 "_law_way" ["_law_deck_here", "_law_first", "_law_last"] spWay := by
  have S := S_l_way
  refine cal_of D.fn D.mgf D.bs D.kbs S (fun vs H Q E h => ?_) (fun cdv A outer s H vs Q E hq hr h => ?_)
  · obtain ⟨d, c, F, T, t, a, b, rfl, _⟩ := h
    rfl
  · obtain ⟨d, c, F, T, t, a, b, rfl, dk, ht, eF, eT, oa, ob, q⟩ := h
    refine ⟨_, (pss_cons (ps_par (i := 3) (j := 4) rfl S.nd rfl rfl (by decide) rfl rfl (pa_cons (pe_lst (pa_cons (pv 1) pa_nil)) (pa_cons (pv 1) pa_nil)) (by rfl))
 (pss_cons (ps_for PassesOwn.never rfl (pi_range1 (by rfl) M.range_ (pa_cons (pe_op op_mulB (pe_c C_l_draw pass0 hq hr (by omega) (by rfl) (pa_cons (pv 0) (pa_cons pe_int pa_nil))) (pe_c C_l_draw pass0 hq hr (by omega) (by rfl) (pa_cons (pv 0) (pa_cons pe_int pa_nil)))) pa_nil)) (pg_name (i := 5) S.nd rfl (.inl rfl))
  (pss_cons (ps_asg (pe_ix ix_list (pe_lst (pa_cons (pe_tup (pa_cons pe_int (pa_cons pe_int pa_nil))) (pa_cons (pe_tup (pa_cons pe_int (pa_cons pe_int pa_nil))) (pa_cons (pe_tup (pa_cons pe_int (pa_cons (pe_un un_neg pe_int) pa_nil))) (pa_cons (pe_tup (pa_cons (pe_un un_neg pe_int) (pa_cons pe_int pa_nil))) pa_nil))))) (pe_c C_l_draw pass0 hq hr (by omega) (by rfl) (pa_cons (pv 0) (pa_cons pe_int pa_nil))) (fun _ _ => rfl)) (pg_tup (by rfl) (pgs_cons (pg_name (i := 6) S.nd rfl (.inl rfl)) (pgs_cons (pg_name (i := 7) S.nd rfl (.inl rfl)) pgs_nil))))
 (pss_one (ps_if (PW.pt (pw_and (pt_chain op_le op_lt pe_int (pe_op op_add (pe_ix ix_tup (pv 4) pe_int (fun _ _ => rfl)) (pv 6)) pe_int) (pw_and1 (pt_chain op_le op_lt pe_int (pe_op op_add (pe_ix ix_tup (pv 4) pe_int (fun _ _ => rfl)) (pv 7)) pe_int))))
  (pss_cons (ps_set (i := 4) S.nd rfl (.inl rfl) (pe_tup (pa_cons (pe_op op_add (pe_ix ix_tup (pv 4) pe_int (fun _ _ => rfl)) (pv 6)) (pa_cons (pe_op op_add (pe_ix ix_tup (pv 4) pe_int (fun _ _ => rfl)) (pv 7)) pa_nil))))
 (pss_one (ps_expr (pe_bm PySem.F.plainAttrs_list PySem.F.slot_list_append PySem.F.type_list_append mt_append (pv 3) (pa_cons (pv 4) pa_nil)))))
  pss_nil))))
 (pss_cons (ps_while PassesOwn.never (pt_cmpR (op_neD hr.units) (pv 4) (pv 2) (nomark _))
  (C8.pss_cut (ps_if (PW.pt (pw_and (pt_cmpR op_ne (pe_ix ix_tup (pv 4) pe_int (fun _ _ => rfl)) (pe_ix ix_tup (pv 2) pe_int (fun _ _ => rfl)) (nomark _)) (pw_and1 (PW.pt (pw_or (pt_cmpR op_eq (pe_ix ix_tup (pv 4) pe_int (fun _ _ => rfl)) (pe_ix ix_tup (pv 2) pe_int (fun _ _ => rfl)) (nomark _)) (pw_or1 (pt_cmpR op_eq (pe_c C_l_draw pass0 hq hr (by omega) (by rfl) (pa_cons (pv 0) (pa_cons pe_int pa_nil))) pe_int (nomark _))))))))
  (pss_one (ps_set (i := 4) S.nd rfl (.inl rfl) (pe_tup (pa_cons (pe_op op_add (pe_ix ix_tup (pv 4) pe_int (fun _ _ => rfl)) (pe_ix ix_list (pe_lst (pa_cons pe_int (pa_cons (pe_un un_neg pe_int) pa_nil))) (pe_callTy call_int1 (by rfl) M.int_ (by decide +kernel) (pa_cons (pe_cmpR op_lt (pe_ix ix_tup (pv 2) pe_int (fun _ _ => rfl)) (pe_ix ix_tup (pv 4) pe_int (fun _ _ => rfl)) (nomark _)) pa_nil)) (fun _ _ => rfl))) (pa_cons (pe_ix ix_tup (pv 4) pe_int (fun _ _ => rfl)) pa_nil)))))
  (pss_one (ps_set (i := 4) S.nd rfl (.inl rfl) (pe_tup (pa_cons (pe_ix ix_tup (pv 4) pe_int (fun _ _ => rfl)) (pa_cons (pe_op op_add (pe_ix ix_tup (pv 4) pe_int (fun _ _ => rfl)) (pe_ix ix_list (pe_lst (pa_cons pe_int (pa_cons (pe_un un_neg pe_int) pa_nil))) (pe_callTy call_int1 (by rfl) M.int_ (by decide +kernel) (pa_cons (pe_cmpR op_lt (pe_ix ix_tup (pv 2) pe_int (fun _ _ => rfl)) (pe_ix ix_tup (pv 4) pe_int (fun _ _ => rfl)) (nomark _)) pa_nil)) (fun _ _ => rfl))) pa_nil))))))
 (pss_one (ps_expr (pe_bm PySem.F.plainAttrs_list PySem.F.slot_list_append PySem.F.type_list_append mt_append (pv 3) (pa_cons (pv 4) pa_nil))))))
 (pss_one (ps_ret (pe_callTy call_tuple_of (by rfl) M.tuple_ (by decide +kernel) (pa_cons (pv 3) pa_nil))))))), ?_⟩
    refine ⟨.ref F, rfl, (by decide : (1 : Nat) ≤ sizeLine), fun L nL => ?_⟩
    generalize hU : upd _ L _ = U
    have sU : Same H U := hU ▸ same_new nL
    have eL : U L = some _ := hU ▸ upd_same
    obtain ⟨l1, l2⟩ := dk.free nL
    have wi0 : WI d c L H U F a [.ref F] [a] t := ⟨But.of sU, dk.same sU, eL, .cons (cell_td (sU _ _ eF)) .nil, sU _ _ eF, oa, fun z hz => by rw [List.mem_singleton.mp hz]; exact on9_sm oa, l1, l2, nL⟩
    refine ⟨.ref F, rfl, _, _, rfl, ?_⟩
    refine ⟨.ref d, rfl, d, c, 3, t, rfl, by decide, by decide, wi0.dk, by omega, fun r1 G1 a1 b1 k1 dk1 => ?_⟩
    refine ⟨.ref d, rfl, d, c, 2, t + 1, rfl, by decide, by decide, dk1, by omega, fun r2 G2 a2 b2 k2 dk2 => ?_⟩
    obtain ⟨p1, p2⟩ := prod_small a1 b1 a2 b2
    refine ⟨_, _, rfl, rfl, .of_left (intBits_le_64 (by omega) (by omega)), _, rfl, by omega, by omega, ?_⟩
    have wi2 := (wi0.step k1 dk1).step k2 dk2
    have ln : (r1 * r2).toNat ≤ 2 := by omega
    generalize (r1 * r2).toNat = n at ln
    refine for_range (lo := 0) (n := n) (fun i σ G => ∃ (hA : Addr) (hc : Int × Int) (vs : List V) (w : Way) (t' : Nat), WI d c L H G hA hc vs w t' ∧ t' ≤ t + 2 + i ∧ w.length ≤ 1 + i ∧ 1 ≤ w.length ∧ ∃ x5 x6 x7 : Option V,
      σ = [some (.ref d), some (.ref F), some (.ref T), some (.ref L), some (.ref hA), x5, x6, x7]) ?_ ?_ ?_
    · exact ⟨F, a, _, [a], t + 2, wi2, Nat.le_refl _, Nat.le_refl _, Nat.le_refl _, none, none, none, rfl⟩
    · rintro i σ G hi ⟨hA, hc, vs, w, t', wi, lt, lw, lw1, x5, x6, x7, rfl⟩
      refine ⟨(by decide : (2 : Nat) ≤ sizeLine), fun u1 nu1 => ?_⟩
      generalize hU1 : upd _ u1 _ = U1
      have s1 : Same G U1 := hU1 ▸ same_new nu1
      have o1 : U1 u1 = some (.tup (cV (0, 1))) := hU1 ▸ upd_same
      refine ⟨(by decide : (2 : Nat) ≤ sizeLine), fun u2 nu2 => ?_⟩
      generalize hU2 : upd _ u2 _ = U2
      have s2 : Same U1 U2 := hU2 ▸ same_new nu2
      have o2 : U2 u2 = some (.tup (cV (1, 0))) := hU2 ▸ upd_same
      refine ⟨_, rfl, (by decide : (2 : Nat) ≤ sizeLine), fun u3 nu3 => ?_⟩
      generalize hU3 : upd _ u3 _ = U3
      have s3 : Same U2 U3 := hU3 ▸ same_new nu3
      have o3 : U3 u3 = some (.tup (cV (0, -1))) := hU3 ▸ upd_same
      refine ⟨_, rfl, (by decide : (2 : Nat) ≤ sizeLine), fun u4 nu4 => ?_⟩
      generalize hU4 : upd _ u4 _ = U4
      have s4 : Same U3 U4 := hU4 ▸ same_new nu4
      have o4 : U4 u4 = some (.tup (cV (-1, 0))) := hU4 ▸ upd_same
      refine ⟨(by decide : (4 : Nat) ≤ sizeLine), fun u5 nu5 => ?_⟩
      generalize hU5 : upd _ u5 _ = U5
      have s5 : Same U4 U5 := hU5 ▸ same_new nu5
      have o5 : U5 u5 = some _ := hU5 ▸ upd_same
      have wi5 := ((((wi.same s1).same s2).same s3).same s4).same s5
      have f5 := (((((wi.dk.same s1).same s2).same s3).same s4)).free nu5
      refine ⟨.ref d, rfl, d, c, 4, t', rfl, by decide, by decide, wi5.dk, by omega, fun rr G3 ar br k3 dk3 => ?_⟩
      have wi6 := wi5.step k3 dk3
      have pk : ∃ (u : Addr) (dr : Int × Int), atI [V.ref u1, V.ref u2, V.ref u3, V.ref u4] rr = some (.ref u) ∧ G3 u = some (.tup (cV dr)) := by
        have tk := TK.but wi5.dk k3
        obtain ⟨n, rfl⟩ : ∃ n : Nat, rr = (n : Int) := ⟨rr.toNat, by omega⟩
        match n, br with
        | 0, _ => exact ⟨u1, _, rfl, tk _ _ (s5 _ _ (s4 _ _ (s3 _ _ (s2 _ _ o1))))⟩
        | 1, _ => exact ⟨u2, _, rfl, tk _ _ (s5 _ _ (s4 _ _ (s3 _ _ o2)))⟩
        | 2, _ => exact ⟨u3, _, rfl, tk _ _ (s5 _ _ (s4 _ _ o3))⟩
        | 3, _ => exact ⟨u4, _, rfl, tk _ _ (s5 _ _ o4)⟩
        | n + 4, h => omega
      obtain ⟨u, dr, hat, eu⟩ := pk
      refine ⟨u5, _, _, _, rfl, rfl, .inl (.inl (k3 u5 _ f5.1 f5.2 o5)), hat, u, _, rfl, .inl (.inl eu), rfl, _, _, rfl, _, _, rfl, rfl, ?_⟩
      refine ⟨.ref hA, rfl, hA, _, _, _, rfl, rfl, .inl (.inl wi6.eh), atI_nat (j := 0) rfl, .int dr.1, rfl, _, _, rfl, rfl, _, _, rfl, rfl, _, rfl, ?_⟩
      have lv : vs.length = w.length := by rw [← wi6.al.1, List.length_map]
      have lvs : vs.length < sizeLine := by
        have : 10 < sizeLine := by decide
        omega
      by_cases h1 : 0 ≤ hc.1 + dr.1
      · rw [decide_eq_true h1]
        refine iteT ?_
        refine ⟨_, _, rfl, rfl, _, rfl, ?_⟩
        by_cases h2 : hc.1 + dr.1 < 9
        · rw [decide_eq_true h2]
          refine iteT ?_
          refine ⟨.ref hA, rfl, hA, _, _, _, rfl, rfl, .inl (.inl wi6.eh), atI_nat (j := 1) rfl, .int dr.2, rfl, _, _, rfl, rfl, _, _, rfl, rfl, _, rfl, ?_⟩
          by_cases h3 : 0 ≤ hc.2 + dr.2
          · rw [decide_eq_true h3]
            refine iteT ?_
            refine ⟨_, _, rfl, rfl, _, rfl, ?_⟩
            by_cases h4 : hc.2 + dr.2 < 9
            · rw [decide_eq_true h4]
              refine iteT ?_
              refine ⟨.ref hA, rfl, hA, _, _, _, rfl, rfl, .inl (.inl wi6.eh), atI_nat (j := 0) rfl, .int dr.1, rfl, _, _, rfl, rfl, .ref hA, rfl, hA, _, _, _, rfl, rfl, .inl (.inl wi6.eh), atI_nat (j := 1) rfl, .int dr.2, rfl, _, _, rfl, rfl, (by decide : (2 : Nat) ≤ sizeLine), fun p np => ?_⟩
              generalize hV : upd _ p _ = V1
              have sV : Same G3 V1 := hV ▸ same_new np
              have oV : V1 p = some (.tup (cV (hc.1 + dr.1, hc.2 + dr.2))) := hV ▸ upd_same
              have wi7 := wi6.same sV
              refine ⟨.ref L, rfl, .inl ⟨rfl, _, .inl (.inl wi7.eL)⟩, .ref p, rfl, L, _, _, rfl, rfl, wi7.eL, lvs, ?_⟩
              exact ⟨p, _, _, _, t' + 1, wi7.go oV ⟨⟨h1, h2⟩, h3, h4⟩, by omega, by rw [List.length_append]; show w.length + 1 ≤ _; omega, by rw [List.length_append]; show 1 ≤ w.length + 1; omega, _, _, _, rfl⟩
            · rw [decide_eq_false h4]
              refine iteF ?_
              exact ⟨hA, hc, vs, w, t' + 1, wi6, by omega, by omega, lw1, _, _, _, rfl⟩
          · rw [decide_eq_false h3]
            refine iteF ?_
            refine ⟨_, rfl, ?_⟩
            refine iteF ?_
            exact ⟨hA, hc, vs, w, t' + 1, wi6, by omega, by omega, lw1, _, _, _, rfl⟩
        · rw [decide_eq_false h2]
          refine iteF ?_
          refine iteF ?_
          exact ⟨hA, hc, vs, w, t' + 1, wi6, by omega, by omega, lw1, _, _, _, rfl⟩
      · rw [decide_eq_false h1]
        refine iteF ?_
        refine ⟨_, rfl, ?_⟩
        refine iteF ?_
        refine iteF ?_
        exact ⟨hA, hc, vs, w, t' + 1, wi6, by omega, by omega, lw1, _, _, _, rfl⟩
    · rintro σ G ⟨hA, hc, vs, w, t', wi, lt, lw, lw1, x5, x6, x7, rfl⟩
      have fb : far hc b ≤ 16 := by
        have h1 := wi.on
        unfold far
        obtain ⟨⟨_, _⟩, _, _⟩ := h1
        obtain ⟨⟨_, _⟩, _, _⟩ := ob
        omega
      refine ⟨fun m σ G => ∃ (hA : Addr) (hc : Int × Int) (vs : List V) (w : Way) (t' : Nat), WI d c L H G hA hc vs w t' ∧ m = far hc b ∧ t' + m ≤ t + 20 ∧ w.length + m ≤ 19 ∧ 1 ≤ w.length ∧ ∃ x5 x6 x7 : Option V,
        σ = [some (.ref d), some (.ref F), some (.ref T), some (.ref L), some (.ref hA), x5, x6, x7], ⟨far hc b, hA, hc, vs, w, t', wi, rfl, by omega, by omega, lw1, x5, x6, x7, rfl⟩, ?_⟩
      rintro m σ G ⟨hA, hc, vs, w, t', wi, rfl, lt, lw, lw1, x5, x6, x7, rfl⟩
      have eT1 : G T = some (.tup (cV b)) := TK.but dk wi.but _ _ eT
      have dp1 := dp_of (K := K) (cell_td wi.eh)
      have dp2 := dp_of (K := K) (cell_td eT1)
      rw [pd_cell] at dp1 dp2
      refine ⟨.ref hA, rfl, .ref T, rfl, _, _, dp1, dp2, cell_sh _, cell_sh _, _, rfl, ?_⟩
      rw [cell_eqv]
      by_cases hne : hc = b
      · rw [decide_eq_true hne]
        refine iteF ?_
        refine ⟨.ref L, rfl, L, vs, rfl, .inl ⟨.inl (.inl wi.eL), fun p np => ?_⟩⟩
        generalize hV : upd _ p _ = V1
        have sV : Same G V1 := hV ▸ same_new np
        have oV : V1 p = some _ := hV ▸ upd_same
        have wi2 := wi.same sV
        exact q _ w t' V1 wi2.but wi2.dk (by omega) (.mk oV wi2.al) lw1 (by omega) wi2.sm
      · rw [decide_eq_false hne]
        refine iteT ?_
        refine ⟨fun σ' H' => ∃ m', m' < far hc b ∧ _, fun σ' H' h => h, ?_⟩
        have lv : vs.length = w.length := by rw [← wi.al.1, List.length_map]
        have lvs : vs.length < sizeLine := by
          have : 40 < sizeLine := by decide
          omega
        have hne2 : ¬ (hc.1 = b.1 ∧ hc.2 = b.2) := fun z => hne (Prod.ext z.1 z.2)
        refine ⟨fun σ' G' => ∃ (hB : Addr) (hd : Int × Int) (t2 : Nat), WI d c L H G' hA hc vs w t2 ∧ G' hB = some (.tup (cV hd)) ∧ on9 hd ∧ far hd b + 1 = far hc b ∧ t2 ≤ t' + 1 ∧ ∃ x5 x6 x7 : Option V,
          σ' = [some (.ref d), some (.ref F), some (.ref T), some (.ref L), some (.ref hB), x5, x6, x7], ?_, ?_⟩
        · refine ⟨.ref hA, rfl, hA, _, _, _, rfl, rfl, .inl (.inl wi.eh), atI_nat (j := 0) rfl, .ref T, rfl, T, _, _, _, rfl, rfl, .inl (.inl eT1), atI_nat (j := 0) rfl, rfl, _, rfl, ?_⟩
          by_cases f1 : hc.1 = b.1
          · rw [decide_eq_true (by rw [f1])]
            refine iteF ?_
            refine iteF ?_
            refine ⟨.ref hA, rfl, hA, _, _, _, rfl, rfl, .inl (.inl wi.eh), atI_nat (j := 0) rfl, .ref hA, rfl, hA, _, _, _, rfl, rfl, .inl (.inl wi.eh), atI_nat (j := 1) rfl, _, rfl, (by decide : (2 : Nat) ≤ sizeLine), fun q1 nq1 => ?_⟩
            generalize hA1 : upd _ q1 _ = A1
            have sA : Same _ A1 := hA1 ▸ same_new nq1
            have oA : A1 q1 = some _ := hA1 ▸ upd_same
            have wiA := wi.same sA
            have eTA : A1 T = some (.tup (cV b)) := TK.but dk wiA.but _ _ eT
            obtain ⟨sg, hsg, hs⟩ := sg_at b.2 hc.2
            refine ⟨.ref T, rfl, T, _, _, _, rfl, rfl, .inl (.inl eTA), atI_nat (j := 1) rfl, .ref hA, rfl, hA, _, _, _, rfl, rfl, .inl (.inl wiA.eh), atI_nat (j := 1) rfl, _, _, rfl, rfl, .inr ⟨_, rfl, ?_⟩⟩
            refine ⟨q1, _, _, _, rfl, rfl, .inl (.inl oA), hsg, _, _, rfl, rfl, (by decide : (2 : Nat) ≤ sizeLine), fun p np => ?_⟩
            generalize hV : upd _ p _ = V1
            have sV : Same A1 V1 := hV ▸ same_new np
            have oV : V1 p = some (.tup (cV (hc.1, hc.2 + sg))) := hV ▸ upd_same
            have h9 := wi.on
            obtain ⟨⟨i1, i2⟩, i3, i4⟩ := h9
            obtain ⟨⟨j1, j2⟩, j3, j4⟩ := ob
            refine ⟨p, (hc.1, hc.2 + sg), t', wiA.same sV, oV, ⟨⟨?_, ?_⟩, ?_, ?_⟩, ?_, Nat.le_succ _, x5, x6, x7, rfl⟩ <;> (try unfold far) <;> dsimp only <;> omega
          · rw [decide_eq_false (show ¬ V.int hc.1 = V.int b.1 from fun z => f1 (V.int.inj z))]
            refine iteT ?_
            refine ⟨.ref hA, rfl, hA, _, _, _, rfl, rfl, .inl (.inl wi.eh), atI_nat (j := 1) rfl, .ref T, rfl, T, _, _, _, rfl, rfl, .inl (.inl eT1), atI_nat (j := 1) rfl, rfl, _, rfl, ?_⟩
            by_cases f2 : hc.2 = b.2
            · rw [decide_eq_true (by rw [f2])]
              refine iteT ?_
              refine iteT ?_
              refine ⟨.ref hA, rfl, hA, _, _, _, rfl, rfl, .inl (.inl wi.eh), atI_nat (j := 0) rfl, _, rfl, (by decide : (2 : Nat) ≤ sizeLine), fun q1 nq1 => ?_⟩
              generalize hA1 : upd _ q1 _ = A1
              have sA : Same _ A1 := hA1 ▸ same_new nq1
              have oA : A1 q1 = some _ := hA1 ▸ upd_same
              have wiA := wi.same sA
              have eTA : A1 T = some (.tup (cV b)) := TK.but dk wiA.but _ _ eT
              obtain ⟨sg, hsg, hs⟩ := sg_at b.1 hc.1
              refine ⟨.ref T, rfl, T, _, _, _, rfl, rfl, .inl (.inl eTA), atI_nat (j := 0) rfl, .ref hA, rfl, hA, _, _, _, rfl, rfl, .inl (.inl wiA.eh), atI_nat (j := 0) rfl, _, _, rfl, rfl, .inr ⟨_, rfl, ?_⟩⟩
              refine ⟨q1, _, _, _, rfl, rfl, .inl (.inl oA), hsg, _, _, rfl, rfl, .ref hA, rfl, hA, _, _, _, rfl, rfl, .inl (.inl wiA.eh), atI_nat (j := 1) rfl, (by decide : (2 : Nat) ≤ sizeLine), fun p np => ?_⟩
              generalize hV : upd _ p _ = V1
              have sV : Same A1 V1 := hV ▸ same_new np
              have oV : V1 p = some (.tup (cV (hc.1 + sg, hc.2))) := hV ▸ upd_same
              have h9 := wi.on
              obtain ⟨⟨i1, i2⟩, i3, i4⟩ := h9
              obtain ⟨⟨j1, j2⟩, j3, j4⟩ := ob
              refine ⟨p, (hc.1 + sg, hc.2), t', wiA.same sV, oV, ⟨⟨?_, ?_⟩, ?_, ?_⟩, ?_, Nat.le_succ _, x5, x6, x7, rfl⟩ <;> (try unfold far) <;> dsimp only <;> omega
            · rw [decide_eq_false (show ¬ V.int hc.2 = V.int b.2 from fun z => f2 (V.int.inj z))]
              refine iteF ?_
              refine ⟨.ref d, rfl, d, c, 2, t', rfl, by decide, by decide, wi.dk, by omega, fun rr G3 ar br k3 dk3 => ?_⟩
              have wi3 := wi.step k3 dk3
              refine ⟨rfl, _, rfl, ?_⟩
              by_cases f3 : rr = 0
              · rw [decide_eq_true (by rw [f3])]
                refine iteT ?_
                refine ⟨.ref hA, rfl, hA, _, _, _, rfl, rfl, .inl (.inl wi3.eh), atI_nat (j := 0) rfl, _, rfl, (by decide : (2 : Nat) ≤ sizeLine), fun q1 nq1 => ?_⟩
                generalize hA1 : upd _ q1 _ = A1
                have sA : Same _ A1 := hA1 ▸ same_new nq1
                have oA : A1 q1 = some _ := hA1 ▸ upd_same
                have wiA := wi3.same sA
                have eTA : A1 T = some (.tup (cV b)) := TK.but dk wiA.but _ _ eT
                obtain ⟨sg, hsg, hs⟩ := sg_at b.1 hc.1
                refine ⟨.ref T, rfl, T, _, _, _, rfl, rfl, .inl (.inl eTA), atI_nat (j := 0) rfl, .ref hA, rfl, hA, _, _, _, rfl, rfl, .inl (.inl wiA.eh), atI_nat (j := 0) rfl, _, _, rfl, rfl, .inr ⟨_, rfl, ?_⟩⟩
                refine ⟨q1, _, _, _, rfl, rfl, .inl (.inl oA), hsg, _, _, rfl, rfl, .ref hA, rfl, hA, _, _, _, rfl, rfl, .inl (.inl wiA.eh), atI_nat (j := 1) rfl, (by decide : (2 : Nat) ≤ sizeLine), fun p np => ?_⟩
                generalize hV : upd _ p _ = V1
                have sV : Same A1 V1 := hV ▸ same_new np
                have oV : V1 p = some (.tup (cV (hc.1 + sg, hc.2))) := hV ▸ upd_same
                have h9 := wi3.on
                obtain ⟨⟨i1, i2⟩, i3, i4⟩ := h9
                obtain ⟨⟨j1, j2⟩, j3, j4⟩ := ob
                refine ⟨p, (hc.1 + sg, hc.2), t' + 1, wiA.same sV, oV, ⟨⟨?_, ?_⟩, ?_, ?_⟩, ?_, Nat.le_refl _, x5, x6, x7, rfl⟩ <;> (try unfold far) <;> dsimp only <;> omega
              · rw [decide_eq_false (show ¬ V.int rr = V.int 0 from fun z => f3 (V.int.inj z))]
                refine iteF ?_
                refine ⟨.ref hA, rfl, hA, _, _, _, rfl, rfl, .inl (.inl wi3.eh), atI_nat (j := 0) rfl, .ref hA, rfl, hA, _, _, _, rfl, rfl, .inl (.inl wi3.eh), atI_nat (j := 1) rfl, _, rfl, (by decide : (2 : Nat) ≤ sizeLine), fun q1 nq1 => ?_⟩
                generalize hA1 : upd _ q1 _ = A1
                have sA : Same _ A1 := hA1 ▸ same_new nq1
                have oA : A1 q1 = some _ := hA1 ▸ upd_same
                have wiA := wi3.same sA
                have eTA : A1 T = some (.tup (cV b)) := TK.but dk wiA.but _ _ eT
                obtain ⟨sg, hsg, hs⟩ := sg_at b.2 hc.2
                refine ⟨.ref T, rfl, T, _, _, _, rfl, rfl, .inl (.inl eTA), atI_nat (j := 1) rfl, .ref hA, rfl, hA, _, _, _, rfl, rfl, .inl (.inl wiA.eh), atI_nat (j := 1) rfl, _, _, rfl, rfl, .inr ⟨_, rfl, ?_⟩⟩
                refine ⟨q1, _, _, _, rfl, rfl, .inl (.inl oA), hsg, _, _, rfl, rfl, (by decide : (2 : Nat) ≤ sizeLine), fun p np => ?_⟩
                generalize hV : upd _ p _ = V1
                have sV : Same A1 V1 := hV ▸ same_new np
                have oV : V1 p = some (.tup (cV (hc.1, hc.2 + sg))) := hV ▸ upd_same
                have h9 := wi3.on
                obtain ⟨⟨i1, i2⟩, i3, i4⟩ := h9
                obtain ⟨⟨j1, j2⟩, j3, j4⟩ := ob
                refine ⟨p, (hc.1, hc.2 + sg), t' + 1, wiA.same sV, oV, ⟨⟨?_, ?_⟩, ?_, ?_⟩, ?_, Nat.le_refl _, x5, x6, x7, rfl⟩ <;> (try unfold far) <;> dsimp only <;> omega
        · rintro σ' G' ⟨hB, hd, t2, wi2, eB, o2, fd2, lt2, x5, x6, x7, rfl⟩
          refine ⟨.ref L, rfl, .inl ⟨rfl, _, .inl (.inl wi2.eL)⟩, .ref hB, rfl, L, _, _, rfl, rfl, wi2.eL, lvs, ?_⟩
          exact ⟨far hd b, by omega, hB, hd, _, _, t2, wi2.go eB o2, rfl, by omega, by rw [List.length_append]; show w.length + 1 + _ ≤ 19; omega, by rw [List.length_append]; show 1 ≤ w.length + 1; omega, x5, x6, x7, rfl⟩
end
end K53

namespace K53
open PySem PySem.Spec PyProof.Rows L2 Kit
/-! ### the law's own: there and back; delays -/
def spBack : Sp := fun vs H Q _ => ∃ (d c F : Addr) (t : Nat) (a : Int × Int), vs = [.ref d, .ref F] ∧ Deck H d c t ∧ t < 10000000 ∧ H F = some (.tup (cV a)) ∧ on9 a ∧
  ∀ (v : V) (w : Way) (t' : Nat) (H' : Hp), But d c H H' → Deck H' d c t' → t' ≤ t + 40 → TdR H' (wayT w) v → 1 ≤ w.length → w.length ≤ 40 → (∀ z ∈ w, smC z) → Q v H'
def spDel (K : PySem.W.Frag) : Sp := fun vs H Q _ => ∃ (d c : Addr) (t : Nat), vs = [.ref d] ∧ Deck H d c t ∧ t < 10000000 ∧
  ∀ (p : Addr) (o : Own) (t' : Nat) (H' : Hp), But d c H H' → Deck H' d c t' → t' ≤ t + 40 → H' p = some (.tup (ownV o)) → o.few → Q (.ref p) H'
theorem eq8_at (x : Int) : ∃ sg : Int, atI [V.int 1, .int (-1)] (if decide (V.int x = V.int 8) = true then 1 else 0) = some (.int sg) ∧ ((x = 8 ∧ sg = -1) ∨ (x ≠ 8 ∧ sg = 1)) := by
  by_cases h : x = 8
  · exact ⟨-1, by rw [decide_eq_true (by rw [h])]; rfl, .inl ⟨h, rfl⟩⟩
  · exact ⟨1, by rw [decide_eq_false (show ¬ V.int x = V.int 8 from fun z => h (V.int.inj z))]; rfl, .inr ⟨h, rfl⟩⟩
section
variable {P : Program} {w : World} {K : PySem.W.Frag} {mg : Str → Option Value} {base : Heap}
theorem ok_l_back {f : Addr} {fd : FuncData} (D : DefAt K mg "_law_there_and_back" ["_law_deck_here", "_law_cell"] s_l_there_and_back f fd) (M : Bi mg)
    (C_l_draw : Cal P w K mg base L2.CX0 1 "_law_draw" ["_law_deck_here", "_law_sides"] spDraw) :
    Cal P w K mg base L2.CX0 2 "_law_there_and_back" ["_law_deck_here", "_law_cell"] spBack := by
  have S := S_l_there_and_back
  refine cal_of D.fn D.mgf D.bs D.kbs S (fun vs H Q E h => ?_) (fun cdv A outer s H vs Q E hq hr h => ?_)
  · obtain ⟨d, c, F, t, a, rfl, _⟩ := h
    rfl
  · obtain ⟨d, c, F, t, a, rfl, dk, ht, eF, oa, q⟩ := h
    refine ⟨_, (pss_cons (ps_set (i := 2) S.nd rfl (.inl rfl) (pe_tup (pa_cons (pe_ix ix_tup (pv 1) pe_int (fun _ _ => rfl)) (pa_cons (pe_op op_add (pe_ix ix_tup (pv 1) pe_int (fun _ _ => rfl)) (pe_ix ix_list (pe_lst (pa_cons pe_int (pa_cons (pe_un un_neg pe_int) pa_nil))) (pe_callTy call_int1 (by rfl) M.int_ (by decide +kernel) (pa_cons (pe_cmpR op_eq (pe_ix ix_tup (pv 1) pe_int (fun _ _ => rfl)) pe_int (nomark _)) pa_nil)) (fun _ _ => rfl))) pa_nil))))
 (pss_one (ps_ret (pe_ix ix_list (pe_lst (pa_cons (pe_tup (pa_cons (pv 1) pa_nil)) (pa_cons (pe_tup (pa_cons (pv 1) (pa_cons (pv 2) (pa_cons (pv 1) pa_nil)))) (pa_cons (pe_tup (pa_cons (pv 1) (pa_cons (pv 2) (pa_cons (pv 1) (pa_cons (pv 2) (pa_cons (pv 1) pa_nil)))))) (pa_cons (pe_tup (pa_cons (pv 1) pa_nil)) pa_nil))))) (pe_c C_l_draw pass0 hq hr (by omega) (by rfl) (pa_cons (pv 0) (pa_cons pe_int pa_nil))) (fun _ _ => rfl))))), ?_⟩
    refine ⟨.ref F, rfl, F, _, _, _, rfl, rfl, .inl (.inl eF), atI_nat (j := 0) rfl, .ref F, rfl, F, _, _, _, rfl, rfl, .inl (.inl eF), atI_nat (j := 1) rfl, _, rfl, (by decide : (2 : Nat) ≤ sizeLine), fun u1 nu1 => ?_⟩
    generalize hW1 : upd _ u1 _ = W1
    have y1 : Same H W1 := hW1 ▸ same_new nu1
    have o1 : W1 u1 = some _ := hW1 ▸ upd_same
    have eF1 := y1 _ _ eF
    obtain ⟨sg, hsg, hs⟩ := eq8_at a.2
    refine ⟨.ref F, rfl, F, _, _, _, rfl, rfl, .inl (.inl eF1), atI_nat (j := 1) rfl, rfl, .inr ⟨_, rfl, ?_⟩⟩
    refine ⟨u1, _, _, _, rfl, rfl, .inl (.inl o1), hsg, _, _, rfl, rfl, (by decide : (2 : Nat) ≤ sizeLine), fun u2 nu2 => ?_⟩
    generalize hW2 : upd _ u2 _ = W2
    have y2 : Same W1 W2 := hW2 ▸ same_new nu2
    have o2 : W2 u2 = some (.tup (cV (a.1, a.2 + sg))) := hW2 ▸ upd_same
    have ob : on9 (a.1, a.2 + sg) := by
      obtain ⟨⟨_, _⟩, _, _⟩ := oa
      refine ⟨⟨?_, ?_⟩, ?_, ?_⟩ <;> dsimp only <;> omega
    refine ⟨.ref F, rfl, (by decide : (1 : Nat) ≤ sizeLine), fun u3 nu3 => ?_⟩
    generalize hW3 : upd _ u3 _ = W3
    have y3 : Same W2 W3 := hW3 ▸ same_new nu3
    have o3 : W3 u3 = some _ := hW3 ▸ upd_same
    refine ⟨.ref F, rfl, .ref u2, rfl, .ref F, rfl, (by decide : (3 : Nat) ≤ sizeLine), fun u4 nu4 => ?_⟩
    generalize hW4 : upd _ u4 _ = W4
    have y4 : Same W3 W4 := hW4 ▸ same_new nu4
    have o4 : W4 u4 = some _ := hW4 ▸ upd_same
    refine ⟨.ref F, rfl, .ref u2, rfl, .ref F, rfl, .ref u2, rfl, .ref F, rfl, (by decide : (5 : Nat) ≤ sizeLine), fun u5 nu5 => ?_⟩
    generalize hW5 : upd _ u5 _ = W5
    have y5 : Same W4 W5 := hW5 ▸ same_new nu5
    have o5 : W5 u5 = some _ := hW5 ▸ upd_same
    refine ⟨.ref F, rfl, (by decide : (1 : Nat) ≤ sizeLine), fun u6 nu6 => ?_⟩
    generalize hW6 : upd _ u6 _ = W6
    have y6 : Same W5 W6 := hW6 ▸ same_new nu6
    have o6 : W6 u6 = some _ := hW6 ▸ upd_same
    refine ⟨(by decide : (4 : Nat) ≤ sizeLine), fun u7 nu7 => ?_⟩
    generalize hW7 : upd _ u7 _ = W7
    have y7 : Same W6 W7 := hW7 ▸ same_new nu7
    have o7 : W7 u7 = some _ := hW7 ▸ upd_same
    have y17 := (((((y1.trans y2).trans y3).trans y4).trans y5).trans y6).trans y7
    have y37 := (((y3.trans y4).trans y5).trans y6).trans y7
    have dk7 := dk.same y17
    have fr := (dk.same (((((y1.trans y2).trans y3).trans y4).trans y5).trans y6)).free nu7
    refine ⟨.ref d, rfl, d, c, 4, t, rfl, by decide, by decide, dk7, by omega, fun rr G ar br k1 dk1 => ?_⟩
    have tk := TK.but dk7 k1
    have cF : TdR G (cellT a) (.ref F) := (cell_td (y17 _ _ eF)).keep tk
    have cB : TdR G (cellT (a.1, a.2 + sg)) (.ref u2) := (cell_td (y37 _ _ o2)).keep tk
    have e3 := tk _ _ (y7 _ _ (y6 _ _ (y5 _ _ (y4 _ _ o3))))
    have e4 := tk _ _ (y7 _ _ (y6 _ _ (y5 _ _ o4)))
    have e5 := tk _ _ (y7 _ _ (y6 _ _ o5))
    have e6 := tk _ _ (y7 _ _ o6)
    have bu : But d c H G := (But.of y17).trans k1
    have sa := on9_sm oa
    have sb := on9_sm ob
    obtain ⟨n, rfl⟩ : ∃ n : Nat, rr = (n : Int) := ⟨rr.toNat, by omega⟩
    have fin : ∀ (v : V) (w : Way), ([V.ref u3, V.ref u4, V.ref u5, V.ref u6] : List V)[n]? = some v → TdR G (wayT w) v → 1 ≤ w.length → w.length ≤ 40 → (∀ z ∈ w, smC z) → ∃ v, ([V.ref u3, V.ref u4, V.ref u5, V.ref u6] : List V)[n]? = some v ∧ Q v G :=
      fun v w h1 h2 h3 h4 h5 => ⟨v, h1, q v w (t + 1) G bu dk1 (by omega) h2 h3 h4 h5⟩
    have s1 : ∀ z ∈ [a], smC z := fun z hz => by
      rw [List.mem_singleton.mp hz]
      exact sa
    have s3 : ∀ z ∈ [a, (a.1, a.2 + sg), a], smC z := fun z hz => by
      simp only [List.mem_cons, List.not_mem_nil, or_false] at hz
      rcases hz with rfl | rfl | rfl <;> assumption
    have s5 : ∀ z ∈ [a, (a.1, a.2 + sg), a, (a.1, a.2 + sg), a], smC z := fun z hz => by
      simp only [List.mem_cons, List.not_mem_nil, or_false] at hz
      rcases hz with rfl | rfl | rfl | rfl | rfl <;> assumption
    have all : ∃ v, ([V.ref u3, V.ref u4, V.ref u5, V.ref u6] : List V)[n]? = some v ∧ Q v G := by
      have hn4 : n < 4 := by omega
      match n, hn4, fin with
      | 0, _, fin => exact fin _ [a] rfl (.mk e3 (.cons cF .nil)) (by decide : 1 ≤ 1) (by decide : 1 ≤ 40) s1
      | 1, _, fin => exact fin _ [a, (a.1, a.2 + sg), a] rfl (.mk e4 (.cons cF (.cons cB (.cons cF .nil)))) (by decide : 1 ≤ 3) (by decide : 3 ≤ 40) s3
      | 2, _, fin => exact fin _ [a, (a.1, a.2 + sg), a, (a.1, a.2 + sg), a] rfl (.mk e5 (.cons cF (.cons cB (.cons cF (.cons cB (.cons cF .nil)))))) (by decide : 1 ≤ 5) (by decide : 5 ≤ 40) s5
      | 3, _, fin => exact fin _ [a] rfl (.mk e6 (.cons cF .nil)) (by decide : 1 ≤ 1) (by decide : 1 ≤ 40) s1
      | n + 4, h, _ => omega
    obtain ⟨v, hv, qv⟩ := all
    exact ⟨u7, _, _, _, rfl, rfl, .inl (.inl (k1 u7 _ fr.1 fr.2 o7)), atI_nat hv, qv⟩
theorem ok_l_del {f : Addr} {fd : FuncData} (D : DefAt K mg "_law_delays" ["_law_deck_here"] s_l_delays f fd) (M : Bi mg)
    (C_l_draw : Cal P w K mg base L2.CX0 1 "_law_draw" ["_law_deck_here", "_law_sides"] spDraw) :
    Cal P w K mg base L2.CX0 2 "_law_delays" ["_law_deck_here"] (spDel K) := by
  have S := S_l_delays
  refine cal_of D.fn D.mgf D.bs D.kbs S (fun vs H Q E h => ?_) (fun cdv A outer s H vs Q E hq hr h => ?_)
  · obtain ⟨d, c, t, rfl, _⟩ := h
    rfl
  · obtain ⟨d, c, t, rfl, dk, ht, q⟩ := h
    refine ⟨_, (pss_cons (ps_set (i := 1) S.nd rfl (.inl rfl) (pe_tup (pa_cons (pe_c C_l_draw pass0 hq hr (by omega) (by rfl) (pa_cons (pv 0) (pa_cons pe_int pa_nil))) (pa_cons (pe_c C_l_draw pass0 hq hr (by omega) (by rfl) (pa_cons (pv 0) (pa_cons pe_int pa_nil))) (pa_cons (pe_c C_l_draw pass0 hq hr (by omega) (by rfl) (pa_cons (pv 0) (pa_cons pe_int pa_nil))) pa_nil)))))
 (pss_one (ps_ret (pe_ix ix_list (pe_lst (pa_cons (pe_tup (pa_cons pe_int (pa_cons pe_int (pa_cons pe_int pa_nil)))) (pa_cons (pe_tup (pa_cons pe_int (pa_cons pe_int (pa_cons pe_int pa_nil)))) (pa_cons (pe_tup (pa_cons pe_int (pa_cons pe_int (pa_cons pe_int pa_nil)))) (pa_cons (pv 1) pa_nil))))) (pe_c C_l_draw pass0 hq hr (by omega) (by rfl) (pa_cons (pv 0) (pa_cons pe_int pa_nil))) (fun _ _ => rfl))))), ?_⟩
    refine ⟨.ref d, rfl, d, c, 4, t, rfl, by decide, by decide, dk, by omega, fun r1 G1 a1 b1 k1 dk1 => ?_⟩
    refine ⟨.ref d, rfl, d, c, 9, t + 1, rfl, by decide, by decide, dk1, by omega, fun r2 G2 a2 b2 k2 dk2 => ?_⟩
    refine ⟨.ref d, rfl, d, c, 1001, t + 2, rfl, by decide, by decide, dk2, by omega, fun r3 G3 a3 b3 k3 dk3 => ?_⟩
    refine ⟨(by decide : (3 : Nat) ≤ sizeLine), fun u1 nu1 => ?_⟩
    generalize hW1 : upd _ u1 _ = W1
    have y1 : Same G3 W1 := hW1 ▸ same_new nu1
    have o1 : W1 u1 = some (.tup (ownV ⟨r1, r2, r3⟩)) := hW1 ▸ upd_same
    refine ⟨(by decide : (3 : Nat) ≤ sizeLine), fun u2 nu2 => ?_⟩
    generalize hW2 : upd _ u2 _ = W2
    have y2 : Same W1 W2 := hW2 ▸ same_new nu2
    have o2 : W2 u2 = some (.tup (ownV ⟨1, 2, 3⟩)) := hW2 ▸ upd_same
    refine ⟨(by decide : (3 : Nat) ≤ sizeLine), fun u3 nu3 => ?_⟩
    generalize hW3 : upd _ u3 _ = W3
    have y3 : Same W2 W3 := hW3 ▸ same_new nu3
    have o3 : W3 u3 = some (.tup (ownV ⟨0, 1, 1⟩)) := hW3 ▸ upd_same
    refine ⟨(by decide : (3 : Nat) ≤ sizeLine), fun u4 nu4 => ?_⟩
    generalize hW4 : upd _ u4 _ = W4
    have y4 : Same W3 W4 := hW4 ▸ same_new nu4
    have o4 : W4 u4 = some (.tup (ownV ⟨1, 0, 0⟩)) := hW4 ▸ upd_same
    refine ⟨.ref u1, rfl, (by decide : (4 : Nat) ≤ sizeLine), fun u5 nu5 => ?_⟩
    generalize hW5 : upd _ u5 _ = W5
    have y5 : Same W4 W5 := hW5 ▸ same_new nu5
    have o5 : W5 u5 = some _ := hW5 ▸ upd_same
    have y15 := (((y1.trans y2).trans y3).trans y4).trans y5
    have dk5 := dk3.same y15
    have fr := (dk3.same (((y1.trans y2).trans y3).trans y4)).free nu5
    refine ⟨.ref d, rfl, d, c, 4, t + 3, rfl, by decide, by decide, dk5, by omega, fun rr G ar br k4 dk4 => ?_⟩
    have tk := TK.but dk5 k4
    have e1 := tk _ _ (y5 _ _ (y4 _ _ (y3 _ _ (y2 _ _ o1))))
    have e2 := tk _ _ (y5 _ _ (y4 _ _ (y3 _ _ o2)))
    have e3 := tk _ _ (y5 _ _ (y4 _ _ o3))
    have e4 := tk _ _ (y5 _ _ o4)
    have bu : But d c H G := ((((k1.trans k2).trans k3).same y15).trans k4)
    obtain ⟨n, rfl⟩ : ∃ n : Nat, rr = (n : Int) := ⟨rr.toNat, by omega⟩
    have fin : ∀ (p : Addr) (o : Own), ([V.ref u2, V.ref u3, V.ref u4, V.ref u1] : List V)[n]? = some (.ref p) → G p = some (.tup (ownV o)) → o.few → ∃ v, ([V.ref u2, V.ref u3, V.ref u4, V.ref u1] : List V)[n]? = some v ∧ Q v G :=
      fun p o h1 h2 h3 => ⟨.ref p, h1, q p o (t + 4) G bu dk4 (by omega) h2 h3⟩
    have all : ∃ v, ([V.ref u2, V.ref u3, V.ref u4, V.ref u1] : List V)[n]? = some v ∧ Q v G := by
      have hn4 : n < 4 := by omega
      match n, hn4, fin with
      | 0, _, fin => exact fin u2 _ rfl e2 ⟨⟨by decide, by decide⟩, ⟨by decide, by decide⟩, by decide, by decide⟩
      | 1, _, fin => exact fin u3 _ rfl e3 ⟨⟨by decide, by decide⟩, ⟨by decide, by decide⟩, by decide, by decide⟩
      | 2, _, fin => exact fin u4 _ rfl e4 ⟨⟨by decide, by decide⟩, ⟨by decide, by decide⟩, by decide, by decide⟩
      | 3, _, fin => exact fin u1 _ rfl e1 ⟨⟨a1, by dsimp only; omega⟩, ⟨a2, by dsimp only; omega⟩, a3, by dsimp only; omega⟩
      | n + 4, h, _ => omega
    obtain ⟨v, hv, qv⟩ := all
    exact ⟨u5, _, _, _, rfl, rfl, .inl (.inl (k4 u5 _ fr.1 fr.2 o5)), atI_nat hv, qv⟩
end
end K53

namespace K53
open PySem PySem.Spec PyProof.Rows L2 Kit
/-! ### the law's own: a laying -/
def spLay : Sp := fun vs H Q _ => ∃ (d c : Addr) (t : Nat) (v : V) (gs : List Gt), vs = [.ref d, v] ∧ Deck H d c t ∧ t < 1000000 ∧ TdR H (netT gs) v ∧ NetOk gs gs.length ∧ gs.length ≤ 40 ∧
  ∀ (u : V) (cs : List (Int × Int)) (wl : List (List Way)) (t' : Nat) (H' : Hp), But d c H H' → Deck H' d c t' → t' ≤ t + 10000 → TdR H' (layT cs wl) u → Okl gs wl → Sml gs cs wl → (∀ ws ∈ wl, ∀ w ∈ ws, w.length ≤ 40) → Q u H'
structure LI (d c C : Addr) (H G : Hp) (cs : List (Int × Int)) (cv : List V) (t : Nat) : Prop where
  but : But d c H G
  dk : Deck G d c t
  eC : G C = some (.lst cv)
  al : All2 G (cs.map cellT) cv
  c1 : C ≠ d
  c2 : C ≠ c
  c0 : H C = none
theorem LI.step {d c C : Addr} {H G G2 : Hp} {cs : List (Int × Int)} {cv : List V} {t t2 : Nat} (h : LI d c C H G cs cv t) (b : But d c G G2) (k : Deck G2 d c t2) : LI d c C H G2 cs cv t2 :=
  ⟨h.but.trans b, k, b C _ h.c1 h.c2 h.eC, h.al.keep (TK.but h.dk b), h.c1, h.c2, h.c0⟩
theorem LI.same {d c C : Addr} {H G G2 : Hp} {cs : List (Int × Int)} {cv : List V} {t : Nat} (h : LI d c C H G cs cv t) (b : Same G G2) : LI d c C H G2 cs cv t := h.step (But.of b) (h.dk.same b)
theorem LI.other {d c C L : Addr} {H G : Hp} {cs : List (Int × Int)} {cv xs ys : List V} {t : Nat} (h : LI d c C H G cs cv t) (e : G L = some (.lst xs)) (n : L ≠ C) (n1 : L ≠ d) (n2 : L ≠ c) (n0 : H L = none) : LI d c C H (upd G L (.lst ys)) cs cv t :=
  ⟨h.but.mut n0, h.dk.mut n1.symm n2.symm, by rw [upd_ne n.symm]; exact h.eC, h.al.keep (TK.lst (TK.same (Same.refl G)) e), h.c1, h.c2, h.c0⟩
theorem cell_inv {H : Hp} {c : Int × Int} {v : V} (h : TdR H (cellT c) v) : ∃ p, v = .ref p ∧ H p = some (.tup (cV c)) := by
  obtain ⟨p, vs, rfl, e, al⟩ := h.inv_tup
  obtain ⟨u, vs, rfl, h1, al⟩ := al.inv_cons
  obtain ⟨w, vs, rfl, h2, al⟩ := al.inv_cons
  obtain rfl := al.inv_nil
  obtain rfl := h1.inv_int
  obtain rfl := h2.inv_int
  exact ⟨p, rfl, e⟩
theorem LI.cell {d c C : Addr} {H G : Hp} {cs : List (Int × Int)} {cv : List V} {t i : Nat} (h : LI d c C H G cs cv t) (hi : i < cs.length) : ∃ p z, cs[i]? = some z ∧ cv[i]? = some (.ref p) ∧ G p = some (.tup (cV z)) := by
  obtain ⟨v, hv, tv⟩ := all2_get h.al (i := i) (t := cellT cs[i]) (by rw [List.getElem?_map, List.getElem?_eq_getElem hi]; rfl)
  obtain ⟨p, rfl, e⟩ := cell_inv tv
  exact ⟨p, cs[i], List.getElem?_eq_getElem hi, hv, e⟩
theorem by_at {rr : Int} (h0 : 0 ≤ rr) (h1 : rr < 6) : ∃ b : Int, atI [V.int 1, .int 2, .int 5, .int 7, .int 10, .int 80] rr = some (.int b) ∧ 1 ≤ b ∧ b ≤ 80 := by
  obtain ⟨n, rfl⟩ : ∃ n : Nat, rr = (n : Int) := ⟨rr.toNat, by omega⟩
  match n, h1 with
  | 0, _ => exact ⟨1, rfl, by decide, by decide⟩
  | 1, _ => exact ⟨2, rfl, by decide, by decide⟩
  | 2, _ => exact ⟨5, rfl, by decide, by decide⟩
  | 3, _ => exact ⟨7, rfl, by decide, by decide⟩
  | 4, _ => exact ⟨10, rfl, by decide, by decide⟩
  | 5, _ => exact ⟨80, rfl, by decide, by decide⟩
  | n + 6, h => omega
def wsT (ws : List Way) : Td := .tup (ws.map wayT)
def wayOk (w : Way) : Prop := 1 ≤ w.length ∧ w.length ≤ 40 ∧ ∀ z ∈ w, smC z
structure WsOk (gs : List Gt) (wl : List (List Way)) : Prop where
  ok : ∀ (j : Nat) (g : Gt) (ws : List Way), gs[j]? = some g → wl[j]? = some ws → ws.length = g.feeds.length ∧ ∀ w ∈ ws, wayOk w
theorem WsOk.snoc {gs : List Gt} {wl : List (List Way)} {g : Gt} {ws : List Way} (h : WsOk gs wl) (e : gs[wl.length]? = some g) (l : ws.length = g.feeds.length) (w : ∀ w ∈ ws, wayOk w) : WsOk gs (wl ++ [ws]) := by
  refine ⟨fun j g' ws' e1 e2 => ?_⟩
  by_cases hj : j < wl.length
  · rw [List.getElem?_append_left hj] at e2
    exact h.ok j g' ws' e1 e2
  · have lj : j < (wl ++ [ws]).length := (List.getElem?_eq_some_iff.mp e2).1
    rw [List.length_append] at lj
    have hj2 : j = wl.length := by
      have : [ws].length = 1 := rfl
      omega
    subst hj2
    rw [List.getElem?_append_right (Nat.le_refl _), Nat.sub_self] at e2
    cases e2
    rw [e] at e1
    cases e1
    exact ⟨l, w⟩
section
variable {P : Program} {w : World} {K : PySem.W.Frag} {mg : Str → Option Value} {base : Heap}
theorem ok_l_lay {f : Addr} {fd : FuncData} (D : DefAt K mg "_law_laying" ["_law_deck_here", "_law_net_here"] s_l_laying f fd) (M : Bi mg)
    (C_l_draw : Cal P w K mg base L2.CX0 1 "_law_draw" ["_law_deck_here", "_law_sides"] spDraw)
    (C_l_feeds : Cal P w K mg base L2.CX0 1 "_law_feeds" ["_law_gate"] spFeeds)
    (C_l_way : Cal P w K mg base L2.CX0 2 "_law_way" ["_law_deck_here", "_law_first", "_law_last"] spWay)
    (C_l_there_and_back : Cal P w K mg base L2.CX0 2 "_law_there_and_back" ["_law_deck_here", "_law_cell"] spBack) :
    Cal P w K mg base L2.CX0 3 "_law_laying" ["_law_deck_here", "_law_net_here"] spLay := by
  have S := S_l_laying
  refine cal_of D.fn D.mgf D.bs D.kbs S (fun vs H Q E h => ?_) (fun cdv A outer s H vs Q E hq hr h => ?_)
  · obtain ⟨d, c, t, v, gs, rfl, _⟩ := h
    rfl
  · obtain ⟨d, c, t, v, gs, rfl, dk, ht, hm, no, gl, q⟩ := h
    refine ⟨_, (pss_cons (ps_par (i := 2) (j := 3) rfl S.nd rfl rfl (by decide) rfl rfl (pa_cons (pe_c C_l_draw pass0 hq hr (by omega) (by rfl) (pa_cons (pv 0) (pa_cons pe_int pa_nil))) (pa_cons (pe_ix ix_list (pe_lst (pa_cons pe_int (pa_cons pe_int (pa_cons pe_int (pa_cons pe_int (pa_cons pe_int (pa_cons pe_int pa_nil))))))) (pe_c C_l_draw pass0 hq hr (by omega) (by rfl) (pa_cons (pv 0) (pa_cons pe_int pa_nil))) (fun _ _ => rfl)) pa_nil)) (by rfl))
 (pss_cons (ps_set (i := 4) S.nd rfl (.inr rfl) (pe_lst pa_nil))
 (pss_cons (ps_for PassesOwn.never rfl (pi_range1 (by rfl) M.range_ (pa_cons (pe_callB call_len_seq (by rfl) M.len_ (by decide +kernel) (pa_cons (pe_ix ix_tup (pv 1) pe_int (fun _ _ => rfl)) pa_nil)) pa_nil)) (pg_name (i := 5) S.nd rfl (.inr rfl))
  (pss_one (ps_expr (pe_bm PySem.F.plainAttrs_list PySem.F.slot_list_append PySem.F.type_list_append mt_append (pv 4) (pa_cons (pe_callB call_divmod (by rfl) M.divmod_ (by decide +kernel) (pa_cons (pe_op op_mod (pe_op op_add (pv 2) (pe_op op_mulB (pv 3) (pv 5))) pe_int) (pa_cons pe_int pa_nil))) pa_nil)))))
 (pss_cons (ps_set (i := 6) S.nd rfl (.inl rfl) (pe_lst pa_nil))
 (pss_cons (ps_for PassesOwn.never rfl (pi_enumT (by rfl) M.enumerate_ (pa_cons (pe_ix ix_tup (pv 1) pe_int (fun _ _ => rfl)) pa_nil)) (pg_tup (by rfl) (pgs_cons (pg_name (i := 5) S.nd rfl (.inr rfl)) (pgs_cons (pg_name (i := 7) S.nd rfl (.inl rfl)) pgs_nil)))
  (pss_cons (ps_setLc (i := 8) (own := [("_law_feed", 9)]) (g := gName 9) (tt := tYes) (te := (tCall spWay [] E0 (tCons (tVar 0) (tCons (tOp (rIxL K) (tVar 4) (tVar 9)) (tCons (tOp (rIxL K) (tVar 4) (tVar 5)) tNil))))) rfl S.nd rfl rfl (sw_true rfl rfl rfl (by decide +kernel)) (pi_tup (pe_c C_l_feeds pass0 hq hr (by omega) (by rfl) (pa_cons (pv 7) pa_nil))) (blkOk_by (own := [("_law_feed", 9)]) (N := N_l_laying) (sc := defScope s_l_laying) (by decide +kernel)) (fun _ _ _ _ _ => pg_name (i := 9) S.nd rfl (.inl rfl)) (fun _ _ _ _ _ => pts_nil) (fun _ _ _ _ _ => (pe_c C_l_way pass0 hq hr (by omega) (by rfl) (pa_cons (pv 0) (pa_cons (pe_ix ix_list (pv 4) (pv 9) (fun _ _ => rfl)) (pa_cons (pe_ix ix_list (pv 4) (pv 5) (fun _ _ => rfl)) pa_nil))))))
 (C8.pss_cut (ps_if (PW.pt (pw_and (pt_cmpR op_eq (pe_ix ix_tup (pv 7) pe_int (fun _ _ => rfl)) pe_str (nomark _)) (pw_and1 (pt_cmpR op_eq (pe_ix ix_tup (pv 7) pe_int (fun _ _ => rfl)) (pv 5) (nomark _)))))
  (pss_one (ps_set (i := 8) S.nd rfl (.inl rfl) (pe_lst (pa_cons (pe_c C_l_there_and_back pass0 hq hr (by omega) (by rfl) (pa_cons (pv 0) (pa_cons (pe_ix ix_list (pv 4) (pv 5) (fun _ _ => rfl)) pa_nil))) pa_nil))))
  pss_nil)
 (pss_one (ps_expr (pe_bm PySem.F.plainAttrs_list PySem.F.slot_list_append PySem.F.type_list_append mt_append (pv 6) (pa_cons (pe_callTy call_tuple_of (by rfl) M.tuple_ (by decide +kernel) (pa_cons (pv 8) pa_nil)) pa_nil)))))))
 (pss_one (ps_ret (pe_tup (pa_cons (pe_callTy call_tuple_of (by rfl) M.tuple_ (by decide +kernel) (pa_cons (pv 4) pa_nil)) (pa_cons (pe_callTy call_tuple_of (by rfl) M.tuple_ (by decide +kernel) (pa_cons (pv 6) pa_nil)) pa_nil)))))))))), ?_⟩
    obtain ⟨N, G, gvs, nr, rfl, eN, hg, hG, gal, lg⟩ := net_inv hm
    have bnd : ∀ n : Nat, n ≤ 1000 → -(2 ^ 62) ≤ (n : Int) ∧ (n : Int) < 2 ^ 62 := fun n h => by omega
    refine ⟨.ref d, rfl, d, c, 81, t, rfl, by decide, by decide, dk, by omega, fun fi G1 a1 b1 k1 dk1 => ?_⟩
    refine ⟨(by decide : (6 : Nat) ≤ sizeLine), fun q1 nq1 => ?_⟩
    generalize hU1 : upd _ q1 _ = U1
    have s1 : Same G1 U1 := hU1 ▸ same_new nq1
    have o1 : U1 q1 = some _ := hU1 ▸ upd_same
    have f1 := dk1.free nq1
    refine ⟨.ref d, rfl, d, c, 6, t + 1, rfl, by decide, by decide, dk1.same s1, by omega, fun rr G2 a2 b2 k2 dk2 => ?_⟩
    obtain ⟨by_, hby, by1, by2⟩ := by_at a2 b2
    refine ⟨q1, _, _, _, rfl, rfl, .inl (.inl (k2 q1 _ f1.1 f1.2 o1)), hby, _, _, rfl, ?_⟩
    have bu2 := (k1.same s1).trans k2
    refine ⟨(by decide : (0 : Nat) ≤ sizeLine), fun C nC => ?_⟩
    generalize hU2 : upd _ C _ = U2
    have s2 : Same G2 U2 := hU2 ▸ same_new nC
    have o2 : U2 C = some _ := hU2 ▸ upd_same
    obtain ⟨C1, C2⟩ := dk2.free nC
    have li0 : LI d c C H U2 [] [] (t + 2) := ⟨bu2.same s2, dk2.same s2, o2, .nil, C1, C2, but_none dk2 bu2 nC⟩
    have tkH : ∀ {X : Hp}, But d c H X → TK H X := fun b => TK.but dk b
    refine ⟨.ref N, rfl, N, _, _, _, rfl, rfl, .inl (.inl (tkH li0.but _ _ eN)), atI_nat (j := 0) rfl, G, gvs, rfl, .inr (.inl (.inl (tkH li0.but _ _ hG))), _, rfl, (bnd _ (by omega)).1, (bnd _ (by omega)).2, for_range (lo := 0) (n := gvs.length) (fun i σ X => ∃ (cs : List (Int × Int)) (cv : List V), LI d c C H X cs cv (t + 2) ∧ cs.length = i ∧ (∀ z ∈ cs, on9 z) ∧ ∃ x5 x6 x7 x8 x9 : Option V,
      σ = [some (.ref d), some (.ref N), some (.int fi), some (.int by_), some (.ref C), x5, x6, x7, x8, x9]) ?_ ?_ ?_⟩
    · exact ⟨[], [], li0, rfl, (fun z hz => by cases hz), none, none, none, none, none, rfl⟩
    · rintro i σ X hi ⟨cs, cv, li, lc, oc, x5, x6, x7, x8, x9, rfl⟩
      rw [Int.zero_add]
      have lv : cv.length = cs.length := by rw [← li.al.1, List.length_map]
      refine ⟨.ref C, rfl, .inl ⟨rfl, _, .inl (.inl li.eC)⟩, .int fi, rfl, .int by_, rfl, .int (i : Int), rfl, _, _, rfl, rfl, .of_left (intBits_le_64 (by omega) (by omega)), _, _, rfl, rfl, _, _, rfl, rfl, (by show (0 : Int) < 81; decide), _, 9, rfl, ⟨by decide, by decide⟩, fun p np => ?_⟩
      generalize hV : upd _ p _ = V1
      have sV : Same X V1 := hV ▸ same_new np
      have oV : V1 p = some (.tup (cV ((fi + by_ * (i : Int)) % 81 / 9, (fi + by_ * (i : Int)) % 81 % 9))) := hV ▸ upd_same
      have li2 := li.same sV
      have on : on9 ((fi + by_ * (i : Int)) % 81 / 9, (fi + by_ * (i : Int)) % 81 % 9) := by
        generalize fi + by_ * (i : Int) = z
        refine ⟨⟨?_, ?_⟩, ?_, ?_⟩ <;> dsimp only <;> omega
      refine ⟨C, _, _, rfl, rfl, li2.eC, (by rw [lv, lc]; exact Nat.lt_of_lt_of_le hi (by rw [lg]; exact Nat.le_trans gl (by decide))), ?_⟩
      have tk : TK V1 (upd V1 C (.lst (cv ++ [V.ref p]))) := TK.lst (TK.same (Same.refl V1)) li2.eC
      refine ⟨cs ++ [((fi + by_ * (i : Int)) % 81 / 9, (fi + by_ * (i : Int)) % 81 % 9)], cv ++ [.ref p], ⟨li2.but.mut li2.c0, li2.dk.mut C1.symm C2.symm, upd_same, ?_, C1, C2, li2.c0⟩, by rw [List.length_append, lc]; rfl, fun z hz => ?_, _, _, _, _, _, rfl⟩
      · rw [List.map_append]
        exact All2.snoc (li2.al.keep tk) ((cell_td oV).keep tk)
      · rcases List.mem_append.mp hz with hz | hz
        · exact oc z hz
        · rw [List.mem_singleton.mp hz]
          exact on
    · rintro σ X ⟨cs, cv, li, lc, oc, x5, x6, x7, x8, x9, rfl⟩
      rw [lg] at lc
      refine ⟨(by decide : (0 : Nat) ≤ sizeLine), fun W nW => ?_⟩
      generalize hU3 : upd _ W _ = U3
      have s3 : Same X U3 := hU3 ▸ same_new nW
      have o3 : U3 W = some _ := hU3 ▸ upd_same
      obtain ⟨W1, W2⟩ := li.dk.free nW
      have nWC : W ≠ C := fun z => by
        rw [z, li.eC] at nW
        cases nW
      have W0 : H W = none := but_none li.dk li.but nW
      have li3 := li.same s3
      refine ⟨.ref N, rfl, N, _, _, _, rfl, rfl, .inl (.inl (tkH li3.but _ _ eN)), atI_nat (j := 0) rfl, G, gvs, rfl, .inl (.inl (tkH li3.but _ _ hG)), ?_⟩
      refine for_it (walk_enumT (K := K) (a := G) (xs := gvs)) (fun i σ Y => ∃ (wv : List V) (wl : List (List Way)) (t' : Nat), LI d c C H Y cs cv t' ∧ t' ≤ t + 2 + 120 * i ∧ Y W = some (.lst wv) ∧ All2 Y (wl.map wsT) wv ∧ wl.length = i ∧ WsOk gs wl ∧ ∃ x5 x7 x8 x9 : Option V,
        σ = [some (.ref d), some (.ref N), some (.int fi), some (.int by_), some (.ref C), x5, some (.ref W), x7, x8, x9]) ?_ ?_ ?_ ?_
      · exact ⟨[], [], t + 2, li3, by omega, o3, .nil, rfl, ⟨(fun j g ws h1 h2 => by cases h2)⟩, _, _, _, _, rfl⟩
      · rintro i σ Y _ ⟨wv, wl, t', li, _⟩
        exact .inl (.inl (tkH li.but _ _ hG))
      · rintro i x σ Y Y2 hi ⟨wv, wl, t', li, lt, eW, wal, lw, wok, x5, x7, x8, x9, rfl⟩ ⟨TT, u, v, rfl, nT, rfl, e1, e2⟩
        cases e1
        rw [lg] at hi
        obtain ⟨gt, egt⟩ : ∃ gt, gs[i]? = some gt := ⟨gs[i], List.getElem?_eq_getElem hi⟩
        have tg := gal.2 i gt.td v (by rw [List.getElem?_map, egt]; rfl) e2
        have gok := (no.ok i gt egt).1
        have sT := same_new (o := .tup [.int (i : Int), v]) nT
        have liT := li.same sT
        have tgT : TdR (upd Y TT (.tup [.int (i : Int), v])) gt.td v := tg.keep (tkH liT.but)
        obtain ⟨gA, rfl, egA⟩ := gt_at tgT
        refine ⟨TT, _, rfl, .inl (.inl upd_same), rfl, _, _, rfl, _, _, rfl, rfl, ?_⟩
        refine ⟨.ref gA, rfl, .ref gA, gt, gs.length, i, rfl, tgT, gok, fun fv H4 s5 tf => ?_⟩
        obtain ⟨Fg, fvs, rfl, hFg, fal⟩ := tf.inv_tup
        obtain rfl := all2_ints fal
        have li4 := liT.same s5
        have eW4 := s5 _ _ (sT _ _ eW)
        have tk4 : TK Y H4 := (TK.same sT).trans (TK.same s5)
        have lfs : (nats gt.feeds).length = gt.feeds.length := by
          unfold nats
          rw [List.length_map]
        have hfl := gt.feeds_le
        have ffl := feeds_lt gok hi
        refine ⟨Fg, rfl, ⟨_, .inl (.inl hFg)⟩, ?_⟩
        intro D1 nD1
        obtain ⟨d1, d2⟩ := li4.dk.free nD1
        have nDC : D1 ≠ C := fun z => by
          rw [z, li4.eC] at nD1
          cases nD1
        have nDW : D1 ≠ W := fun z => by
          rw [z, eW4] at nD1
          cases nD1
        have nD0 : H D1 = none := but_none li4.dk li4.but nD1
        have sD := same_new (o := .lst []) nD1
        obtain ⟨pk, zk, ezk, evk, epk⟩ := li4.cell (i := i) (by omega)
        refine lc_it (walk_tup (K := K) (a := Fg) (xs := nats gt.feeds)) (fun j X => ∃ (sv : List V) (ws : List Way) (t3 : Nat), LI d c C H X cs cv t3 ∧ But d c H4 X ∧ TK H4 X ∧ t3 ≤ t' + 40 * j ∧ X D1 = some (.lst sv) ∧ All2 X (ws.map wayT) sv ∧ ws.length = j ∧ ∀ w ∈ ws, wayOk w) ?_ ?_ ?_ ?_
        · exact ⟨[], [], t', li4.same sD, But.of sD, TK.same sD, by omega, upd_same, .nil, rfl, fun w hw => by cases hw⟩
        · rintro j X _ ⟨sv, ws, t3, liX, bX, tX, _⟩
          exact .inl (.inl (tX _ _ hFg))
        · rintro j x X X2 hj ⟨sv, ws, t3, liX, bX, tX, l3, eD, wal3, lws, wo⟩ ⟨rfl, ex⟩
          have hj2 : j < gt.feeds.length := by
            rw [← lfs]
            exact hj
          obtain ⟨fj, efj⟩ : ∃ fj, gt.feeds[j]? = some fj := ⟨gt.feeds[j], List.getElem?_eq_getElem hj2⟩
          rw [nats_at efj] at ex
          cases ex
          obtain ⟨pf, zf, ezf, evf, epf⟩ := liX.cell (i := fj) (by rw [lc]; exact ffl fj (List.mem_of_getElem? efj))
          have epk2 := tX _ _ epk
          refine ⟨rfl, ?_⟩
          unfold tYes
          refine iteT ?_
          refine ⟨.ref d, rfl, .ref C, rfl, .int (fj : Int), rfl, C, _, _, _, rfl, rfl, .inl (.inl liX.eC), atI_nat evf, .ref C, rfl, .int (i : Int), rfl, C, _, _, _, rfl, rfl, .inl (.inl liX.eC), atI_nat evk, d, c, pf, pk, t3, zf, zk, rfl, liX.dk, by omega, epf, epk2, oc _ (List.mem_of_getElem? ezf), oc _ (List.mem_of_getElem? ezk), fun v3 w3 t4 X3 b3 dk3 lt4 tw l1 l2 sm => ?_⟩
          have eD3 := b3 D1 _ d1 d2 eD
          have lsv : sv.length = ws.length := by rw [← wal3.1, List.length_map]
          have li5 := liX.step b3 dk3
          have tkm : TK X3 (upd X3 D1 (.lst (sv ++ [v3]))) := TK.lst (TK.same (Same.refl X3)) eD3
          refine ⟨sv, eD3, (by have : 10 < sizeLine := by decide
                               omega), sv ++ [v3], ws ++ [w3], t4, li5.other eD3 nDC d1 d2 nD0, ((bX.trans b3).mut nD1), (tX.trans (TK.but liX.dk b3)).trans tkm, by omega, upd_same, ?_, by rw [List.length_append, lws]; rfl, fun w hw => ?_⟩
          · rw [List.map_append]
            exact All2.snoc ((wal3.keep (TK.but liX.dk b3)).keep tkm) (tw.keep tkm)
          · rcases List.mem_append.mp hw with hw | hw
            · exact wo w hw
            · rw [List.mem_singleton.mp hw]
              exact ⟨l1, l2, sm⟩
        rintro X ⟨sv, ws, t3, liX, bX, tX, l3, eD, wal3, lws, wo⟩
        rw [lfs] at lws l3
        have eWX : X W = some (.lst wv) := bX W _ W1 W2 eW4
        have walX : All2 X (wl.map wsT) wv := wal.keep (tk4.trans tX)
        have egX := tX _ _ (s5 _ _ egA)
        have isb : gt.kind = "box" → ∃ c' bit dd, gt = .box c' bit dd := by
          intro hk
          cases gt with
          | box c' bit dd => exact ⟨_, _, _, rfl⟩
          | inp x k => exact absurd hk (by decide +kernel : ("in" : Str) ≠ "box")
          | iz b => exact absurd hk (by decide +kernel : ("is" : Str) ≠ "box")
          | nt b => exact absurd hk (by decide +kernel : ("not" : Str) ≠ "box")
          | two y b e =>
            obtain ⟨rfl | rfl | rfl, _, _⟩ := gok
            · exact absurd hk (by decide +kernel : ("and" : Str) ≠ "box")
            · exact absurd hk (by decide +kernel : ("or" : Str) ≠ "box")
            · exact absurd hk (by decide +kernel : ("xor" : Str) ≠ "box")
        refine ⟨fun σ' X' => ∃ (SA : Addr) (sv : List V) (ws : List Way) (t4 : Nat), LI d c C H X' cs cv t4 ∧ t4 ≤ t' + 120 ∧ X' W = some (.lst wv) ∧ All2 X' (wl.map wsT) wv ∧ X' SA = some (.lst sv) ∧ All2 X' (ws.map wayT) sv ∧ ws.length = gt.feeds.length ∧ (∀ w ∈ ws, wayOk w) ∧ ∃ x9 : Option V,
          σ' = [some (.ref d), some (.ref N), some (.int fi), some (.int by_), some (.ref C), some (.int (i : Int)), some (.ref W), some (.ref gA), some (.ref SA), x9], ?_, ?_⟩
        · refine ⟨.ref gA, rfl, gA, _, _, _, rfl, rfl, .inl (.inl egX), atI_nat (j := 0) gt.vs0, rfl, _, rfl, ?_⟩
          refine ite_str (fun hk => ?_) fun hk => ?_
          · obtain ⟨c', bit, dd, rfl⟩ := isb hk
            refine ⟨.ref gA, rfl, gA, _, _, _, rfl, rfl, .inl (.inl egX), atI_nat (j := 3) rfl, .int (i : Int), rfl, rfl, _, rfl, ?_⟩
            by_cases hdi : decide (V.int (dd : Int) = V.int (i : Int)) = true
            · rw [hdi]
              refine iteT ?_
              refine ⟨.ref d, rfl, .ref C, rfl, .int (i : Int), rfl, C, _, _, _, rfl, rfl, .inl (.inl liX.eC), atI_nat evk, d, c, pk, t3, zk, rfl, liX.dk, by omega, tX _ _ epk, oc _ (List.mem_of_getElem? ezk), fun v3 w3 t4 X3 b3 dk3 lt4 tw l1 l2 sm => ?_⟩
              refine ⟨(by decide : (1 : Nat) ≤ sizeLine), fun SA nSA => ?_⟩
              generalize hV : upd _ SA _ = V1
              have sV : Same X3 V1 := hV ▸ same_new nSA
              have oV : V1 SA = some _ := hV ▸ upd_same
              exact ⟨SA, _, [w3], t4, (liX.step b3 dk3).same sV, by omega, sV _ _ (b3 W _ W1 W2 eWX), (walX.keep (TK.but liX.dk b3)).same sV, oV, .cons (tw.same sV) .nil, rfl, (fun w hw => by rw [List.mem_singleton.mp hw]; exact ⟨l1, l2, sm⟩), _, rfl⟩
            · rw [Bool.not_eq_true] at hdi
              rw [hdi]
              refine iteF ?_
              exact ⟨D1, sv, ws, t3, liX, by omega, eWX, walX, eD, wal3, lws, wo, _, rfl⟩
          · refine iteF ?_
            exact ⟨D1, sv, ws, t3, liX, by omega, eWX, walX, eD, wal3, lws, wo, _, rfl⟩
        · rintro σ' X' ⟨SA, sv, ws, t4, liM, lt4, eWM, walM, eS, wsM, lwM, woM, x9, rfl⟩
          have lwv : wv.length = wl.length := by rw [← walM.1, List.length_map]
          refine ⟨.ref W, rfl, .inl ⟨rfl, _, .inl (.inl eWM)⟩, .ref SA, rfl, SA, sv, rfl, .inl ⟨.inl (.inl eS), fun p np => ?_⟩⟩
          generalize hV : upd _ p _ = V1
          have sV : Same X' V1 := hV ▸ same_new np
          have oV : V1 p = some _ := hV ▸ upd_same
          have eWV := sV _ _ eWM
          have tkm : TK V1 (upd V1 W (.lst (wv ++ [V.ref p]))) := TK.lst (TK.same (Same.refl V1)) eWV
          refine ⟨W, _, _, rfl, rfl, eWV, (by have : 50 < sizeLine := by decide
                                              omega), wv ++ [.ref p], wl ++ [ws], t4, (liM.same sV).other eWV nWC W1 W2 W0, by omega, upd_same, ?_, by rw [List.length_append, lw]; rfl, wok.snoc (by rw [lw]; exact egt) lwM woM, _, _, _, _, rfl⟩
          rw [List.map_append]
          exact All2.snoc ((walM.same sV).keep tkm) (TdR.keep (.mk oV (wsM.same sV)) tkm)
      · rintro σ Y ⟨wv, wl, t', li, lt, eW, wal, lw, wok, x5, x7, x8, x9, rfl⟩
        rw [lg] at lw
        refine ⟨.ref C, rfl, C, cv, rfl, .inl ⟨.inl (.inl li.eC), fun T1 nT1 => ?_⟩⟩
        generalize hV1 : upd _ T1 _ = V1
        have v1 : Same Y V1 := hV1 ▸ same_new nT1
        have z1 : V1 T1 = some _ := hV1 ▸ upd_same
        refine ⟨.ref W, rfl, W, wv, rfl, .inl ⟨.inl (.inl (v1 _ _ eW)), fun T2 nT2 => ?_⟩⟩
        generalize hV2 : upd _ T2 _ = V2
        have v2 : Same V1 V2 := hV2 ▸ same_new nT2
        have z2 : V2 T2 = some _ := hV2 ▸ upd_same
        refine ⟨(by decide : (2 : Nat) ≤ sizeLine), fun T3 nT3 => ?_⟩
        generalize hV3 : upd _ T3 _ = V3
        have v3 : Same V2 V3 := hV3 ▸ same_new nT3
        have z3 : V3 T3 = some _ := hV3 ▸ upd_same
        have v13 := (v1.trans v2).trans v3
        have li9 := li.same v13
        refine q _ cs wl t' V3 li9.but li9.dk (by omega) (.mk z3 (.cons (.mk (v3 _ _ (v2 _ _ z1)) li9.al) (.cons (.mk (v3 _ _ z2) (wal.same v13)) .nil))) ⟨fun i g e => (no.ok i g e).1, lw, fun i g ws e1 e2 => ?_⟩ ⟨gl, fun g hg => ?_, by omega, fun z hz => on9_sm (oc z hz), by omega, fun ws hws => ?_⟩ (fun ws hws w hw => ?_)
        · obtain ⟨h1, h2⟩ := wok.ok i g ws e1 e2
          exact ⟨h1, fun w hw => ⟨(h2 w hw).1, Nat.le_trans (h2 w hw).2.1 (by decide)⟩⟩
        · obtain ⟨j, hj⟩ := List.mem_iff_getElem?.mp hg
          exact (no.ok j g hj).2
        · obtain ⟨j, hj⟩ := List.mem_iff_getElem?.mp hws
          have hj2 : j < gs.length := by
            have := (List.getElem?_eq_some_iff.mp hj).1
            omega
          obtain ⟨h1, h2⟩ := wok.ok j gs[j] ws (List.getElem?_eq_getElem hj2) hj
          exact ⟨by rw [h1]; exact Gt.feeds_le _, fun w hw => ⟨Nat.le_trans (h2 w hw).2.1 (by decide), (h2 w hw).2.2⟩⟩
        · obtain ⟨j, hj⟩ := List.mem_iff_getElem?.mp hws
          have hj2 : j < gs.length := by
            have := (List.getElem?_eq_some_iff.mp hj).1
            omega
          exact ((wok.ok j gs[j] ws (List.getElem?_eq_getElem hj2) hj).2 w hw).2.1
end
end K53

namespace K53
open PySem PySem.Spec PyProof.Rows L2 Kit
/-! ### looking at papers of slowest ways -/
def spNat : Sp := fun vs H Q _ => ∃ i : Int, vs = [.int i] ∧ Q (.bl (decide (0 ≤ i))) H
def spWhole : Sp := fun vs H Q _ => ∃ i e : Int, vs = [.int i, .int e] ∧ Q (.bl (decide (0 ≤ i ∧ i < e))) H
def spTupM : Sp := fun vs H Q _ => ∃ (a : Addr) (xs : List V) (n : Int), vs = [.ref a, .int n] ∧ H a = some (.tup xs) ∧ Q (.bl (decide ((xs.length : Int) = n))) H
theorem kit_ii (K : PySem.W.Frag) : PySem.W.kitOne K (.type "int") (.type "int") = some true := kit_ty (by decide +kernel)
theorem kit_ib (K : PySem.W.Frag) : PySem.W.kitOne K (.type "int") (.type "bool") = some false := kit_ty (by decide +kernel)
theorem kit_tt (K : PySem.W.Frag) : PySem.W.kitOne K (.type "tuple") (.type "tuple") = some true := kit_ty (by decide +kernel)
/-- arrivals that are right -/
structure ArrOk (gs : List Gt) (wl : List (List Way)) (d : Own) (arr : List Int) : Prop where
  len : arr.length = gs.length
  nat : ∀ x ∈ arr, 0 ≤ x
  feeds : ∀ (k : Nat) g ws, gs[k]? = some g → wl[k]? = some ws → g.fed = true → ∀ p ∈ bro arr g.feeds (lens ws) d.s, p.1 + g.own d ≤ arr.getD k 0
def spArr (K : PySem.W.Frag) : Sp := fun vs H Q _ => ∃ (vg vw : V) (A a : Addr) (gs : List Gt) (wl : List (List Way)) (d : Own) (arr : List Int),
  vs = [vg, vw, .ref A, .ref a] ∧ TdR H (gatesT gs) vg ∧ TdR H (waysT wl) vw ∧ H A = some (.tup (arr.map V.int)) ∧ SqT K H a (ownV d) ∧ Okl gs wl ∧ d.ok ∧ gs.length ≤ 1000 ∧ arr.length ≤ 1000000 ∧
  ∀ (b : Bool) (H' : Hp), Same H H' → (b = true ↔ ArrOk gs wl d arr) → Q (.bl b) H'
theorem ints_get {arr : List Int} {i : Nat} {v : V} (h : (arr.map V.int)[i]? = some v) : ∃ x, arr[i]? = some x ∧ v = .int x := by
  rw [List.getElem?_map] at h
  cases e : arr[i]? with
  | none =>
    rw [e] at h
    cases h
  | some x =>
    rw [e] at h
    exact ⟨x, rfl, (Option.some.inj h).symm⟩
theorem take_bl {α : Type} {l : List α} {i : Nat} {x : α} (f : α → Bool) (h : l[i]? = some x) : ((l.take (i + 1)).map f).map V.bl = ((l.take i).map f).map V.bl ++ [V.bl (f x)] := by
  rw [List.take_add_one, h, List.map_append, List.map_append]
  rfl
section
variable {P : Program} {w : World} {K : PySem.W.Frag} {mg : Str → Option Value} {base : Heap} {cF cD : Addr}
theorem ok_nat {f : Addr} {fd : FuncData} (D : DefAt K mg "is_natural" ["thing"] s_is_natural f fd) (M : Bi mg) : Cal P w K mg base L2.CX0 1 "is_natural" ["thing"] spNat := by
  have S := S_is_natural
  refine cal_of D.fn D.mgf D.bs D.kbs S (fun vs H Q E h => ?_) (fun cdv A outer s H vs Q E hq hr h => ?_)
  · obtain ⟨i, rfl, _⟩ := h
    rfl
  · obtain ⟨i, rfl, q⟩ := h
    refine ⟨_, (pss_one (ps_ret (pe_and (pe_callB call_isi (by rfl) M.isinstance_ (by decide +kernel) (pa_cons (pv 0) (pa_cons (pe_bltn (v := .ty "int") (u := .type "int") (by rfl) M.int_ (by decide +kernel) rfl) pa_nil))) (pe_and (pe_not (pe_callB call_isi (by rfl) M.isinstance_ (by decide +kernel) (pa_cons (pv 0) (pa_cons (pe_bltn (v := .ty "bool") (u := .type "bool") (by rfl) M.bool_ (by decide +kernel) rfl) pa_nil)))) (pe_one (pe_cmpR op_ge (pv 0) pe_int (nomark _))))))), ?_⟩
    exact ⟨.int i, rfl, _, _, _, _, _, rfl, .ty "int", .base (.int i), kit_ii K, true, rfl, iteT ⟨.int i, rfl, _, _, _, _, _, rfl, .ty "bool", .base (.int i), kit_ib K, false, rfl, true, rfl, iteT ⟨.int i, rfl, i, 0, rfl, rfl, q⟩⟩⟩
theorem ok_whole {f : Addr} {fd : FuncData} (D : DefAt K mg "is_whole" ["thing", "end"] s_is_whole f fd) (M : Bi mg)
    (C_is_natural : Cal P w K mg base L2.CX0 1 "is_natural" ["thing"] spNat) : Cal P w K mg base L2.CX0 2 "is_whole" ["thing", "end"] spWhole := by
  have S := S_is_whole
  refine cal_of D.fn D.mgf D.bs D.kbs S (fun vs H Q E h => ?_) (fun cdv A outer s H vs Q E hq hr h => ?_)
  · obtain ⟨i, e, rfl, _⟩ := h
    rfl
  · obtain ⟨i, e, rfl, q⟩ := h
    refine ⟨_, (pss_one (ps_ret (pe_and (pe_c C_is_natural pass0 hq hr (by omega) (by rfl) (pa_cons (pv 0) pa_nil)) (pe_one (pe_cmpR op_lt (pv 0) (pv 1) (nomark _)))))), ?_⟩
    refine ⟨.int i, rfl, i, rfl, _, rfl, ?_⟩
    by_cases h : 0 ≤ i
    · rw [decide_eq_true h]
      refine iteT ⟨.int i, rfl, .int e, rfl, i, e, rfl, rfl, ?_⟩
      have e1 : decide (i < e) = decide (0 ≤ i ∧ i < e) := by
        by_cases h2 : i < e
        · rw [decide_eq_true h2, decide_eq_true ⟨h, h2⟩]
        · rw [decide_eq_false h2, decide_eq_false fun z => h2 z.2]
      show Q (V.bl (decide (i < e))) H
      rw [e1]
      exact q
    · rw [decide_eq_false h]
      rw [decide_eq_false fun z => h z.1] at q
      exact iteF q
theorem ok_tupM {f : Addr} {fd : FuncData} (D : DefAt K mg "is_tuple" ["thing", "many"] s_is_tuple f fd) (M : Bi mg) : Cal P w K mg base L2.CX0 1 "is_tuple" ["thing", "many"] spTupM := by
  have S := S_is_tuple
  refine cal_of D.fn D.mgf D.bs D.kbs S (fun vs H Q E h => ?_) (fun cdv A outer s H vs Q E hq hr h => ?_)
  · obtain ⟨a, xs, n, rfl, _⟩ := h
    rfl
  · obtain ⟨a, xs, n, rfl, ea, q⟩ := h
    refine ⟨_, (pss_one (ps_ret (pe_and (pe_callB call_isi (by rfl) M.isinstance_ (by decide +kernel) (pa_cons (pv 0) (pa_cons (pe_bltn (v := .ty "tuple") (u := .type "tuple") (by rfl) M.tuple_ (by decide +kernel) rfl) pa_nil))) (pe_one (pe_cmpR op_eq (pe_callB call_len_seq (by rfl) M.len_ (by decide +kernel) (pa_cons (pv 0) pa_nil)) (pv 1) (nomark _)))))), ?_⟩
    refine ⟨.ref a, rfl, _, _, _, _, _, rfl, .ty "tuple", .base (.tup ea), kit_tt K, true, rfl, iteT ⟨.ref a, rfl, a, xs, rfl, .inr (.inl (.inl ea)), .int n, rfl, rfl, ?_⟩⟩
    have e1 : decide (V.int (xs.length : Nat) = V.int n) = decide ((xs.length : Int) = n) := by
      by_cases h : (xs.length : Int) = n
      · rw [decide_eq_true h, decide_eq_true (by rw [h])]
      · rw [decide_eq_false h, decide_eq_false fun z => h (V.int.inj z)]
    rw [e1]
    exact q
theorem ok_arr {f : Addr} {fd : FuncData} (D : DefAt K mg "are_arrivals" ["gates", "ways", "thing", "delays"] s_are_arrivals f fd) (M : Bi mg) (T : Tp K mg cF cD)
    (C_is_natural : Cal P w K mg base L2.CX0 1 "is_natural" ["thing"] spNat)
    (C_is_tuple : Cal P w K mg base L2.CX0 1 "is_tuple" ["thing", "many"] spTupM)
    (C_own_delay : Cal P w K mg base L2.CX0 1 "own_delay" ["gate", "delays"] (spOwn K))
    (C_brought : Cal P w K mg base L2.CX0 2 "brought" ["arrivals", "gates", "ways", "g", "step"] (spBro K)) :
    Cal P w K mg base L2.CX0 3 "are_arrivals" ["gates", "ways", "thing", "delays"] (spArr K) := by
  have S := S_are_arrivals
  refine cal_of D.fn D.mgf D.bs D.kbs S (fun vs H Q E h => ?_) (fun cdv A outer s H vs Q E hq hr h => ?_)
  · obtain ⟨vg, vw, A, a, gs, wl, d, arr, rfl, _⟩ := h
    rfl
  · obtain ⟨vg, vw, A, a, gs, wl, d, arr, rfl, hg, hw, eA, hd, ok, od, gl, la, q⟩ := h
    refine ⟨_, (pss_cons (ps_if (PW.pt (pw_or (pt_not (pt_val (pe_c C_is_tuple pass0 hq hr (by omega) (by rfl) (pa_cons (pv 2) (pa_cons (pe_callB call_len_seq (by rfl) M.len_ (by decide +kernel) (pa_cons (pv 0) pa_nil)) pa_nil))))) (pw_or1 (pt_not (pt_val (pe_callB (cr_all rfl) (by rfl) M.all_ (by decide +kernel) (pa_cons (pe_lc (own := [("arrival", 4)]) (g := gName 4) (tt := tYes) rfl S.nd (pi_tup (pv 2)) (blkOk_by (own := [("arrival", 4)]) (N := N_are_arrivals) (sc := defScope s_are_arrivals) (by decide +kernel)) (fun _ _ _ _ _ => pg_name (i := 4) S.nd rfl (.inl rfl)) (fun _ _ _ _ _ => pts_nil) (fun _ _ _ _ _ => (pe_c C_is_natural pass0 hq hr (by omega) (by rfl) (pa_cons (pv 4) pa_nil)))) pa_nil)))))))
  (pss_one (ps_ret pe_bl))
  pss_nil)
 (pss_cons (ps_for PassesOwn.never rfl (pi_enumT (by rfl) M.enumerate_ (pa_cons (pv 0) pa_nil)) (pg_tup (by rfl) (pgs_cons (pg_name (i := 5) S.nd rfl (.inr rfl)) (pgs_cons (pg_name (i := 6) S.nd rfl (.inl rfl)) pgs_nil)))
  (pss_one (ps_if (pt_cmpR op_in_seq (pe_ix ix_tup (pv 6) pe_int (fun _ _ => rfl)) (C8.pe_gc (by rfl) T.c_FED) rfl)
  (pss_cons (ps_set (i := 7) S.nd rfl (.inr rfl) (pe_c C_own_delay pass0 hq hr (by omega) (by rfl) (pa_cons (pv 6) (pa_cons (pv 3) pa_nil))))
 (pss_one (ps_if (pt_val (pe_callB (cr_any rfl) (by rfl) M.any_ (by decide +kernel) (pa_cons (pe_lc (own := [("time", 8), ("_", 9)]) (g := (gTup K 2 (gCons (gName 8) (gCons (gName 9) gNil)))) (tt := tYes) (te := (tOp (rI0 fun i j => V.bl (decide (i < j))) (tOp (rIxT K) (tVar 2) (tVar 5)) (tOp (rI0 fun i j => .int (i + j)) (tVar 8) (tVar 7)))) rfl S.nd (pi_list (pe_c C_brought pass0 hq hr (by omega) (by rfl) (pa_cons (pv 2) (pa_cons (pv 0) (pa_cons (pv 1) (pa_cons (pv 5) (pa_cons (pe_ix ix_tup (pv 3) pe_int (fun _ _ => rfl)) pa_nil))))))) (blkOk_by (own := [("time", 8), ("_", 9)]) (N := N_are_arrivals) (sc := defScope s_are_arrivals) (by decide +kernel)) (fun _ _ _ _ _ => (pg_tup (by rfl) (pgs_cons (pg_name (i := 8) S.nd rfl (.inl rfl)) (pgs_cons (pg_name (i := 9) S.nd rfl (.inl rfl)) pgs_nil)))) (fun _ _ _ _ _ => pts_nil) (fun _ _ _ _ _ => (pe_cmpR op_lt (pe_ix ix_tup (pv 2) (pv 5) (fun _ _ => rfl)) (pe_op op_add (pv 8) (pv 7)) (nomark _)))) pa_nil)))
  (pss_one (ps_ret pe_bl))
  pss_nil)))
  pss_nil)))
 (pss_one (ps_ret pe_bl)))), ?_⟩
    obtain ⟨G, gvs, rfl, hG, gal⟩ := hg.inv_tup
    have lg : gvs.length = gs.length := by rw [← gal.1, List.length_map]
    have big : 1000000 < sizeLine := by decide
    refine ⟨.ref A, rfl, .ref G, rfl, G, gvs, rfl, .inr (.inl (.inl hG)), A, _, _, rfl, eA, _, rfl, ?_⟩
    by_cases hlen : arr.length = gs.length
    · have d1 : decide (((arr.map V.int).length : Int) = (gvs.length : Int)) = true := decide_eq_true (by rw [List.length_map, lg, hlen])
      rw [d1]
      refine iteF ?_
      refine ⟨.ref A, rfl, A, rfl, ⟨_, .inl (.inl eA)⟩, fun Dl nD => ?_⟩
      refine lc_tup (K := K) (a := A) (xs := arr.map V.int) (fun i H' => Same H H' ∧ H' Dl = some (.lst (((arr.take i).map fun x => decide (0 ≤ x)).map V.bl))) ?_ ?_ ?_ ?_
      · exact ⟨same_new nD, upd_same⟩
      · rintro i H' _ ⟨sm, _⟩
        exact .inl (.inl (sm _ _ eA))
      · rintro i v H' hv ⟨sm, eD⟩
        obtain ⟨x, hx, rfl⟩ := ints_get hv
        have hi := (List.getElem?_eq_some_iff.mp hx).1
        refine ⟨rfl, ?_⟩
        unfold tYes
        refine iteT ⟨.int x, rfl, x, rfl, _, eD, ?_, same_mut sm nD, ?_⟩
        · rw [List.length_map, List.length_map, List.length_take]
          omega
        · rw [upd_same, take_bl _ hx]
      rintro H1 ⟨s1, eD⟩
      rw [List.length_map, List.take_of_length_le (Nat.le_refl _)] at eD
      refine ⟨Dl, _, rfl, .inl (.inl eD), _, rfl, ?_⟩
      rw [List.all_map]
      cases hn : (arr.all (id ∘ fun x => decide (0 ≤ x))) with
      | false =>
        refine iteT (q false H1 s1 ⟨fun z => (by cases z), fun z => ?_⟩)
        have h2 : (arr.all (id ∘ fun x => decide (0 ≤ x))) = true := List.all_eq_true.mpr fun x hx => decide_eq_true (z.nat x hx)
        rw [hn] at h2
        cases h2
      | true =>
        refine iteF ?_
        have hnat : ∀ x ∈ arr, 0 ≤ x := fun x hx => of_decide_eq_true (List.all_eq_true.mp hn x hx)
        have eA1 := s1 _ _ eA
        refine ⟨.ref G, rfl, G, gvs, rfl, .inl (.inl (s1 _ _ hG)), for_it (walk_enumT (K := K) (a := G) (xs := gvs)) (fun i σ H' => Same H H' ∧ (∀ (k : Nat) g ws, k < i → gs[k]? = some g → wl[k]? = some ws → g.fed = true → ∀ p ∈ bro arr g.feeds (lens ws) d.s, p.1 + g.own d ≤ arr.getD k 0) ∧
          ∃ x4 x5 x6 x7 x8 x9 : Option V, σ = [some (.ref G), some vw, some (.ref A), some (.ref a), x4, x5, x6, x7, x8, x9]) ?_ ?_ ?_ ?_⟩
        · exact ⟨s1, fun k g ws h => absurd h (Nat.not_lt_zero _), none, none, none, none, none, none, rfl⟩
        · rintro i σ H' _ ⟨sm, _⟩
          exact .inl (.inl (sm _ _ hG))
        · rintro i x σ H' H2 hi ⟨sm, hall, x4, x5, x6, x7, x8, x9, rfl⟩ ⟨TT, u, v, rfl, nT, rfl, e1, e2⟩
          cases e1
          rw [lg] at hi
          obtain ⟨gt, egt⟩ : ∃ gt, gs[i]? = some gt := ⟨gs[i], List.getElem?_eq_getElem hi⟩
          have tg := gal.2 i gt.td v (by rw [List.getElem?_map, egt]; rfl) e2
          refine ⟨TT, _, rfl, .inl (.inl upd_same), rfl, _, _, rfl, _, _, rfl, rfl, ?_⟩
          generalize eG1 : upd H' TT _ = G1
          have sT : Same H G1 := eG1 ▸ sm.trans (same_new nT)
          obtain ⟨gA, rfl, egA⟩ := gt_at (tg.same sT)
          refine ⟨.ref gA, rfl, gA, _, _, _, rfl, rfl, .inl (.inl egA), atI_nat (j := 0) gt.vs0, cF, _, rfl, .inr (T.d_FED _), rfl, rfl, _, rfl, ?_⟩
          dsimp only
          refine ite_in (fed_in (ok.gate i gt egt)) ?_
          obtain ⟨ws, ew, lw, hws⟩ := ok.at egt
          cases hfd : gt.fed with
          | false =>
            refine iteF ⟨sT, fun k g ws' hk h1 h2 h3 => ?_, _, _, _, _, _, _, rfl⟩
            by_cases hki : k = i
            · subst hki
              rw [egt] at h1
              cases h1
              rw [hfd] at h3
              cases h3
            · exact hall k g ws' (by omega) h1 h2 h3
          | true =>
            refine iteT ?_
            refine ⟨.ref gA, rfl, .ref a, rfl, .ref gA, a, gt, gs.length, i, d, rfl, tg.same sT, sqt_same hd sT, ok.gate i gt egt, hfd, ?_⟩
            have hfl : ∀ f ∈ gt.feeds, f < arr.length := fun f hf => by
              rw [hlen]
              exact feeds_lt (ok.gate i gt egt) hi f hf
            refine ⟨.ref A, rfl, .ref G, rfl, vw, rfl, .int (i : Int), rfl, .ref a, rfl, a, _, _, _, rfl, rfl, sqt_same hd sT, atI_nat (j := 0) rfl, _, _, _, arr, gs, wl, i, gt, ws, d.s, rfl, .tup (.inl (.inl (sT _ _ eA))), hg.same sT, hw.same sT, ok, egt, ew, hfl, od.1, od.2, ?_⟩
            intro p rs G2 s3 np ep lrs hrs
            have lb : (bro arr gt.feeds (lens ws) d.s).length ≤ 2 := by
              unfold bro
              rw [List.length_zipWith]
              exact Nat.le_trans (Nat.min_le_left _ _) gt.feeds_le
            generalize eB : bro arr gt.feeds (lens ws) d.s = bs at *
            refine ⟨p, rfl, ⟨_, .inl (.inl ep)⟩, fun D2 nD2 => ?_⟩
            refine lc_list (K := K) (a := p) (xs := rs.map V.ref) (fun j H' => Same G2 H' ∧ H' D2 = some (.lst (((bs.take j).map fun pr => decide (arr.getD i 0 < pr.1 + gt.own d)).map V.bl))) ?_ ?_ ?_ ?_
            · exact ⟨same_new nD2, upd_same⟩
            · rintro j H' _ ⟨sm2, _⟩
              exact .inl (.inl (sm2 _ _ ep))
            · rintro j v H' hv ⟨sm2, eD2⟩
              rw [List.getElem?_map] at hv
              cases hr2 : rs[j]? with
              | none =>
                rw [hr2] at hv
                cases hv
              | some r =>
                rw [hr2] at hv
                cases hv
                have hj : j < bs.length := by
                  rw [← lrs]
                  exact (List.getElem?_eq_some_iff.mp hr2).1
                obtain ⟨pr, hpr⟩ : ∃ pr, bs[j]? = some pr := ⟨bs[j], List.getElem?_eq_getElem hj⟩
                have er := sm2 _ _ (hrs j r pr hr2 hpr)
                refine ⟨r, _, rfl, .inl (.inl er), rfl, _, _, rfl, _, _, rfl, rfl, rfl, ?_⟩
                unfold tYes
                refine iteT ⟨.ref A, rfl, .int (i : Int), rfl, A, _, _, _, rfl, rfl, .inl (.inl (sm2 _ _ (s3 _ _ (sT _ _ eA)))), atI_nat (arr_at (by rw [hlen]; exact hi)), .int pr.1, rfl, .int (gt.own d), rfl, _, _, rfl, rfl, _, _, rfl, rfl, _, eD2, ?_, same_mut sm2 nD2, ?_⟩
                · rw [List.length_map, List.length_map, List.length_take]
                  omega
                · rw [upd_same, take_bl _ hpr]
            rintro H3 ⟨s4, eD3⟩
            rw [List.length_map, lrs, List.take_of_length_le (Nat.le_refl _)] at eD3
            refine ⟨D2, _, rfl, .inl (.inl eD3), _, rfl, ?_⟩
            rw [List.any_map]
            have sAll := (sT.trans s3).trans s4
            cases han : (bs.any (id ∘ fun pr => decide (arr.getD i 0 < pr.1 + gt.own d))) with
            | true =>
              refine iteT (q false H3 sAll ⟨fun z => (by cases z), fun z => ?_⟩)
              obtain ⟨pr, hm, hlt⟩ := List.any_eq_true.mp han
              have h1 := z.feeds i gt ws egt ew hfd pr (by rw [eB]; exact hm)
              have h2 := of_decide_eq_true hlt
              omega
            | false =>
              refine iteF ⟨sAll, fun k g ws' hk h1 h2 h3 => ?_, _, _, _, _, _, _, rfl⟩
              by_cases hki : k = i
              · subst hki
                rw [egt] at h1
                cases h1
                rw [ew] at h2
                cases h2
                rw [eB]
                intro pr hm
                have h5 := List.any_eq_false.mp han pr hm
                have h6 : ¬ arr.getD k 0 < pr.1 + gt.own d := fun y => h5 (decide_eq_true y)
                omega
              · exact hall k g ws' (by omega) h1 h2 h3
        · rintro σ H' ⟨sm, hall, x4, x5, x6, x7, x8, x9, rfl⟩
          refine q true H' sm ⟨fun _ => ⟨hlen, hnat, fun k g ws h1 h2 h3 => ?_⟩, fun _ => rfl⟩
          exact hall k g ws (by rw [lg]; exact (List.getElem?_eq_some_iff.mp h1).1) h1 h2 h3
    · have d1 : decide (((arr.map V.int).length : Int) = (gvs.length : Int)) = false := decide_eq_false (by rw [List.length_map, lg]; omega)
      rw [d1]
      refine iteT (iteT (q false H (Same.refl H) ⟨fun z => (by cases z), fun z => absurd z.len hlen⟩))
end
end K53

namespace K53
open PySem PySem.Spec PyProof.Rows L2 Kit
/-! ### paths -/
structure PthN (gs : List Gt) (c : Str) (l : List Nat) : Prop where
  two : 2 ≤ l.length
  lt : ∀ k ∈ l, k < gs.length
  src : ∃ g, gs[l.getD 0 0]? = some g ∧ g.fed = false
  snk : ∃ bit dd, gs[l.getD (l.length - 1) 0]? = some (.box c bit dd)
  mid : ∀ i, 0 < i → i + 1 < l.length → ∃ g, gs[l.getD i 0]? = some g ∧ g.fed = true
  con : ∀ i, i + 1 < l.length → ∃ g, gs[l.getD (i + 1) 0]? = some g ∧ l.getD i 0 ∈ g.feeds
def PathOk (gs : List Gt) (c : Str) (pth : List Int) : Prop := ∃ l : List Nat, pth = l.map (fun (k : Nat) => (k : Int)) ∧ PthN gs c l
def spIsP : Sp := fun vs H Q _ => ∃ (vg : V) (A : Addr) (c : Str) (gs : List Gt) (pth : List Int),
  vs = [vg, .str c, .ref A] ∧ TdR H (gatesT gs) vg ∧ H A = some (.tup (pth.map V.int)) ∧ (∀ (i : Nat) (g : Gt), gs[i]? = some g → g.ok gs.length i) ∧ gs.length ≤ 1000 ∧ pth.length ≤ 1000000 ∧ okZ c ∧ (∀ g ∈ gs, g.sm) ∧
  ∀ (b : Bool) (H' : Hp), Same H H' → (b = true ↔ PathOk gs c pth) → Q (.bl b) H'
theorem walk_zipT2 {K : PySem.W.Frag} {a b : Addr} {xs ys : List V} {n : Nat} (h1 : n ≤ xs.length) (h2 : n = ys.length) : Walk (RZ.ItzT K a b) n (fun H => SqT K H a xs ∧ SqT K H b ys) (YPair (fun i => xs[i]?) (fun i => ys[i]?)) where
  goes := fun i H hi h => ⟨xs, ys, xs[i]'(by omega), ys[i]'(by omega), h.1, h.2, List.getElem?_eq_getElem _, List.getElem?_eq_getElem _⟩
  stops := fun H h => ⟨xs, ys, h.1, h.2, .inr (by omega)⟩
  yields := fun i H x H' hi h y => by
    obtain ⟨T, u, v, rfl, nT, e, hu, hv⟩ := y
    exact ⟨T, u, v, rfl, nT, e, hu xs h.1, hv ys h.2⟩
theorem nat_of : ∀ {pth : List Int} {n : Nat}, (∀ x ∈ pth, 0 ≤ x ∧ x < (n : Int)) → ∃ l : List Nat, pth = l.map (fun (k : Nat) => (k : Int)) ∧ ∀ k ∈ l, k < n
  | [], n, _ => ⟨[], rfl, fun k h => by cases h⟩
  | x :: pth, n, h => by
    obtain ⟨l, e, hl⟩ := nat_of fun y hy => h y (List.mem_cons_of_mem _ hy)
    obtain ⟨h0, h1⟩ := h x List.mem_cons_self
    refine ⟨x.toNat :: l, ?_, fun k hk => ?_⟩
    · rw [List.map_cons, ← e, Int.toNat_of_nonneg h0]
    · rcases List.mem_cons.mp hk with rfl | hk
      · omega
      · exact hl k hk
theorem map_ints (l : List Nat) : ((l.map (fun (k : Nat) => (k : Int))).map V.int) = nats l := by
  unfold nats
  rw [List.map_map]
  rfl
def fedB (gs : List Gt) (k : Nat) : Bool := match gs[k]? with
  | some g => g.fed
  | none => false
def boxB (gs : List Gt) (c : Str) (k : Nat) : Bool := match gs[k]? with
  | some g => g.isBox c
  | none => false
def feedB (gs : List Gt) (f k : Nat) : Bool := match gs[k]? with
  | some g => decide (f ∈ g.feeds)
  | none => false
theorem inV_nats (f : Nat) : ∀ l : List Nat, inV (.int (f : Int)) (nats l) = decide (f ∈ l)
  | [] => by rfl
  | k :: l => by
    have ih := inV_nats f l
    unfold inV nats at ih ⊢
    rw [List.map_cons, List.any_cons, ih]
    have e : eqV (.int (k : Int)) (.int (f : Int)) = decide (k = f) := by
      show ((k : Int) == (f : Int)) = _
      by_cases h : k = f
      · subst h
        simp
      · rw [decide_eq_false h]
        exact beq_eq_false_iff_ne.mpr (by omega)
    rw [e]
    by_cases h : k = f
    · subst h
      rw [decide_eq_true rfl, decide_eq_true List.mem_cons_self, Bool.true_or]
    · rw [decide_eq_false h, Bool.false_or]
      by_cases h2 : f ∈ l
      · rw [decide_eq_true h2, decide_eq_true (List.mem_cons_of_mem _ h2)]
      · rw [decide_eq_false h2, decide_eq_false]
        intro z
        rcases List.mem_cons.mp z with z | z
        · exact h z.symm
        · exact h2 z
theorem nats_flat : ∀ l : List Nat, (nats l).all flatV = true
  | [] => rfl
  | k :: l => by
    have ih := nats_flat l
    unfold nats at ih ⊢
    rw [List.map_cons, List.all_cons, ih]
    rfl
theorem nats_len (l : List Nat) : (nats l).length = l.length := List.length_map _
theorem nats_getD {l : List Nat} {i : Nat} (h : i < l.length) : (nats l)[i]? = some (.int ((l.getD i 0 : Nat) : Int)) := by
  refine nats_at ?_
  rw [List.getD_eq_getElem?_getD, List.getElem?_eq_getElem h]
  rfl
theorem last_nats {l : List Nat} (h : 1 ≤ l.length) : atI (nats l) (-1) = some (.int ((l.getD (l.length - 1) 0 : Nat) : Int)) := by
  unfold atI
  have e : ixN (nats l).length (-1) = some (l.length - 1) := by
    rw [nats_len]
    unfold ixN
    split
    · omega
    · split
      · congr 1
        omega
      · omega
  rw [e]
  exact nats_getD (by omega)
/-- the first two of a gate beside a box of a clock -/
theorem okZ_pd {z : Str} (h : okZ z) : (PyData.str z).canLay0 = true := by
  rw [PyData.canLay0, PyData.strOk, ← Array.all_toList, List.all_eq_true]
  exact fun c hc => decide_eq_true (Nat.lt_trans (h.2 c hc).1 (by decide))
theorem pd2_shaped {a b : Td} (h1 : (pd a).canLay0 = true) (h2 : (pd b).canLay0 = true) (h3 : (pd a).depth = 0) (h4 : (pd b).depth = 0) : SeqAt.shaped (pd (.tup [a, b])) = true := by
  rw [SeqAt.shaped, Bool.and_eq_true, decide_eq_true_eq]
  constructor
  · rw [pd, pdL, pdL, pdL, PyData.canLay0, PyData.canLayAll0, PyData.canLayAll0, PyData.canLayAll0, h1, h2]
    rfl
  · rw [pd, pdL, pdL, pdL, PyData.depth, PyData.depthAll, PyData.depthAll, PyData.depthAll, h3, h4]
    decide
theorem str_dp (z : Str) : (pd (.str z)).depth = 0 := by rw [pd, PyData.depth]
theorem int_dp (i : Int) : (pd (.int i)).depth = 0 := by rw [pd, PyData.depth]
theorem str_cl {z : Str} (h : okZ z) : (pd (.str z)).canLay0 = true := by rw [pd]; exact okZ_pd h
theorem int_cl (i : Int) : (pd (.int i)).canLay0 = true := by rw [pd, PyData.canLay0]
def Gt.one : Gt → Td
  | .inp x _ => .str x
  | .iz b => .int b
  | .box c _ _ => .str c
  | .nt a => .int a
  | .two _ a _ => .int a
theorem Gt.one_v (g : Gt) : ∃ v, g.vs[1]? = some v ∧ ∀ H, TdR H g.one v := by
  cases g with
  | inp x k => exact ⟨_, rfl, fun H => .str _⟩
  | iz b => exact ⟨_, rfl, fun H => .int _⟩
  | box c b d => exact ⟨_, rfl, fun H => .str _⟩
  | nt a => exact ⟨_, rfl, fun H => .int _⟩
  | two w a c => exact ⟨_, rfl, fun H => .int _⟩
theorem Gt.cut2 (g : Gt) : ∃ v, cutV g.vs none (some 2) = [.str g.kind, v] ∧ (∀ H, TdR H g.one v) ∧ (X9.whole g.vs.length none (some 2) → g.vs = [.str g.kind, v]) := by
  cases g with
  | inp x k => exact ⟨_, rfl, fun H => .str _, fun h => absurd h.2 (by show ¬ HT.sIx 3 3 (some 2) = 3; decide)⟩
  | iz b => exact ⟨_, rfl, fun H => .int _, fun _ => rfl⟩
  | box c b d => exact ⟨_, rfl, fun H => .str _, fun h => absurd h.2 (by show ¬ HT.sIx 4 4 (some 2) = 4; decide)⟩
  | nt a => exact ⟨_, rfl, fun H => .int _, fun _ => rfl⟩
  | two w a c => exact ⟨_, rfl, fun H => .int _, fun h => absurd h.2 (by show ¬ HT.sIx 3 3 (some 2) = 3; decide)⟩
theorem Gt.one_cl {g : Gt} (h : g.sm) : (pd g.one).canLay0 = true ∧ (pd g.one).depth = 0 := by
  cases g with
  | inp x k => exact ⟨str_cl h.1, str_dp _⟩
  | iz b => exact ⟨int_cl _, int_dp _⟩
  | box c b d => exact ⟨str_cl h.1, str_dp _⟩
  | nt a => exact ⟨int_cl _, int_dp _⟩
  | two w a c => exact ⟨int_cl _, int_dp _⟩
theorem Gt.kind_okZ {g : Gt} {n i : Nat} (h : g.ok n i) : okZ g.kind := by
  cases g with
  | inp x k => exact okZ_in
  | iz b => exact okZ_is
  | box c b d => exact okZ_box
  | nt a => exact okZ_not
  | two w a c =>
    obtain ⟨rfl | rfl | rfl, _⟩ := h
    · exact (okZ_dec (by decide +kernel) : okZ (Str.ofString "and"))
    · exact (okZ_dec (by decide +kernel) : okZ (Str.ofString "or"))
    · exact (okZ_dec (by decide +kernel) : okZ (Str.ofString "xor"))
theorem box_eqv {g : Gt} {n i : Nat} (h : g.ok n i) (c : Str) : PyData.eqv (pd (.tup [.str g.kind, g.one])) (pd (.tup [.str "box", .str c])) = g.isBox c := by
  have e1 : pd (.tup [.str g.kind, g.one]) = .tuple [.str g.kind, pd g.one] := by rw [pd, pdL, pdL, pdL, pd]
  have e2 : pd (.tup [.str "box", .str c]) = .tuple [.str "box", .str c] := by rw [pd, pdL, pdL, pdL, pd, pd]
  rw [e1, e2, PyData.eqv, PyData.eqvAll, PyData.eqvAll, PyData.eqvAll, PyData.eqv, Bool.and_true]
  have ks : ∀ z : Str, z ≠ "box" → (z == Str.ofString "box") = false := fun z hz => beq_eq_false_iff_ne.mpr hz
  cases g with
  | inp x k =>
    rw [show (Gt.inp x k).kind = "in" from rfl, ks _ (by decide +kernel), Bool.false_and]
    rfl
  | iz b =>
    rw [show (Gt.iz b).kind = "is" from rfl, ks _ (by decide +kernel), Bool.false_and]
    rfl
  | box c' b d =>
    rw [show (Gt.box c' b d).kind = "box" from rfl, show (Gt.box c' b d).one = .str c' from rfl, pd, PyData.eqv]
    show (Str.ofString "box" == Str.ofString "box" && c' == c) = decide (c' = c)
    rw [beq_self_eq_true, Bool.true_and]
    by_cases hc : c' = c
    · subst hc
      rw [beq_self_eq_true, decide_eq_true rfl]
    · rw [decide_eq_false hc]
      exact beq_eq_false_iff_ne.mpr hc
  | nt a =>
    rw [show (Gt.nt a).kind = "not" from rfl, ks _ (by decide +kernel), Bool.false_and]
    rfl
  | two w a d =>
    obtain ⟨hw, _, _⟩ := h
    have hb : (w == Str.ofString "box") = false := ks _ (by
      rcases hw with rfl | rfl | rfl
      · decide +kernel
      · decide +kernel
      · decide +kernel)
    rw [show (Gt.two w a d).kind = w from rfl, hb, Bool.false_and]
    rfl
/-- gate[:2] beside ("box", clock) -/
theorem cut_eq {K : PySem.W.Frag} {H : Hp} {gA : Addr} {g : Gt} {n i : Nat} {c : Str} {lo : Option Int} {F : V → Hp → Prop} (e : H gA = some (.tup g.vs)) (ok : g.ok n i) (sm : g.sm) (hc : okZ c) (elo : lo = none)
    (hF : ∀ (v : V) (H1 : Hp), Same H H1 → (∃ B, v = .ref B ∧ H1 B = some (.tup [.str g.kind, (g.vs[1]?).getD .non])) → F v H1) : X9.rSlTA K (.ref gA) lo (some 2) H F := by
  subst elo
  obtain ⟨v, h1, h2, h3⟩ := g.cut2
  have hv : (g.vs[1]?).getD .non = v := by
    have : cutV g.vs none (some 2) = [.str g.kind, v] := h1
    cases g <;> (have h4 := List.cons.inj h1; have h5 := List.cons.inj h4.2; exact h5.1)
  refine ⟨gA, g.vs, rfl, .inl (.inl e), fun w => ?_, fun _ p np => ?_⟩
  · refine hF _ H (Same.refl H) ⟨gA, rfl, ?_⟩
    rw [e, h3 w, ← h3 w, hv]
    rw [← h3 w]
  · refine hF _ _ (same_new np) ⟨p, rfl, ?_⟩
    rw [upd_same, h1, hv]
end K53

namespace K53
open PySem PySem.Spec PyProof.Rows L2 Kit
theorem box_dp {K : PySem.W.Frag} {H : Hp} {B : Addr} {g : Gt} (e : H B = some (.tup [.str g.kind, (g.vs[1]?).getD .non])) : Dp K H (.ref B) (pd (.tup [.str g.kind, g.one])) := by
  obtain ⟨v, h1, h2⟩ := g.one_v
  rw [h1] at e
  exact dp_of (.mk e (.cons (.str _) (.cons (h2 H) .nil)))
theorem clk_dp {K : PySem.W.Frag} {H : Hp} {p : Addr} {c : Str} (e : H p = some (.tup [.str "box", .str c])) : Dp K H (.ref p) (pd (.tup [.str "box", .str c])) := dp_of (.mk e (.cons (.str _) (.cons (.str _) .nil)))
theorem box_sh {g : Gt} {n i : Nat} (ok : g.ok n i) (sm : g.sm) : SeqAt.shaped (pd (.tup [.str g.kind, g.one])) = true := pd2_shaped (str_cl (Gt.kind_okZ ok)) (Gt.one_cl sm).1 (str_dp _) (Gt.one_cl sm).2
theorem clk_sh {c : Str} (h : okZ c) : SeqAt.shaped (pd (.tup [.str "box", .str c])) = true := pd2_shaped (str_cl okZ_box) (str_cl h) (str_dp _) (str_dp _)
theorem isBox_iff {g : Gt} {c : Str} : g.isBox c = true ↔ ∃ bit dd, g = .box c bit dd := by
  cases g with
  | box c' b d =>
    constructor
    · intro h
      have : c' = c := of_decide_eq_true h
      exact ⟨b, d, by rw [this]⟩
    · rintro ⟨b', d', e⟩
      cases e
      exact decide_eq_true rfl
  | _ => exact ⟨fun h => (by cases h), fun ⟨_, _, e⟩ => (by cases e)⟩
theorem cut_mid {l : List Nat} (h : 2 ≤ l.length) : cutV (nats l) (some 1) (some (-1)) = nats ((l.drop 1).take (l.length - 2)) := by
  unfold cutV
  have e1 : HT.sIx (nats l).length 0 (some 1) = 1 := by
    rw [show (some (1 : Int)) = some ((1 : Nat) : Int) from rfl, HT.sIx_nat, nats_len]
    omega
  have e2 : HT.sIx (nats l).length (nats l).length (some (-1)) = l.length - 1 := by
    rw [nats_len]
    show (if (-1 : Int) < 0 then ((-1 : Int) + (l.length : Int)).toNat else min (-1 : Int).toNat l.length) = _
    rw [if_pos (by decide)]
    omega
  rw [e1, e2]
  unfold nats
  rw [List.map_take, List.map_drop]
  rfl
theorem cut_one {l : List Nat} (h : 1 ≤ l.length) : cutV (nats l) (some 1) none = nats (l.drop 1) := by
  unfold cutV
  have e1 : HT.sIx (nats l).length 0 (some 1) = 1 := by
    rw [show (some (1 : Int)) = some ((1 : Nat) : Int) from rfl, HT.sIx_nat, nats_len]
    omega
  have e2 : HT.sIx (nats l).length (nats l).length none = l.length := by rw [nats_len]; rfl
  rw [e1, e2]
  unfold nats
  rw [List.map_drop]
  exact List.take_of_length_le (by rw [List.length_drop, List.length_map]; omega)
theorem mid_get {l : List Nat} {i : Nat} (h2 : 2 ≤ l.length) (h : i < ((l.drop 1).take (l.length - 2)).length) : ((l.drop 1).take (l.length - 2))[i]? = some (l.getD (i + 1) 0) := by
  rw [List.length_take, List.length_drop] at h
  rw [List.getElem?_take_of_lt (by omega), List.getElem?_drop, List.getD_eq_getElem?_getD, Nat.add_comm 1 i, List.getElem?_eq_getElem (by omega)]
  rfl
section
variable {P : Program} {w : World} {K : PySem.W.Frag} {mg : Str → Option Value} {base : Heap} {cF cD : Addr}
theorem ok_isp {f : Addr} {fd : FuncData} (D : DefAt K mg "is_path" ["gates", "clock", "thing"] s_is_path f fd) (M : Bi mg) (T : Tp K mg cF cD)
    (C_is_whole : Cal P w K mg base L2.CX0 2 "is_whole" ["thing", "end"] spWhole)
    (C_feeds_of : Cal P w K mg base L2.CX0 1 "feeds_of" ["gate"] spFeeds) :
    Cal P w K mg base L2.CX0 3 "is_path" ["gates", "clock", "thing"] spIsP := by
  have S := S_is_path
  refine cal_of D.fn D.mgf D.bs D.kbs S (fun vs H Q E h => ?_) (fun cdv A outer s H vs Q E hq hr h => ?_)
  · obtain ⟨vg, A, c, gs, pth, rfl, _⟩ := h
    rfl
  · obtain ⟨vg, A, c, gs, pth, rfl, hg, eA, gok, gl, lp, hc, gsm, q⟩ := h
    refine ⟨_, (pss_cons (ps_if (PW.pt (pw_or (pt_not (pt_val (pe_callB call_isi (by rfl) M.isinstance_ (by decide +kernel) (pa_cons (pv 2) (pa_cons (pe_bltn (v := .ty "tuple") (u := .type "tuple") (by rfl) M.tuple_ (by decide +kernel) rfl) pa_nil))))) (pw_or1 (pt_cmpR op_lt (pe_callB call_len_seq (by rfl) M.len_ (by decide +kernel) (pa_cons (pv 2) pa_nil)) pe_int (nomark _)))))
  (pss_one (ps_ret pe_bl))
  pss_nil)
 (pss_cons (ps_if (pt_not (pt_val (pe_callB (cr_all rfl) (by rfl) M.all_ (by decide +kernel) (pa_cons (pe_lc (own := [("g", 3)]) (g := gName 3) (tt := tYes) (te := (tCall spWhole [] E0 (tCons (tVar 3) (tCons (tCB (rLen1 K) (tCons (tVar 0) tNil)) tNil)))) rfl S.nd (pi_tup (pv 2)) (blkOk_by (own := [("g", 3)]) (N := N_is_path) (sc := defScope s_is_path) (by decide +kernel)) (fun _ _ _ _ _ => pg_name (i := 3) S.nd rfl (.inl rfl)) (fun _ _ _ _ _ => pts_nil) (fun _ _ _ _ _ => (pe_c C_is_whole pass0 hq hr (by omega) (by rfl) (pa_cons (pv 3) (pa_cons (pe_callB call_len_seq (by rfl) M.len_ (by decide +kernel) (pa_cons (pv 0) pa_nil)) pa_nil))))) pa_nil))))
  (pss_one (ps_ret pe_bl))
  pss_nil)
 (pss_cons (ps_if (PW.pt (pw_or (pt_cmpR op_in_seq (pe_ix ix_tup (pe_ix ix_tup (pv 0) (pe_ix ix_tup (pv 2) pe_int (fun _ _ => rfl)) (fun _ _ => rfl)) pe_int (fun _ _ => rfl)) (C8.pe_gc (by rfl) T.c_FED) rfl) (pw_or1 (pt_cmpR (op_neD hr.units) (pe_slice X9.sl_tupA (pe_ix ix_tup (pv 0) (pe_ix ix_tup (pv 2) (pe_un un_neg pe_int) (fun _ _ => rfl)) (fun _ _ => rfl)) po_none (po_some pe_int)) (pe_tup (pa_cons pe_str (pa_cons (pv 1) pa_nil))) (nomark _)))))
  (pss_one (ps_ret pe_bl))
  pss_nil)
 (pss_cons (ps_if (pt_not (pt_val (pe_callB (cr_all rfl) (by rfl) M.all_ (by decide +kernel) (pa_cons (pe_lc (own := [("g", 3)]) (g := gName 3) (tt := tYes) (te := (tOp (rIn K false) (tOp (rIxT K) (tOp (rIxT K) (tVar 0) (tVar 3)) (tC (.int 0))) (tC (.ref cF)))) rfl S.nd (pi_tup (pe_slice sl_tup (pv 2) (po_some pe_int) (po_some (pe_un un_neg pe_int)))) (blkOk_by (own := [("g", 3)]) (N := N_is_path) (sc := defScope s_is_path) (by decide +kernel)) (fun _ _ _ _ _ => pg_name (i := 3) S.nd rfl (.inl rfl)) (fun _ _ _ _ _ => pts_nil) (fun _ _ _ _ _ => (pe_cmpR op_in_seq (pe_ix ix_tup (pe_ix ix_tup (pv 0) (pv 3) (fun _ _ => rfl)) pe_int (fun _ _ => rfl)) (C8.pe_gc (by rfl) T.c_FED) rfl))) pa_nil))))
  (pss_one (ps_ret pe_bl))
  pss_nil)
 (pss_one (ps_ret (pe_callB (cr_all rfl) (by rfl) M.all_ (by decide +kernel) (pa_cons (pe_lc (own := [("feed", 4), ("g", 3)]) (g := (gTup K 2 (gCons (gName 4) (gCons (gName 3) gNil)))) (tt := tYes) (te := (tOp (rIn K false) (tVar 4) (tCall spFeeds [] E0 (tCons (tOp (rIxT K) (tVar 0) (tVar 3)) tNil)))) rfl S.nd (RZ.pi_zipA (by rfl) M.zip_ (pa_cons (pv 2) (pa_cons (pe_slice sl_tup (pv 2) (po_some pe_int) po_none) pa_nil))) (blkOk_by (own := [("feed", 4), ("g", 3)]) (N := N_is_path) (sc := defScope s_is_path) (by decide +kernel)) (fun _ _ _ _ _ => (pg_tup (by rfl) (pgs_cons (pg_name (i := 4) S.nd rfl (.inl rfl)) (pgs_cons (pg_name (i := 3) S.nd rfl (.inl rfl)) pgs_nil)))) (fun _ _ _ _ _ => pts_nil) (fun _ _ _ _ _ => (pe_cmpR op_in_seq (pv 4) (pe_c C_feeds_of pass0 hq hr (by omega) (by rfl) (pa_cons (pe_ix ix_tup (pv 0) (pv 3) (fun _ _ => rfl)) pa_nil)) rfl))) pa_nil)))))))), ?_⟩
    obtain ⟨G, gvs, rfl, hG, gal⟩ := hg.inv_tup
    have lg : gvs.length = gs.length := by rw [← gal.1, List.length_map]
    have big : 1000000 < sizeLine := by decide
    have gat : ∀ {k : Nat} {H' : Hp}, k < gs.length → Same H H' → ∃ g gA, gs[k]? = some g ∧ gvs[k]? = some (.ref gA) ∧ H' gA = some (.tup g.vs) ∧ TdR H' g.td (.ref gA) := by
      intro k H' hk sm
      obtain ⟨g, eg⟩ : ∃ g, gs[k]? = some g := ⟨gs[k], List.getElem?_eq_getElem hk⟩
      obtain ⟨v, ev, tv⟩ := all2_get gal (i := k) (t := g.td) (by rw [List.getElem?_map, eg]; rfl)
      obtain ⟨gA, rfl, e⟩ := gt_at (tv.same sm)
      exact ⟨g, gA, eg, ev, e, tv.same sm⟩
    refine ⟨.ref A, rfl, _, _, _, _, _, rfl, .ty "tuple", .base (.tup eA), kit_tt K, true, rfl, iteF ⟨.ref A, rfl, A, _, rfl, .inr (.inl (.inl eA)), _, 2, rfl, rfl, _, rfl, ?_⟩⟩
    rw [List.length_map]
    by_cases h2 : 2 ≤ pth.length
    · rw [decide_eq_false (show ¬ (pth.length : Int) < 2 by omega)]
      refine iteF ?_
      refine ⟨.ref A, rfl, A, rfl, ⟨_, .inl (.inl eA)⟩, fun Dl nD => ?_⟩
      refine lc_tup (K := K) (a := A) (xs := pth.map V.int) (fun i H' => Same H H' ∧ H' Dl = some (.lst (((pth.take i).map fun x => decide (0 ≤ x ∧ x < (gvs.length : Int))).map V.bl))) ?_ ?_ ?_ ?_
      · exact ⟨same_new nD, upd_same⟩
      · rintro i H' _ ⟨sm, _⟩
        exact .inl (.inl (sm _ _ eA))
      · rintro i v H' hv ⟨sm, eD⟩
        obtain ⟨x, hx, rfl⟩ := ints_get hv
        have hi := (List.getElem?_eq_some_iff.mp hx).1
        refine ⟨rfl, ?_⟩
        unfold tYes
        refine iteT ⟨.int x, rfl, .ref G, rfl, G, gvs, rfl, .inr (.inl (.inl (sm _ _ hG))), x, _, rfl, _, eD, ?_, same_mut sm nD, ?_⟩
        · rw [List.length_map, List.length_map, List.length_take]
          omega
        · rw [upd_same, take_bl _ hx]
      rintro H1 ⟨s1, eD⟩
      rw [List.length_map, List.take_of_length_le (Nat.le_refl _)] at eD
      refine ⟨Dl, _, rfl, .inl (.inl eD), _, rfl, ?_⟩
      rw [List.all_map]
      cases hn : (pth.all (id ∘ fun x => decide (0 ≤ x ∧ x < (gvs.length : Int)))) with
      | false =>
        refine iteT (q false H1 s1 ⟨fun z => (by cases z), fun z => ?_⟩)
        obtain ⟨l, rfl, hl⟩ := z
        have h3 : ((l.map (fun (k : Nat) => (k : Int))).all (id ∘ fun x => decide (0 ≤ x ∧ x < (gvs.length : Int)))) = true := List.all_eq_true.mpr fun x hx => by
          obtain ⟨k, hk, rfl⟩ := List.mem_map.mp hx
          have := hl.lt k hk
          exact decide_eq_true ⟨by omega, by omega⟩
        rw [hn] at h3
        cases h3
      | true =>
        refine iteF ?_
        obtain ⟨l, rfl, hlt⟩ := nat_of (n := gs.length) (pth := pth) fun x hx => by
          have := of_decide_eq_true (List.all_eq_true.mp hn x hx)
          omega
        rw [map_ints] at eA
        have inj : ∀ {l' : List Nat}, l.map (fun (k : Nat) => (k : Int)) = l'.map (fun (k : Nat) => (k : Int)) → l = l' := fun h => List.map_inj_right (fun a b z => Int.ofNat.inj z) |>.mp h
        have no : ∀ H', Same H H' → ¬ PthN gs c l → Q (.bl false) H' := fun H' sm hn => q false H' sm ⟨fun z => (by cases z), fun ⟨l', e, hl'⟩ => absurd (inj e ▸ hl') hn⟩
        have yes : ∀ H', Same H H' → PthN gs c l → Q (.bl true) H' := fun H' sm hn => q true H' sm ⟨fun _ => ⟨l, rfl, hn⟩, fun _ => rfl⟩
        rw [List.length_map] at h2 lp
        have hget : ∀ i, i < l.length → l.getD i 0 < gs.length := fun i hi => hlt _ (by
          rw [List.getD_eq_getElem?_getD, List.getElem?_eq_getElem hi]
          exact List.getElem_mem hi)
        obtain ⟨g0, a0, eg0, ev0, ea0, ta0⟩ := gat (hget 0 (by omega)) s1
        have eA1 := s1 _ _ eA
        have hG1 := s1 _ _ hG
        refine ⟨.ref G, rfl, .ref A, rfl, A, _, _, _, rfl, rfl, .inl (.inl eA1), atI_nat (nats_getD (i := 0) (by omega)), G, gvs, _, _, rfl, rfl, .inl (.inl hG1), atI_nat ev0, a0, _, _, _, rfl, rfl, .inl (.inl ea0), atI_nat (j := 0) g0.vs0, cF, _, rfl, .inr (T.d_FED _), rfl, rfl, _, rfl, ?_⟩
        dsimp only
        refine ite_in (fed_in (gok _ g0 eg0)) ?_
        cases hf0 : g0.fed with
        | true =>
          refine iteT (iteT (no _ s1 fun z => ?_))
          obtain ⟨g, e, hf⟩ := z.src
          rw [eg0] at e
          cases e
          rw [hf0] at hf
          cases hf
        | false =>
          refine iteF ?_
          obtain ⟨g1, a1, eg1, ev1, ea1, ta1⟩ := gat (hget (l.length - 1) (by omega)) s1
          have ok1 := gok _ g1 eg1
          have sm1 := gsm g1 (List.mem_of_getElem? eg1)
          refine ⟨.ref G, rfl, .ref A, rfl, _, rfl, A, _, _, _, rfl, rfl, .inl (.inl eA1), last_nats (by omega), G, gvs, _, _, rfl, rfl, .inl (.inl hG1), atI_nat ev1, 2, rfl, cut_eq ea1 ok1 sm1 hc rfl fun v H2 s2 hB => ?_⟩
          obtain ⟨B, rfl, eB⟩ := hB
          refine ⟨.str c, rfl, (by decide : (2 : Nat) ≤ sizeLine), fun p np => ?_⟩
          have s3 := same_new (o := .tup [.str "box", .str c]) np
          refine ⟨_, _, box_dp (s3 _ _ eB), clk_dp upd_same, box_sh ok1 sm1, clk_sh hc, _, rfl, ?_⟩
          rw [box_eqv ok1]
          have s03 := (s1.trans s2).trans s3
          revert s03
          generalize upd H2 p (.tup [.str "box", .str c]) = H3
          intro s03
          cases hb1 : g1.isBox c with
          | false =>
            refine iteT (no _ s03 fun z => ?_)
            obtain ⟨bit, dd, e⟩ := z.snk
            rw [eg1] at e
            cases e
            rw [isBox_iff.mpr ⟨bit, dd, rfl⟩] at hb1
            cases hb1
          | true =>
            refine iteF ?_
            have eA3 := s03 _ _ eA
            have nw : ¬ (HT.sIx (nats l).length 0 (some 1) = 0 ∧ HT.sIx (nats l).length (nats l).length (some (-1)) = (nats l).length) := by
              intro z
              have e1 : HT.sIx (nats l).length 0 (some 1) = 1 := by
                rw [show (some (1 : Int)) = some ((1 : Nat) : Int) from rfl, HT.sIx_nat, nats_len]
                omega
              rw [e1] at z
              exact absurd z.1 (by decide)
            refine ⟨.ref A, rfl, 1, rfl, 1, rfl, _, rfl, A, _, rfl, .inl (.inl eA3), nw, fun Mp nMp => ?_⟩
            rw [cut_mid h2]
            generalize eH4 : upd H3 Mp _ = H4
            have s4 : Same H H4 := eH4 ▸ s03.trans (same_new nMp)
            have eM : H4 Mp = some (.tup (nats ((l.drop 1).take (l.length - 2)))) := eH4 ▸ upd_same
            refine ⟨Mp, rfl, ⟨_, .inl (.inl eM)⟩, fun D2 nD2 => ?_⟩
            have lm : ((l.drop 1).take (l.length - 2)).length = l.length - 2 := by
              rw [List.length_take, List.length_drop]
              omega
            refine lc_tup (K := K) (a := Mp) (xs := nats ((l.drop 1).take (l.length - 2))) (fun i H' => Same H4 H' ∧ H' D2 = some (.lst (((((l.drop 1).take (l.length - 2)).take i).map fun k => fedB gs k).map V.bl))) ?_ ?_ ?_ ?_
            · exact ⟨same_new nD2, upd_same⟩
            · rintro i H' _ ⟨sm, _⟩
              exact .inl (.inl (sm _ _ eM))
            · rintro i v H' hv ⟨sm, eD2⟩
              have hi : i < ((l.drop 1).take (l.length - 2)).length := by
                rw [← nats_len]
                exact (List.getElem?_eq_some_iff.mp hv).1
              have hx := mid_get h2 hi
              rw [nats_at hx] at hv
              cases hv
              rw [lm] at hi
              obtain ⟨g, gA, eg, ev, ea, ta⟩ := gat (hget (i + 1) (by omega)) (s4.trans sm)
              refine ⟨rfl, ?_⟩
              unfold tYes
              refine iteT ⟨.ref G, rfl, .int _, rfl, G, gvs, _, _, rfl, rfl, .inl (.inl ((s4.trans sm) _ _ hG)), atI_nat ev, gA, _, _, _, rfl, rfl, .inl (.inl ea), atI_nat (j := 0) g.vs0, cF, _, rfl, .inr (T.d_FED _), rfl, rfl, _, eD2, ?_, same_mut sm nD2, ?_⟩
              · rw [List.length_map, List.length_map, List.length_take, lm]
                omega
              · rw [upd_same, take_bl _ hx]
                have e1 : (if false = true then !inV (V.str g.kind) [V.str "not", V.str "and", V.str "or", V.str "xor"] else inV (V.str g.kind) [V.str "not", V.str "and", V.str "or", V.str "xor"]) = fedB gs (l.getD (i + 1) 0) := by
                  rw [if_neg Bool.false_ne_true, fed_in (gok _ g eg)]
                  unfold fedB
                  rw [eg]
                rw [← e1]
            rintro H5 ⟨s5, eD2⟩
            rw [nats_len, List.take_of_length_le (Nat.le_refl _)] at eD2
            refine ⟨D2, _, rfl, .inl (.inl eD2), _, rfl, ?_⟩
            rw [List.all_map]
            have s05 := s4.trans s5
            cases hmd : (((l.drop 1).take (l.length - 2)).all (id ∘ fun k => fedB gs k)) with
            | false =>
              refine iteT (no _ s05 fun z => ?_)
              have h3 : (((l.drop 1).take (l.length - 2)).all (id ∘ fun k => fedB gs k)) = true := List.all_eq_true.mpr fun x hx => by
                obtain ⟨i, hi⟩ := List.getElem?_of_mem hx
                have hi2 := (List.getElem?_eq_some_iff.mp hi).1
                rw [mid_get h2 hi2] at hi
                cases hi
                rw [lm] at hi2
                obtain ⟨g, e, hf⟩ := z.mid (i + 1) (by omega) (by omega)
                show fedB gs _ = true
                unfold fedB
                rw [e]
                exact hf
              rw [hmd] at h3
              cases h3
            | true =>
              refine iteF ?_
              have eA5 := s05 _ _ eA
              have nw1 : ¬ (HT.sIx (nats l).length 0 (some 1) = 0 ∧ HT.sIx (nats l).length (nats l).length none = (nats l).length) := by
                intro z
                have e1 : HT.sIx (nats l).length 0 (some 1) = 1 := by
                  rw [show (some (1 : Int)) = some ((1 : Nat) : Int) from rfl, HT.sIx_nat, nats_len]
                  omega
                rw [e1] at z
                exact absurd z.1 (by decide)
              refine ⟨.ref A, rfl, .ref A, rfl, 1, rfl, A, _, rfl, .inl (.inl eA5), nw1, fun N nN => ?_⟩
              rw [cut_one (by omega)]
              generalize eH6 : upd H5 N _ = H6
              have s6 : Same H H6 := eH6 ▸ s05.trans (same_new nN)
              have eN : H6 N = some (.tup (nats (l.drop 1))) := eH6 ▸ upd_same
              have eA6 := s6 _ _ eA
              refine ⟨A, N, nats l, nats (l.drop 1), rfl, .inr ⟨.inl (.inl eA6), .inl (.inl eN), fun D3 nD3 => ?_⟩⟩
              have ln : l.length - 1 = (nats (l.drop 1)).length := by rw [nats_len, List.length_drop]
              refine lc_it (walk_zipT2 (K := K) (a := A) (b := N) (xs := nats l) (ys := nats (l.drop 1)) (n := l.length - 1) (by rw [nats_len]; omega) ln) (fun i H' => Same H6 H' ∧ H' D3 = some (.lst (((List.range i).map fun i => feedB gs (l.getD i 0) (l.getD (i + 1) 0)).map V.bl))) ?_ ?_ ?_ ?_
              · exact ⟨same_new nD3, upd_same⟩
              · rintro i H' _ ⟨sm, _⟩
                exact ⟨.inl (.inl (sm _ _ eA6)), .inl (.inl (sm _ _ eN))⟩
              · rintro i x H' H7 hi ⟨sm, eD3⟩ ⟨TT, u, v, rfl, nT, rfl, e1, e2⟩
                have e1 : (nats l)[i]? = some u := e1
                have e2 : (nats (l.drop 1))[i]? = some v := e2
                rw [nats_getD (by omega)] at e1
                have e2' : (nats (l.drop 1))[i]? = some (.int ((l.getD (i + 1) 0 : Nat) : Int)) := by
                  refine nats_at ?_
                  rw [List.getElem?_drop, Nat.add_comm 1 i, List.getD_eq_getElem?_getD, List.getElem?_eq_getElem (by omega)]
                  rfl
                rw [e2'] at e2
                cases e1
                cases e2
                refine ⟨TT, _, rfl, .inl (.inl upd_same), rfl, _, _, rfl, _, _, rfl, rfl, rfl, ?_⟩
                unfold tYes
                generalize eG1 : upd H' TT _ = G1
                have sT : Same H6 G1 := eG1 ▸ sm.trans (same_new nT)
                have eDT : G1 D3 = _ := eG1 ▸ (same_new nT) _ _ eD3
                obtain ⟨g, gA, eg, ev, ea, ta⟩ := gat (hget (i + 1) (by omega)) (s6.trans sT)
                refine iteT ⟨.int _, rfl, .ref G, rfl, .int _, rfl, G, gvs, _, _, rfl, rfl, .inl (.inl ((s6.trans sT) _ _ hG)), atI_nat ev, .ref gA, g, gs.length, _, rfl, ta, gok _ g eg, fun fv H8 s8 tf => ?_⟩
                obtain ⟨Fg, fvs, rfl, hFg, fal⟩ := tf.inv_tup
                obtain rfl := all2_ints fal
                refine ⟨Fg, _, rfl, .inr (.inl (.inl hFg)), rfl, nats_flat g.feeds, _, s8 _ _ eDT, ?_, same_mut (sT.trans s8) nD3, ?_⟩
                · rw [List.length_map, List.length_map, List.length_range]
                  omega
                · rw [upd_same, List.range_succ, List.map_append, List.map_append]
                  have e1 : (if false = true then !inV (V.int ((l.getD i 0 : Nat) : Int)) (nats g.feeds) else inV (V.int ((l.getD i 0 : Nat) : Int)) (nats g.feeds)) = feedB gs (l.getD i 0) (l.getD (i + 1) 0) := by
                    rw [if_neg Bool.false_ne_true, inV_nats]
                    unfold feedB
                    rw [eg]
                  rw [List.map_cons, List.map_nil, List.map_cons, List.map_nil, ← e1]
                  rfl
              rintro H7 ⟨s7, eD3⟩
              refine ⟨D3, _, rfl, .inl (.inl eD3), ?_⟩
              have s07 := s6.trans s7
              rw [List.all_map]
              cases hcn : ((List.range (l.length - 1)).all (id ∘ fun i => feedB gs (l.getD i 0) (l.getD (i + 1) 0))) with
              | false =>
                refine no _ s07 fun z => ?_
                have h3 : ((List.range (l.length - 1)).all (id ∘ fun i => feedB gs (l.getD i 0) (l.getD (i + 1) 0))) = true := List.all_eq_true.mpr fun i hi => by
                  have hi := List.mem_range.mp hi
                  obtain ⟨g, e, hf⟩ := z.con i (by omega)
                  show feedB gs _ _ = true
                  unfold feedB
                  rw [e]
                  exact decide_eq_true hf
                rw [hcn] at h3
                cases h3
              | true =>
                refine yes _ s07 ⟨h2, hlt, ⟨g0, eg0, hf0⟩, ?_, fun i h0 h1 => ?_, fun i h1 => ?_⟩
                · obtain ⟨bit, dd, e⟩ := isBox_iff.mp hb1
                  exact ⟨bit, dd, by rw [eg1, e]⟩
                · obtain ⟨g, eg⟩ : ∃ g, gs[l.getD i 0]? = some g := ⟨_, List.getElem?_eq_getElem (hget i (by omega))⟩
                  have hx : ((l.drop 1).take (l.length - 2))[i - 1]? = some (l.getD i 0) := by
                    rw [mid_get h2 (by rw [lm]; omega)]
                    rw [show i - 1 + 1 = i by omega]
                  have h3 := List.all_eq_true.mp hmd _ (List.mem_of_getElem? hx)
                  have h4 : fedB gs (l.getD i 0) = true := h3
                  unfold fedB at h4
                  rw [eg] at h4
                  exact ⟨g, eg, h4⟩
                · obtain ⟨g, eg⟩ : ∃ g, gs[l.getD (i + 1) 0]? = some g := ⟨_, List.getElem?_eq_getElem (hget (i + 1) h1)⟩
                  have h3 := List.all_eq_true.mp hcn i (List.mem_range.mpr (by omega))
                  have h4 : feedB gs (l.getD i 0) (l.getD (i + 1) 0) = true := h3
                  unfold feedB at h4
                  rw [eg] at h4
                  exact ⟨g, eg, of_decide_eq_true h4⟩
    · rw [decide_eq_true (show (pth.length : Int) < 2 by omega)]
      refine iteT (q false H (Same.refl H) ⟨fun z => (by cases z), fun z => ?_⟩)
      obtain ⟨l, rfl, hl⟩ := z
      rw [List.length_map] at h2
      exact absurd hl.two h2
end
end K53

namespace K53
open PySem PySem.Spec PyProof.Rows L2 Kit
/-! ### the time of a path -/
def lensTo (fs ls : List Nat) (f n : Nat) : List Int := ((List.range n).filter fun j => decide (fs[j]? = some f)).map fun j => ((ls.getD j 0 : Nat) : Int) - 1
theorem lensTo_succ {fs ls : List Nat} {f n : Nat} : lensTo fs ls f (n + 1) = if fs[n]? = some f then lensTo fs ls f n ++ [((ls.getD n 0 : Nat) : Int) - 1] else lensTo fs ls f n := by
  unfold lensTo
  rw [List.range_succ, List.filter_append, List.map_append]
  by_cases h : fs[n]? = some f
  · have e : ([n] : List Nat).filter (fun j => decide (fs[j]? = some f)) = [n] := by simp [h]
    rw [if_pos h, e]
    rfl
  · have e : ([n] : List Nat).filter (fun j => decide (fs[j]? = some f)) = [] := by simp [h]
    rw [if_neg h, e]
    exact List.append_nil _
theorem lensTo_mem {fs ls : List Nat} {f n : Nat} {z : Int} : z ∈ lensTo fs ls f n ↔ ∃ j, j < n ∧ fs[j]? = some f ∧ ((ls.getD j 0 : Nat) : Int) - 1 = z := by
  unfold lensTo
  rw [List.mem_map]
  constructor
  · rintro ⟨j, hj, e⟩
    obtain ⟨h1, h2⟩ := List.mem_filter.mp hj
    exact ⟨j, List.mem_range.mp h1, of_decide_eq_true h2, e⟩
  · rintro ⟨j, h1, h2, e⟩
    exact ⟨j, List.mem_filter.mpr ⟨List.mem_range.mpr h1, decide_eq_true h2⟩, e⟩
theorem lensTo_len (fs ls : List Nat) (f n : Nat) : (lensTo fs ls f n).length ≤ n := by
  unfold lensTo
  rw [List.length_map]
  have := List.length_filter_le (fun j => decide (fs[j]? = some f)) (List.range n)
  rw [List.length_range] at this
  exact this
def ownF (d : Own) (g : Gt) : Int := if g.fed = true then g.own d else 0
def stepT (gs : List Gt) (wl : List (List Way)) (d : Own) (f k : Nat) : Int := match gs[k]? with
  | some g => d.s * mxi (lensTo g.feeds (lens (wl.getD k [])) f g.feeds.length) + ownF d g
  | none => 0
def ptN (gs : List Gt) (wl : List (List Way)) (d : Own) (l : List Nat) : Nat → Int
  | 0 => 0
  | i + 1 => ptN gs wl d l i + stepT gs wl d (l.getD i 0) (l.getD (i + 1) 0)
def spPT (K : PySem.W.Frag) : Sp := fun vs H Q _ => ∃ (vg vw : V) (A a : Addr) (gs : List Gt) (wl : List (List Way)) (d : Own) (c : Str) (l : List Nat),
  vs = [vg, vw, .ref A, .ref a] ∧ TdR H (gatesT gs) vg ∧ TdR H (waysT wl) vw ∧ H A = some (.tup (nats l)) ∧ SqT K H a (ownV d) ∧ Okl gs wl ∧ d.ok ∧ gs.length ≤ 1000 ∧ l.length ≤ 1000000 ∧ PthN gs c l ∧
  ∀ H', Same H H' → Q (.int (ptN gs wl d l (l.length - 1))) H'
section
variable {P : Program} {w : World} {K : PySem.W.Frag} {mg : Str → Option Value} {base : Heap} {cF cD : Addr}
theorem own_if {σ : L2.St} {H : Hp} {Q : VK} {G gA a : Addr} {gvs : List V} {k n i : Nat} {g : Gt} {d : Own} (T : Tp K mg cF cD) (h0 : σ[0]? = some (some (.ref G))) (h6 : σ[6]? = some (some (.int (k : Int)))) (h3 : σ[3]? = some (some (.ref a)))
    (eG : H G = some (.tup gvs)) (ev : gvs[k]? = some (.ref gA)) (ea : H gA = some (.tup g.vs)) (tg : TdR H g.td (.ref gA)) (ok : g.ok n i) (hd : SqT K H a (ownV d)) (q : Q (.int (ownF d g)) H) :
    tIf (tTest (tOp (rIn K false) (tOp (rIxT K) (tOp (rIxT K) (tVar 0) (tVar 6)) (tC (.int 0))) (tC (.ref cF)))) (tCall (spOwn K) [] E0 (tCons (tOp (rIxT K) (tVar 0) (tVar 6)) (tCons (tVar 3) tNil))) (tC (.int 0)) σ H Q := by
  refine ⟨.ref G, h0, .int (k : Int), h6, G, gvs, _, _, rfl, rfl, .inl (.inl eG), atI_nat ev, gA, _, _, _, rfl, rfl, .inl (.inl ea), atI_nat (j := 0) g.vs0, cF, _, rfl, .inr (T.d_FED _), rfl, rfl, _, rfl, ?_⟩
  dsimp only
  refine ite_in (fed_in ok) ?_
  unfold ownF at q
  cases hf : g.fed with
  | true =>
    rw [hf, if_pos rfl] at q
    exact iteT ⟨.ref G, h0, .int (k : Int), h6, G, gvs, _, _, rfl, rfl, .inl (.inl eG), atI_nat ev, .ref a, h3, .ref gA, a, g, n, i, d, rfl, tg, hd, ok, hf, q⟩
  | false =>
    rw [hf, if_neg Bool.false_ne_true] at q
    exact iteF q
theorem ok_pt {f : Addr} {fd : FuncData} (D : DefAt K mg "path_time" ["gates", "ways", "path", "delays"] s_path_time f fd) (M : Bi mg) (T : Tp K mg cF cD)
    (C_own_delay : Cal P w K mg base L2.CX0 1 "own_delay" ["gate", "delays"] (spOwn K))
    (C_feeds_of : Cal P w K mg base L2.CX0 1 "feeds_of" ["gate"] spFeeds) :
    Cal P w K mg base L2.CX0 2 "path_time" ["gates", "ways", "path", "delays"] (spPT K) := by
  have S := S_path_time
  refine cal_of D.fn D.mgf D.bs D.kbs S (fun vs H Q E h => ?_) (fun cdv A outer s H vs Q E hq hr h => ?_)
  · obtain ⟨vg, vw, A, a, gs, wl, d, c, l, rfl, _⟩ := h
    rfl
  · obtain ⟨vg, vw, A, a, gs, wl, d, c, l, rfl, hg, hw, eA, hd, ok, od, gl, ll, hp, q⟩ := h
    refine ⟨_, (pss_cons (ps_set (i := 4) S.nd rfl (.inl rfl) pe_int)
 (pss_cons (ps_for PassesOwn.never rfl (RZ.pi_zipA (by rfl) M.zip_ (pa_cons (pv 2) (pa_cons (pe_slice sl_tup (pv 2) (po_some pe_int) po_none) pa_nil))) (pg_tup (by rfl) (pgs_cons (pg_name (i := 5) S.nd rfl (.inr rfl)) (pgs_cons (pg_name (i := 6) S.nd rfl (.inl rfl)) pgs_nil)))
  (pss_cons (ps_set (i := 7) S.nd rfl (.inl rfl) (pe_ifExp (pt_cmpR op_in_seq (pe_ix ix_tup (pe_ix ix_tup (pv 0) (pv 6) (fun _ _ => rfl)) pe_int (fun _ _ => rfl)) (C8.pe_gc (by rfl) T.c_FED) rfl) (pe_c C_own_delay pass0 hq hr (by omega) (by rfl) (pa_cons (pe_ix ix_tup (pv 0) (pv 6) (fun _ _ => rfl)) (pa_cons (pv 3) pa_nil))) pe_int))
 (pss_cons (ps_setLc (i := 8) (own := [("way", 9), ("fed", 10)]) (g := (gTup K 2 (gCons (gName 9) (gCons (gName 10) gNil)))) (te := (tOp (rI0 fun i j => .int (i - j)) (tCB (rLen1 K) (tCons (tVar 9) tNil)) (tC (.int 1)))) rfl S.nd rfl rfl (sw_true rfl rfl rfl (by decide +kernel)) (RZ.pi_zipA (by rfl) M.zip_ (pa_cons (pe_ix ix_tup (pv 1) (pv 6) (fun _ _ => rfl)) (pa_cons (pe_c C_feeds_of pass0 hq hr (by omega) (by rfl) (pa_cons (pe_ix ix_tup (pv 0) (pv 6) (fun _ _ => rfl)) pa_nil)) pa_nil))) (blkOk_by (own := [("way", 9), ("fed", 10)]) (N := N_path_time) (sc := defScope s_path_time) (by decide +kernel)) (fun _ _ _ _ _ => (pg_tup (by rfl) (pgs_cons (pg_name (i := 9) S.nd rfl (.inl rfl)) (pgs_cons (pg_name (i := 10) S.nd rfl (.inl rfl)) pgs_nil)))) (fun _ _ _ _ _ => (pts_one (pt_cmpR op_eq (pv 10) (pv 5) (nomark _)))) (fun _ _ _ _ _ => (pe_op op_sub (pe_callB call_len_seq (by rfl) M.len_ (by decide +kernel) (pa_cons (pv 9) pa_nil)) pe_int)))
 (pss_one (ps_aug (i := 4) S.nd rfl (.inl rfl) (pe_op op_add (pe_op op_mulB (pe_ix ix_tup (pv 3) pe_int (fun _ _ => rfl)) (pe_callB (cr_max rfl) (by rfl) M.max_ (by decide +kernel) (pa_cons (pv 8) pa_nil))) (pv 7)) ip_add)))))
 (pss_one (ps_ret (pv 4))))), ?_⟩
    obtain ⟨G, gvs, rfl, hG, gal⟩ := hg.inv_tup
    obtain ⟨W, wvs, rfl, hW, wal⟩ := hw.inv_tup
    have h2 := hp.two
    have hget : ∀ i, i < l.length → l.getD i 0 < gs.length := fun i hi => hp.lt _ (by
      rw [List.getD_eq_getElem?_getD, List.getElem?_eq_getElem hi]
      exact List.getElem_mem hi)
    have gat : ∀ {k : Nat} {H' : Hp}, k < gs.length → Same H H' → ∃ g gA, gs[k]? = some g ∧ gvs[k]? = some (.ref gA) ∧ H' gA = some (.tup g.vs) ∧ TdR H' g.td (.ref gA) := by
      intro k H' hk sm
      obtain ⟨g, eg⟩ : ∃ g, gs[k]? = some g := ⟨gs[k], List.getElem?_eq_getElem hk⟩
      obtain ⟨v, ev, tv⟩ := all2_get gal (i := k) (t := g.td) (by rw [List.getElem?_map, eg]; rfl)
      obtain ⟨gA, rfl, e⟩ := gt_at (tv.same sm)
      exact ⟨g, gA, eg, ev, e, tv.same sm⟩
    have nw1 : ¬ (HT.sIx (nats l).length 0 (some 1) = 0 ∧ HT.sIx (nats l).length (nats l).length none = (nats l).length) := by
      intro z
      have e1 : HT.sIx (nats l).length 0 (some 1) = 1 := by
        rw [show (some (1 : Int)) = some ((1 : Nat) : Int) from rfl, HT.sIx_nat, nats_len]
        omega
      rw [e1] at z
      exact absurd z.1 (by decide)
    refine ⟨.ref A, rfl, .ref A, rfl, 1, rfl, A, _, rfl, .inl (.inl eA), nw1, fun N nN => ?_⟩
    rw [cut_one (by omega)]
    generalize eH6 : upd H N _ = H6
    have s6 : Same H H6 := eH6 ▸ same_new nN
    have eN : H6 N = some (.tup (nats (l.drop 1))) := eH6 ▸ upd_same
    have eA6 := s6 _ _ eA
    have ln : l.length - 1 = (nats (l.drop 1)).length := by rw [nats_len, List.length_drop]
    refine ⟨A, N, nats l, nats (l.drop 1), rfl, .inr ⟨.inl (.inl eA6), .inl (.inl eN), for_it (walk_zipT2 (K := K) (a := A) (b := N) (xs := nats l) (ys := nats (l.drop 1)) (n := l.length - 1) (by rw [nats_len]; omega) ln) (fun i σ H' => Same H6 H' ∧ ∃ x5 x6 x7 x8 x9 x10 : Option V,
      σ = [some (.ref G), some (.ref W), some (.ref A), some (.ref a), some (.int (ptN gs wl d l i)), x5, x6, x7, x8, x9, x10]) ?_ ?_ ?_ ?_⟩⟩
    · exact ⟨Same.refl _, none, none, none, none, none, none, rfl⟩
    · rintro i σ H' _ ⟨sm, _⟩
      exact ⟨.inl (.inl (sm _ _ eA6)), .inl (.inl (sm _ _ eN))⟩
    · rintro i x σ H' H7 hi ⟨sm, x5, x6, x7, x8, x9, x10, rfl⟩ ⟨TT, u, v, rfl, nT, rfl, e1, e2⟩
      have e1 : (nats l)[i]? = some u := e1
      have e2 : (nats (l.drop 1))[i]? = some v := e2
      rw [nats_getD (by omega)] at e1
      have e2' : (nats (l.drop 1))[i]? = some (.int ((l.getD (i + 1) 0 : Nat) : Int)) := by
        refine nats_at ?_
        rw [List.getElem?_drop, Nat.add_comm 1 i, List.getD_eq_getElem?_getD, List.getElem?_eq_getElem (by omega)]
        rfl
      rw [e2'] at e2
      cases e1
      cases e2
      refine ⟨TT, _, rfl, .inl (.inl upd_same), rfl, _, _, rfl, _, _, rfl, rfl, ?_⟩
      generalize eG1 : upd H' TT _ = G1
      have sT : Same H6 G1 := eG1 ▸ sm.trans (same_new nT)
      have s0 := s6.trans sT
      have hk := hget (i + 1) (by omega)
      generalize ek : l.getD (i + 1) 0 = k at hk
      generalize ef : l.getD i 0 = f
      obtain ⟨g, gA, eg, ev, ea, tg⟩ := gat hk s0
      have okg := ok.gate k g eg
      refine own_if T rfl rfl rfl (s0 _ _ hG) ev ea tg okg (sqt_same hd s0) ?_
      obtain ⟨ws, ew, lw, hws⟩ := ok.at eg
      obtain ⟨wv, ewv, twv⟩ := all2_get wal (i := k) (t := .tup (ws.map wayT)) (by rw [List.getElem?_map, ew]; rfl)
      refine ⟨.ref W, rfl, .int (k : Int), rfl, W, _, _, _, rfl, rfl, .inl (.inl (s0 _ _ hW)), atI_nat ewv, .ref G, rfl, .int (k : Int), rfl, G, gvs, _, _, rfl, rfl, .inl (.inl (s0 _ _ hG)), atI_nat ev, .ref gA, g, gs.length, k, rfl, tg, okg, fun fv H8 s8 tf => ?_⟩
      have s08 := s0.trans s8
      obtain ⟨Wg, cvs, rfl, hWg, cal⟩ := (twv.same s08).inv_tup
      obtain ⟨Fg, fvs, rfl, hFg, fal⟩ := tf.inv_tup
      obtain rfl := all2_ints fal
      have n2 : g.feeds.length = cvs.length := by rw [← cal.1, List.length_map, lw]
      have n1 : g.feeds.length = (g.feeds.map fun (k : Nat) => V.int (k : Int)).length := (List.length_map _).symm
      have hf2 := g.feeds_le
      refine ⟨Wg, Fg, _, _, rfl, .inr ⟨.inl (.inl hWg), .inl (.inl hFg), fun D1 nD => ?_⟩⟩
      refine lc_it (walk_zipT (K := K) (a := Wg) (b := Fg) (xs := cvs) (ys := g.feeds.map fun (k : Nat) => V.int (k : Int)) n2 n1) (fun j H' => Same H8 H' ∧ H' D1 = some (.lst ((lensTo g.feeds (lens ws) f j).map V.int))) ?_ ?_ ?_ ?_
      · exact ⟨same_new nD, upd_same⟩
      · rintro j H' _ ⟨sm2, _⟩
        exact ⟨.inl (.inl (sm2 _ _ hWg)), .inl (.inl (sm2 _ _ hFg))⟩
      · rintro j x H' H9 hj ⟨sm2, eD⟩ ⟨T2, u, v, rfl, nT2, rfl, e1, e2⟩
        have e1 : cvs[j]? = some u := e1
        have e2 : (g.feeds.map fun (k : Nat) => V.int (k : Int))[j]? = some v := e2
        obtain ⟨y, hy⟩ : ∃ y, g.feeds[j]? = some y := ⟨g.feeds[j], List.getElem?_eq_getElem hj⟩
        rw [List.getElem?_map, hy] at e2
        cases e2
        obtain ⟨wy, hwy⟩ : ∃ wy, ws[j]? = some wy := ⟨ws[j]'(by omega), List.getElem?_eq_getElem (by omega)⟩
        have tu := cal.2 j (wayT wy) u (by rw [List.getElem?_map, hwy]; rfl) e1
        refine ⟨T2, _, rfl, .inl (.inl upd_same), rfl, _, _, rfl, _, _, rfl, rfl, rfl, ?_⟩
        generalize eG2 : upd H' T2 _ = G2
        have sT2 : Same H8 G2 := eG2 ▸ sm2.trans (same_new nT2)
        have eDT : G2 D1 = _ := eG2 ▸ (same_new nT2) _ _ eD
        obtain ⟨uA, uvs, rfl, euA, ual⟩ := (tu.same sT2).inv_tup
        have lu : uvs.length = wy.length := by rw [← ual.1, List.length_map]
        refine ⟨.int (y : Int), rfl, .int (f : Int), rfl, rfl, _, rfl, ?_⟩
        have dec : decide (V.int (y : Int) = V.int (f : Int)) = decide (g.feeds[j]? = some f) := by
          rw [hy]
          by_cases h : y = f
          · subst h
            rw [decide_eq_true rfl, decide_eq_true rfl]
          · rw [decide_eq_false (fun z => h (by have := V.int.inj z; omega)), decide_eq_false (fun z => h (Option.some.inj z))]
        rw [dec]
        by_cases h : g.feeds[j]? = some f
        · rw [decide_eq_true h]
          refine iteT ⟨.ref uA, rfl, uA, _, rfl, .inr (.inl (.inl euA)), _, 1, rfl, rfl, _, eDT, ?_, same_mut sT2 nD, ?_⟩
          · rw [List.length_map]
            have := lensTo_len g.feeds (lens ws) f j
            have : 1000 < sizeLine := by decide
            omega
          · rw [upd_same, lensTo_succ, if_pos h, List.map_append, lu]
            have e3 : (lens ws).getD j 0 = wy.length := by
              unfold lens
              rw [List.getD_eq_getElem?_getD, List.getElem?_map, hwy]
              rfl
            rw [e3]
            rfl
        · rw [decide_eq_false h]
          refine iteF ⟨sT2, ?_⟩
          rw [lensTo_succ, if_neg h]
          exact eDT
      rintro H9 ⟨s9, eD9⟩
      have s09 := s08.trans s9
      have hff : f ∈ g.feeds := by
        obtain ⟨g', eg', hf'⟩ := hp.con i (by omega)
        rw [ek, eg] at eg'
        cases eg'
        rw [ef] at hf'
        exact hf'
      obtain ⟨j0, hj0⟩ := List.getElem?_of_mem hff
      have hj0l := (List.getElem?_eq_some_iff.mp hj0).1
      have mem0 : ((((lens ws).getD j0 0 : Nat) : Int) - 1) ∈ lensTo g.feeds (lens ws) f g.feeds.length := lensTo_mem.mpr ⟨j0, hj0l, hj0, rfl⟩
      refine ⟨_, rfl, .ref a, rfl, a, _, _, _, rfl, rfl, sqt_same hd s09, atI_nat (j := 0) rfl, .ref D1, rfl, D1, _, rfl, .inl (.inl eD9), List.length_pos_of_mem mem0, fun m hm hmx => ?_⟩
      refine ⟨_, _, rfl, rfl, ?_, .int (ownF d g), rfl, _, _, rfl, rfl, _, _, rfl, rfl, ?_⟩
      · have h0 := od.1
        have h1 := od.2
        exact .of_left (intBits_le_64 (by omega) (by omega))
      · refine ⟨(sT.trans s8).trans s9, some (.int (f : Int)), some (.int (k : Int)), some (.int (ownF d g)), some (.ref D1), x9, x10, ?_⟩
        have e4 : ptN gs wl d l (i + 1) = ptN gs wl d l i + (d.s * m + ownF d g) := by
          rw [ptN, ek, ef]
          unfold stepT
          rw [eg]
          show _ + (d.s * mxi _ + _) = _
          rw [List.getD_eq_getElem?_getD, ew]
          show _ + (d.s * mxi (lensTo g.feeds (lens ws) f g.feeds.length) + _) = _
          rw [mxi_eq hm hmx]
        rw [e4]
        rfl
    · rintro σ H' ⟨sm, x5, x6, x7, x8, x9, x10, rfl⟩
      exact ⟨_, rfl, q H' (s6.trans sm)⟩
end
end K53

namespace K53
open PySem PySem.Spec PyProof.Rows L2 Kit
/-! ### papers that are let by -/
def pSh : List Str := ["net", "laying", "clock", "thing", "delays"]
theorem sh_binds {K : PySem.W.Frag} {f cD : Addr} {fd : FuncData} (F : FunD K "slowest_holds" "slowest_holds" (defArgs s_slowest_holds) (defBody s_slowest_holds) (defScope s_slowest_holds) [] [("delays", .ref cD)] f fd) :
    ∃ g, KBn K fd pSh 4 ["delays"] g gvP := by
  obtain ⟨mv, h⟩ := F.kbinds0 (ps := pSh) 4 ["delays"] [] (fun us mv ws => us ++ ws) (by simp) (fun q hq => by cases hq) (fun r1 r2 r3 => r1.append r3) (fun D doc pm an cdv ct us mv ws l1 l2 l3 => by
      match us, mv, ws, l1, l2, l3 with
      | [a, b, c, x], [], [d], _, _, _ => exact rfl)
  exact ⟨_, h⟩
structure Hold (gs : List Gt) (wl : List (List Way)) (d : Own) (c : Str) (t : Int) (pth arr : List Int) : Prop where
  t0 : 0 ≤ t
  ao : ArrOk gs wl d arr
  way : (boxesN gs c gs.length = [] ∧ t = 0 ∧ pth = []) ∨ (boxesN gs c gs.length ≠ [] ∧ (∀ b ∈ boxesN gs c gs.length, boxT gs wl arr d.s b ≤ t) ∧
    ∃ l : List Nat, pth = l.map (fun (k : Nat) => (k : Int)) ∧ PthN gs c l ∧ ptN gs wl d l (l.length - 1) = t)
def spHold (K : PySem.W.Frag) : Sp := fun vs H Q _ => ∃ (N Y TH PA AA a : Addr) (c : Str) (gs : List Gt) (cs : List (Int × Int)) (wl : List (List Way)) (d : Own) (t : Int) (pth arr : List Int),
  vs = [.ref N, .ref Y, .str c, .ref TH, .ref a] ∧ TdR H (netT gs) (.ref N) ∧ TdR H (layT cs wl) (.ref Y) ∧ H TH = some (.tup [.int t, .ref PA, .ref AA]) ∧ H PA = some (.tup (pth.map V.int)) ∧ H AA = some (.tup (arr.map V.int)) ∧
  SqT K H a (ownV d) ∧ Okl gs wl ∧ d.ok ∧ gs.length ≤ 1000 ∧ pth.length ≤ 1000000 ∧ arr.length ≤ 1000000 ∧ okZ c ∧ (∀ g ∈ gs, g.sm) ∧
  ∀ (b : Bool) (H' : Hp), Same H H' → (b = true ↔ Hold gs wl d c t pth arr) → Q (.bl b) H'
theorem all2_ints2 {H : Hp} : ∀ {ns : List Int} {vs : List V}, All2 H (ns.map Td.int) vs → vs = ns.map V.int
  | [], vs, h => h.inv_nil
  | n :: ns, vs, h => by
    obtain ⟨v, vs', rfl, h1, h2⟩ := h.inv_cons
    rw [h1.inv_int, all2_ints2 h2]
    rfl
theorem boxT_at {gs : List Gt} {wl : List (List Way)} {arr : List Int} {s : Int} {b : Nat} {c : Str} {bit : Int} {dd : Nat} {w0 : Way} (eg : gs[b]? = some (.box c bit dd)) (ew : wl[b]? = some [w0]) :
    arr.getD dd 0 + s * ((w0.length : Int) - 1) = boxT gs wl arr s b := by
  unfold boxT
  rw [eg, List.getD_eq_getElem?_getD, List.getD_eq_getElem?_getD, ew]
  rfl
def lateN (gs : List Gt) (wl : List (List Way)) (arr : List Int) (s t : Int) (bs : List Nat) : List Nat := bs.filter fun b => decide (t < boxT gs wl arr s b)
theorem lateN_snoc {gs : List Gt} {wl : List (List Way)} {arr : List Int} {s t : Int} {bs : List Nat} {i b : Nat} (e : bs[i]? = some b) :
    lateN gs wl arr s t (bs.take (i + 1)) = if t < boxT gs wl arr s b then lateN gs wl arr s t (bs.take i) ++ [b] else lateN gs wl arr s t (bs.take i) := by
  unfold lateN
  rw [List.take_add_one, e, List.filter_append]
  show _ ++ [b].filter _ = _
  by_cases h : t < boxT gs wl arr s b
  · have e2 : [b].filter (fun b => decide (t < boxT gs wl arr s b)) = [b] := by simp [h]
    rw [if_pos h, e2]
  · have e2 : [b].filter (fun b => decide (t < boxT gs wl arr s b)) = [] := by simp [h]
    rw [if_neg h, e2, List.append_nil]
section
variable {P : Program} {w : World} {K : PySem.W.Frag} {mg : Str → Option Value} {base : Heap} {cF cD : Addr}
theorem ok_hold {f : Addr} {fd : FuncData} (F : FunD K "slowest_holds" "slowest_holds" (defArgs s_slowest_holds) (defBody s_slowest_holds) (defScope s_slowest_holds) [] [("delays", .ref cD)] f fd) (M : Bi mg)
    (C_is_natural : Cal P w K mg base L2.CX0 1 "is_natural" ["thing"] spNat)
    (C_is_tuple : Cal P w K mg base L2.CX0 1 "is_tuple" ["thing", "many"] spTupM)
    (C_brought : Cal P w K mg base L2.CX0 2 "brought" ["arrivals", "gates", "ways", "g", "step"] (spBro K))
    (C_are_arrivals : Cal P w K mg base L2.CX0 3 "are_arrivals" ["gates", "ways", "thing", "delays"] (spArr K))
    (C_is_path : Cal P w K mg base L2.CX0 3 "is_path" ["gates", "clock", "thing"] spIsP)
    (C_path_time : Cal P w K mg base L2.CX0 2 "path_time" ["gates", "ways", "path", "delays"] (spPT K)) : FnG P w K mg base L2.CX0 4 f fd pSh (spHold K) := by
  have S := S_slowest_holds
  refine fng_of (He5.fun_of F) S (fun vs H Q E h => ?_) (fun cdv A outer s H vs Q E hq hr h => ?_)
  · obtain ⟨N, Y, TH, PA, AA, a, c, gs, cs, wl, d, t, pth, arr, rfl, _⟩ := h
    rfl
  · obtain ⟨N, Y, TH, PA, AA, a, c, gs, cs, wl, d, t, pth, arr, rfl, hN, hY, eTH, ePA, eAA, hd, ok, od, gl, lp, la, hc, gsm, q⟩ := h
    refine ⟨_, (pss_cons (ps_set (i := 5) S.nd rfl (.inr rfl) (pe_ix ix_tup (pv 0) pe_int (fun _ _ => rfl)))
 (pss_cons (ps_set (i := 6) S.nd rfl (.inr rfl) (pe_ix ix_tup (pv 1) pe_int (fun _ _ => rfl)))
 (pss_cons (ps_if (pt_not (pt_val (pe_c C_is_tuple pass0 hq hr (by omega) (by rfl) (pa_cons (pv 3) (pa_cons pe_int pa_nil)))))
  (pss_one (ps_ret pe_bl))
  pss_nil)
 (pss_cons (ps_asg (pv 3) (pg_tup (by rfl) (pgs_cons (pg_name (i := 7) S.nd rfl (.inr rfl)) (pgs_cons (pg_name (i := 8) S.nd rfl (.inl rfl)) (pgs_cons (pg_name (i := 9) S.nd rfl (.inr rfl)) pgs_nil)))))
 (pss_cons (ps_if (PW.pt (pw_or (pt_not (pt_val (pe_c C_is_natural pass0 hq hr (by omega) (by rfl) (pa_cons (pv 7) pa_nil)))) (pw_or1 (pt_not (pt_val (pe_c C_are_arrivals pass0 hq hr (by omega) (by rfl) (pa_cons (pv 5) (pa_cons (pv 6) (pa_cons (pv 9) (pa_cons (pv 4) pa_nil))))))))))
  (pss_one (ps_ret pe_bl))
  pss_nil)
 (pss_cons (ps_setLc (i := 10) (own := [("g", 11), ("gate", 12)]) (g := (gTup K 2 (gCons (gName 11) (gCons (gName 12) gNil)))) (tt := (tTest (tOp (rEqD K) (tSl (X9.rSlTA K) (tVar 12) tNoPart (tPart (tC (.int 2)))) (tTup (tCons (tC (.str "box")) (tCons (tVar 2) tNil)))))) rfl S.nd rfl rfl (sw_true rfl rfl rfl (by decide +kernel)) (pi_enumT (by rfl) M.enumerate_ (pa_cons (pv 5) pa_nil)) (blkOk_by (own := [("g", 11), ("gate", 12)]) (N := N_slowest_holds) (sc := defScope s_slowest_holds) (by decide +kernel)) (fun _ _ _ _ _ => (pg_tup (by rfl) (pgs_cons (pg_name (i := 11) S.nd rfl (.inl rfl)) (pgs_cons (pg_name (i := 12) S.nd rfl (.inl rfl)) pgs_nil)))) (fun _ _ _ _ _ => (pts_one (pt_cmpR (op_eqD hr.units) (pe_slice X9.sl_tupA (pv 12) po_none (po_some pe_int)) (pe_tup (pa_cons pe_str (pa_cons (pv 2) pa_nil))) (nomark _)))) (fun _ _ _ _ _ => (pv 11)))
 (pss_cons (ps_if (pt_not (pt_truth (pv 10) (by intro _; rfl)))
  (pss_one (ps_ret (pe_and (pe_cmpR op_eq (pv 7) pe_int (nomark _)) (pe_one (pe_cmpR (op_eqD hr.units) (pv 8) (pe_tup pa_nil) (nomark _))))))
  pss_nil)
 (pss_cons (ps_setLc (i := 13) (own := [("g", 11)]) (g := gName 11) (tt := (tTest (tOp (rI0 fun i j => V.bl (decide (j < i))) (tOp (rIxT K) (tOp (rIxL K) (tCall (spBro K) [] E0 (tCons (tVar 9) (tCons (tVar 5) (tCons (tVar 6) (tCons (tVar 11) (tCons (tOp (rIxT K) (tVar 4) (tC (.int 0))) tNil)))))) (tC (.int 0))) (tC (.int 0))) (tVar 7)))) rfl S.nd rfl rfl (sw_true rfl rfl rfl (by decide +kernel)) (pi_list (pv 10)) (blkOk_by (own := [("g", 11)]) (N := N_slowest_holds) (sc := defScope s_slowest_holds) (by decide +kernel)) (fun _ _ _ _ _ => pg_name (i := 11) S.nd rfl (.inl rfl)) (fun _ _ _ _ _ => (pts_one (pt_cmpR op_gt (pe_ix ix_tup (pe_ix ix_list (pe_c C_brought pass0 hq hr (by omega) (by rfl) (pa_cons (pv 9) (pa_cons (pv 5) (pa_cons (pv 6) (pa_cons (pv 11) (pa_cons (pe_ix ix_tup (pv 4) pe_int (fun _ _ => rfl)) pa_nil)))))) pe_int (fun _ _ => rfl)) pe_int (fun _ _ => rfl)) (pv 7) (nomark _)))) (fun _ _ _ _ _ => (pv 11)))
 (pss_one (ps_ret (pe_and (pe_notT (pv 13)) (pe_and (pe_c C_is_path pass0 hq hr (by omega) (by rfl) (pa_cons (pv 5) (pa_cons (pv 2) (pa_cons (pv 8) pa_nil)))) (pe_one (pe_cmpR op_eq (pe_c C_path_time pass0 hq hr (by omega) (by rfl) (pa_cons (pv 5) (pa_cons (pv 6) (pa_cons (pv 8) (pa_cons (pv 4) pa_nil))))) (pv 7) (nomark _))))))))))))))), ?_⟩
    obtain ⟨N', G, gvs, rest, e', eN, hg, hG, gal, lg⟩ := net_inv hN
    cases e'
    obtain ⟨Y', vc, W, wvs, e', eY, hw, hW, wal⟩ := lay_inv hY
    cases e'
    have big : 1000000 < sizeLine := by decide
    refine ⟨.ref N, rfl, N, _, _, _, rfl, rfl, .inl (.inl eN), atI_nat (j := 0) rfl, .ref Y, rfl, Y, _, _, _, rfl, rfl, .inl (.inl eY), atI_nat (j := 1) rfl, .ref TH, rfl, TH, _, 3, rfl, eTH, _, rfl, iteF ?_⟩
    refine ⟨.ref TH, rfl, TH, _, rfl, .inl (.inl eTH), rfl, _, _, rfl, _, _, rfl, _, _, rfl, rfl, ?_⟩
    refine ⟨.int t, rfl, t, rfl, _, rfl, ?_⟩
    by_cases ht : 0 ≤ t
    · rw [decide_eq_true ht]
      refine iteF ⟨.ref G, rfl, .ref W, rfl, .ref AA, rfl, .ref a, rfl, .ref G, .ref W, AA, a, gs, wl, d, arr, rfl, hg, hw, eAA, hd, ok, od, gl, la, fun ba H1 s1 hba => ⟨_, rfl, ?_⟩⟩
      cases ba with
      | false => exact iteT (q false H1 s1 ⟨fun z => (by cases z), fun z => hba.mpr z.ao⟩)
      | true =>
        have harr := hba.mp rfl
        refine iteF ?_
        refine ⟨.ref G, rfl, G, gvs, rfl, .inl (.inl (s1 _ _ hG)), fun D1 nD => ?_⟩
        refine lc_it (walk_enumT (K := K) (a := G) (xs := gvs)) (fun i H' => Same H1 H' ∧ H' D1 = some (.lst (nats (boxesN gs c i)))) ?_ ?_ ?_ ?_
        · exact ⟨same_new nD, upd_same⟩
        · rintro i H' _ ⟨sm, _⟩
          exact .inl (.inl (sm _ _ (s1 _ _ hG)))
        · rintro i x H' H2 hi ⟨sm, eD⟩ ⟨TT, u, v, rfl, nT, rfl, e1, e2⟩
          cases e1
          rw [lg] at hi
          obtain ⟨gt, egt⟩ : ∃ gt, gs[i]? = some gt := ⟨gs[i], List.getElem?_eq_getElem hi⟩
          have tg := gal.2 i gt.td v (by rw [List.getElem?_map, egt]; rfl) e2
          refine ⟨TT, _, rfl, .inl (.inl upd_same), rfl, _, _, rfl, _, _, rfl, rfl, rfl, ?_⟩
          generalize eG1 : upd H' TT _ = G1
          have sT : Same H1 G1 := eG1 ▸ sm.trans (same_new nT)
          have eDT : G1 D1 = _ := eG1 ▸ (same_new nT) _ _ eD
          obtain ⟨gA, rfl, egA⟩ := gt_at (tg.same (s1.trans sT))
          have okg := ok.gate i gt egt
          have smg := gsm gt (List.mem_of_getElem? egt)
          refine ⟨.ref gA, rfl, 2, rfl, cut_eq egA okg smg hc rfl fun v H2 s2 hB => ?_⟩
          obtain ⟨B, rfl, eB⟩ := hB
          refine ⟨.str c, rfl, (by decide : (2 : Nat) ≤ sizeLine), fun p np => ?_⟩
          have s3 := same_new (o := .tup [.str "box", .str c]) np
          refine ⟨_, _, box_dp (s3 _ _ eB), clk_dp upd_same, box_sh okg smg, clk_sh hc, _, rfl, ?_⟩
          rw [box_eqv okg]
          have s13 := (sT.trans s2).trans s3
          have eD3 := s3 _ _ (s2 _ _ eDT)
          revert s13 eD3
          generalize upd H2 p (.tup [.str "box", .str c]) = H3
          intro s13 eD3
          have eb := boxesN_succ (c := c) egt
          cases hb : gt.isBox c with
          | true =>
            rw [hb, if_pos rfl] at eb
            refine iteT ⟨.int (i : Int), rfl, _, eD3, ?_, same_mut s13 nD, ?_⟩
            · rw [nats_len]
              exact Nat.lt_of_le_of_lt (boxesN_len gs c i) (by omega)
            · rw [upd_same, eb]
              unfold nats
              rw [List.map_append]
              rfl
          | false =>
            rw [hb, if_neg Bool.false_ne_true] at eb
            refine iteF ⟨s13, ?_⟩
            rw [eb]
            exact eD3
        rintro H2 ⟨s2, eB⟩
        rw [lg] at eB
        generalize ebs : boxesN gs c gs.length = bs at *
        have lbs : bs.length ≤ gs.length := by
          rw [← ebs]
          exact boxesN_len gs c _
        have s02 := s1.trans s2
        refine ⟨.ref D1, rfl, !(nats bs).isEmpty, .inl ⟨_, .inl (.inl eB), rfl⟩, ?_⟩
        cases hbs : bs with
        | nil =>
          refine iteT ?_
          have no : ∀ H', Same H H' → ¬ (t = 0 ∧ pth = []) → Q (.bl false) H' := fun H' sm hn => q false H' sm ⟨fun z => (by cases z), fun z => by
            rcases z.way with ⟨_, h1, h2⟩ | ⟨h1, _⟩
            · exact absurd ⟨h1, h2⟩ hn
            · rw [ebs, hbs] at h1
              exact absurd rfl h1⟩
          refine ⟨.int t, rfl, rfl, _, rfl, ?_⟩
          by_cases h0 : t = 0
          · rw [decide_eq_true (by rw [h0])]
            refine iteT ⟨.ref PA, rfl, Nat.zero_le _, fun e0 n0 => ?_⟩
            have s3 := same_new (o := .tup []) n0
            have sh : ∀ l : List Int, SeqAt.shaped (pd (.tup (l.map Td.int))) = true := by
              intro l
              have cl : ∀ l : List Int, PyData.canLayAll0 (pdL (l.map Td.int)) = true ∧ PyData.depthAll (pdL (l.map Td.int)) = 0 := by
                intro l
                induction l with
                | nil => rw [List.map_nil, pdL, PyData.canLayAll0, PyData.depthAll]; exact ⟨rfl, rfl⟩
                | cons x l ih =>
                  rw [List.map_cons, pdL, PyData.canLayAll0, PyData.depthAll, ih.1, ih.2, int_cl, int_dp]
                  exact ⟨rfl, rfl⟩
              rw [SeqAt.shaped, pd, PyData.canLay0, PyData.depth, (cl l).1, (cl l).2]
              rfl
            have ed : ∀ l : List Int, PyData.eqv (pd (.tup (l.map Td.int))) (pd (.tup (([] : List Int).map Td.int))) = decide (l = []) := by
              intro l
              cases l with
              | nil => rw [List.map_nil, pd, pdL, PyData.eqv, PyData.eqvAll]; rfl
              | cons x l =>
                rw [List.map_nil, List.map_cons, pd, pd, pdL, pdL, PyData.eqv, PyData.eqvAll]
                rfl
            refine ⟨_, _, dp_of (ints_td (s3 _ _ (s02 _ _ ePA))), dp_of (ints_td (l := []) upd_same), sh pth, sh [], ?_⟩
            rw [ed]
            by_cases hp : pth = []
            · rw [decide_eq_true hp]
              exact q true _ (s02.trans s3) ⟨fun _ => ⟨ht, harr, .inl ⟨by rw [ebs, hbs], h0, hp⟩⟩, fun _ => rfl⟩
            · rw [decide_eq_false hp]
              exact no _ (s02.trans s3) fun z => hp z.2
          · rw [decide_eq_false fun z => h0 (V.int.inj z)]
            exact iteF (no _ s02 fun z => h0 z.1)
        | cons b0 bs0 =>
          refine iteF ?_
          have ne : bs ≠ [] := by
            rw [hbs]
            exact List.cons_ne_nil _ _
          refine ⟨.ref D1, rfl, D1, rfl, ⟨_, .inl (.inl eB)⟩, fun D2 nD2 => ?_⟩
          refine lc_it (walk_list (K := K) (a := D1) (xs := nats bs)) (fun i H' => Same H2 H' ∧ H' D2 = some (.lst (nats (lateN gs wl arr d.s t (bs.take i))))) ?_ ?_ ?_ ?_
          · exact ⟨same_new nD2, upd_same⟩
          · rintro i H' _ ⟨sm, _⟩
            exact .inl (.inl (sm _ _ eB))
          · rintro i x H' H3 hi ⟨sm, eD⟩ ⟨rfl, ex⟩
            rw [nats_len] at hi
            obtain ⟨b, eb⟩ : ∃ b, bs[i]? = some b := ⟨bs[i], List.getElem?_eq_getElem hi⟩
            rw [nats_at eb] at ex
            cases ex
            obtain ⟨hbn, bit, dd, egt⟩ := boxesN_mem (b := b) (by rw [ebs]; exact List.mem_of_getElem? eb)
            have hdd : dd < gs.length := ok.gate b _ egt
            obtain ⟨ws, ew, lw, hws⟩ := ok.at egt
            obtain ⟨w0, rfl⟩ : ∃ w0, ws = [w0] := by
              match ws, lw with
              | [w0], _ => exact ⟨w0, rfl⟩
            have sAll := s02.trans sm
            refine ⟨rfl, ?_⟩
            refine ⟨.ref AA, rfl, .ref G, rfl, .ref W, rfl, .int (b : Int), rfl, .ref a, rfl, a, _, _, _, rfl, rfl, sqt_same hd sAll, atI_nat (j := 0) rfl, _, _, _, arr, gs, wl, b, _, _, d.s, rfl, .tup (.inl (.inl (sAll _ _ eAA))), hg.same sAll, hw.same sAll, ok, egt, ew, fun f hf => by rw [harr.len, List.mem_singleton.mp hf]; exact hdd, od.1, od.2, ?_⟩
            intro p rs' G2 s5 np ep lrs' hrs'
            have lrs1 : rs'.length = 1 := lrs'
            obtain ⟨r0, rfl⟩ : ∃ r0, rs' = [r0] := by
              match rs', lrs1 with
              | [r0], _ => exact ⟨r0, rfl⟩
            have er0 : G2 r0 = some (.tup [.int (arr.getD dd 0 + d.s * ((w0.length : Int) - 1)), .int (dd : Int)]) := hrs' 0 r0 _ rfl rfl
            rw [boxT_at egt ew] at er0
            refine ⟨p, _, _, _, rfl, rfl, .inl (.inl ep), atI_nat (j := 0) rfl, r0, _, _, _, rfl, rfl, .inl (.inl er0), atI_nat (j := 0) rfl, .int t, rfl, _, _, rfl, rfl, _, rfl, ?_⟩
            have eD5 := s5 _ _ eD
            have els := lateN_snoc (gs := gs) (wl := wl) (arr := arr) (s := d.s) (t := t) eb
            by_cases hlt : t < boxT gs wl arr d.s b
            · rw [if_pos hlt] at els
              rw [decide_eq_true hlt]
              refine iteT ⟨.int (b : Int), rfl, _, eD5, ?_, same_mut (sm.trans s5) nD2, ?_⟩
              · rw [nats_len]
                have : (lateN gs wl arr d.s t (bs.take i)).length ≤ (bs.take i).length := List.length_filter_le _ _
                rw [List.length_take] at this
                omega
              · rw [upd_same, els]
                unfold nats
                rw [List.map_append]
                rfl
            · rw [if_neg hlt] at els
              rw [decide_eq_false hlt]
              refine iteF ⟨sm.trans s5, ?_⟩
              rw [els]
              exact eD5
          rintro H3 ⟨s3, eL⟩
          rw [nats_len, List.take_of_length_le (Nat.le_refl _)] at eL
          have s03 := s02.trans s3
          have late_nil : lateN gs wl arr d.s t bs = [] ↔ ∀ b ∈ bs, boxT gs wl arr d.s b ≤ t := by
            unfold lateN
            rw [List.filter_eq_nil_iff]
            constructor
            · intro h b hb
              have := h b hb
              have : ¬ t < boxT gs wl arr d.s b := fun z => this (decide_eq_true z)
              omega
            · intro h b hb z
              have := h b hb
              have := of_decide_eq_true z
              omega
          have no : ∀ H', Same H H' → ¬ ((∀ b ∈ bs, boxT gs wl arr d.s b ≤ t) ∧ ∃ l : List Nat, pth = l.map (fun (k : Nat) => (k : Int)) ∧ PthN gs c l ∧ ptN gs wl d l (l.length - 1) = t) → Q (.bl false) H' := fun H' sm hn => q false H' sm ⟨fun z => (by cases z), fun z => by
            rcases z.way with ⟨h1, _⟩ | ⟨_, h1, h2⟩
            · rw [ebs] at h1
              exact absurd h1 ne
            · rw [ebs] at h1
              exact absurd ⟨h1, h2⟩ hn⟩
          refine ⟨.ref D2, rfl, !(nats (lateN gs wl arr d.s t bs)).isEmpty, .inl ⟨_, .inl (.inl eL), rfl⟩, _, rfl, ?_⟩
          by_cases hl0 : lateN gs wl arr d.s t bs = []
          · rw [hl0]
            refine iteT ⟨.ref G, rfl, .str c, rfl, .ref PA, rfl, .ref G, PA, c, gs, pth, rfl, hg.same s03, s03 _ _ ePA, ok.gate, gl, lp, hc, gsm, fun bp H4 s4 hbp => ⟨_, rfl, ?_⟩⟩
            cases bp with
            | false =>
              refine iteF (no _ (s03.trans s4) fun z => ?_)
              obtain ⟨l, e1, e2, _⟩ := z.2
              have := hbp.mpr ⟨l, e1, e2⟩
              cases this
            | true =>
              obtain ⟨l, rfl, hp⟩ := hbp.mp rfl
              rw [List.length_map] at lp
              have s04 := s03.trans s4
              refine iteT ⟨.ref G, rfl, .ref W, rfl, .ref PA, rfl, .ref a, rfl, .ref G, .ref W, PA, a, gs, wl, d, c, l, rfl, hg.same s04, hw.same s04, by rw [← map_ints]; exact s04 _ _ ePA, sqt_same hd s04, ok, od, gl, lp, hp, fun H5 s5 => ⟨.int t, rfl, rfl, ?_⟩⟩
              have s05 := s04.trans s5
              by_cases hpt : ptN gs wl d l (l.length - 1) = t
              · rw [decide_eq_true (by rw [hpt])]
                exact q true _ s05 ⟨fun _ => ⟨ht, harr, .inr ⟨by rw [ebs]; exact ne, by rw [ebs]; exact late_nil.mp hl0, l, rfl, hp, hpt⟩⟩, fun _ => rfl⟩
              · rw [decide_eq_false fun z => hpt (V.int.inj z)]
                refine no _ s05 fun z => ?_
                obtain ⟨l', e1, e2, e3⟩ := z.2
                have : l = l' := (List.map_inj_right (fun a b z => Int.ofNat.inj z)).mp e1
                rw [← this] at e3
                exact hpt e3
          · have ne2 : (nats (lateN gs wl arr d.s t bs)).isEmpty = false := by
              cases h : lateN gs wl arr d.s t bs with
              | nil => exact absurd h hl0
              | cons x xs => rfl
            rw [ne2]
            exact iteF (no _ s03 fun z => hl0 (late_nil.mpr z.1))
    · rw [decide_eq_false ht]
      exact iteT (iteT (q false H (Same.refl H) ⟨fun z => (by cases z), fun z => absurd z.t0 ht⟩))
end
end K53

namespace K53
open PySem PySem.Spec PyProof.Rows L2 Kit
/-! ### all ways -/
abbrev Wy := List Nat × Int
def wyE (g : Gt) (d : Own) (k : Nat) (rec : Nat → List Wy) (fl : Nat × Nat) : List Wy := (rec fl.1).map fun pt => (pt.1 ++ [k], pt.2 + d.s * ((fl.2 : Int) - 1) + g.own d)
def wy (gs : List Gt) (wl : List (List Way)) (d : Own) : Nat → Nat → List Wy
  | 0, _ => []
  | n + 1, k => match gs[k]? with
    | some g => if g.fed = true then (g.feeds.zip (lens (wl.getD k []))).flatMap (wyE g d k (wy gs wl d n)) else [([k], 0)]
    | none => []
def bwE (gs : List Gt) (wl : List (List Way)) (d : Own) (n b : Nat) : List Wy := match gs[b]? with
  | some (.box _ _ dd) => (wy gs wl d n dd).map fun pt => (pt.1 ++ [b], pt.2 + d.s * ((((wl.getD b []).headD []).length : Int) - 1))
  | _ => []
def bw (gs : List Gt) (wl : List (List Way)) (d : Own) (n : Nat) (c : Str) : List Wy := (boxesN gs c gs.length).flatMap (bwE gs wl d n)
theorem zip_bro {arr : List Int} {s : Int} {f l : Nat} : ∀ {fs ls : List Nat}, (f, l) ∈ fs.zip ls → (arr.getD f 0 + s * ((l : Int) - 1), (f : Int)) ∈ bro arr fs ls s
  | [], _, h => by cases h
  | _ :: _, [], h => by cases h
  | a :: fs, b :: ls, h => by
    unfold bro
    rw [List.zipWith_cons_cons]
    rw [List.zip_cons_cons] at h
    rcases List.mem_cons.mp h with e | h
    · cases e
      exact List.mem_cons_self
    · exact List.mem_cons_of_mem _ (zip_bro h)
theorem bro_zip {arr : List Int} {s : Int} {pr : Int × Int} : ∀ {fs ls : List Nat}, pr ∈ bro arr fs ls s → ∃ f l, (f, l) ∈ fs.zip ls ∧ pr = (arr.getD f 0 + s * ((l : Int) - 1), (f : Int))
  | [], _, h => by cases h
  | _ :: _, [], h => by cases h
  | a :: fs, b :: ls, h => by
    unfold bro at h
    rw [List.zipWith_cons_cons] at h
    rcases List.mem_cons.mp h with e | h
    · exact ⟨a, b, List.mem_cons_self, e⟩
    · obtain ⟨f, l, h1, h2⟩ := bro_zip h
      exact ⟨f, l, List.mem_cons_of_mem _ h1, h2⟩
theorem zip_feed {f l : Nat} {fs ls : List Nat} (h : (f, l) ∈ fs.zip ls) : f ∈ fs := (List.of_mem_zip h).1
section
variable {gs : List Gt} {wl : List (List Way)} {d : Own}
theorem wy_le (ok : Okl gs wl) {arr : List Int} (ao : ArrOk gs wl d arr) : ∀ (n k : Nat) (p : List Nat) (t : Int), k < gs.length → (p, t) ∈ wy gs wl d n k → t ≤ arr.getD k 0
  | 0, _, _, _, _, h => by cases h
  | n + 1, k, p, t, hk, h => by
    unfold wy at h
    obtain ⟨g, eg⟩ : ∃ g, gs[k]? = some g := ⟨_, List.getElem?_eq_getElem hk⟩
    obtain ⟨ws, ew, lw, _⟩ := ok.at eg
    rw [eg] at h
    have ewd : wl.getD k [] = ws := by rw [List.getD_eq_getElem?_getD, ew]; rfl
    rw [ewd] at h
    by_cases hf : g.fed = true
    · have h : (p, t) ∈ (if g.fed = true then (g.feeds.zip (lens ws)).flatMap (wyE g d k (wy gs wl d n)) else [([k], 0)]) := h
      rw [if_pos hf] at h
      obtain ⟨⟨f, l⟩, hz, hm⟩ := List.mem_flatMap.mp h
      unfold wyE at hm
      obtain ⟨⟨p', t'⟩, hm', e⟩ := List.mem_map.mp hm
      cases e
      have hfk := fed_lt (ok.gate k g eg) hf f (zip_feed hz)
      have ih := wy_le ok ao n f p' t' (by omega) hm'
      have h1 := ao.feeds k g ws eg ew hf _ (zip_bro (arr := arr) (s := d.s) hz)
      have h1 : arr.getD f 0 + d.s * ((l : Int) - 1) + g.own d ≤ arr.getD k 0 := h1
      show t' + d.s * ((l : Int) - 1) + g.own d ≤ _
      omega
    · have h : (p, t) ∈ (if g.fed = true then (g.feeds.zip (lens ws)).flatMap (wyE g d k (wy gs wl d n)) else [([k], 0)]) := h
      rw [if_neg hf] at h
      have e := List.mem_singleton.mp h
      cases e
      have hl : k < arr.length := by rw [ao.len]; exact hk
      rw [List.getD_eq_getElem?_getD, List.getElem?_eq_getElem hl]
      exact ao.nat _ (List.getElem_mem hl)
theorem arrs_ok (ok : Okl gs wl) (hd : d.few) (hn : gs.length ≤ 40) : ArrOk gs wl d (arrs gs wl d) := by
  have la : (arrs gs wl d).length = gs.length := arrN_len _ _ _ _
  refine ⟨la, fun x hx => ?_, fun k g ws eg ew hf p hp => ?_⟩
  · obtain ⟨n, rfl, _⟩ := arrs_small ok hd hn x hx
    omega
  · have e := arr_fed ok eg ew hf (d := d)
    rw [e]
    have : p.1 ≤ mxi ((bro (arrs gs wl d) g.feeds (lens ws) d.s).map (·.1)) := by
      have hm : p.1 ∈ (bro (arrs gs wl d) g.feeds (lens ws) d.s).map (·.1) := List.mem_map.mpr ⟨p, hp, rfl⟩
      unfold mxi
      cases e2 : ((bro (arrs gs wl d) g.feeds (lens ws) d.s).map (·.1)).max? with
      | none =>
        rw [List.max?_eq_none_iff] at e2
        rw [e2] at hm
        cases hm
      | some m => exact (List.max?_eq_some_iff.mp e2).2 _ hm
    omega
end
end K53

namespace K53
open PySem PySem.Spec PyProof.Rows L2 Kit
theorem mxi_mem {l : List Int} (h : l ≠ []) : mxi l ∈ l ∧ ∀ x ∈ l, x ≤ mxi l := by
  unfold mxi
  cases e : l.max? with
  | none => exact absurd (List.max?_eq_none_iff.mp e) h
  | some m => exact List.max?_eq_some_iff.mp e
theorem zip_mem {fs ls : List Nat} {j f l : Nat} (h1 : fs[j]? = some f) (h2 : ls[j]? = some l) : (f, l) ∈ fs.zip ls := by
  refine List.mem_of_getElem? (i := j) ?_
  rw [List.getElem?_zip_eq_some]
  exact ⟨h1, h2⟩
section
variable {gs : List Gt} {wl : List (List Way)} {d : Own}
theorem wl_at {k : Nat} {ws : List Way} (ew : wl[k]? = some ws) : wl.getD k [] = ws := by rw [List.getD_eq_getElem?_getD, ew]; rfl
theorem wy_src {n k : Nat} {g : Gt} (eg : gs[k]? = some g) (hf : g.fed = false) : wy gs wl d (n + 1) k = [([k], 0)] := by
  unfold wy
  rw [eg]
  show (if g.fed = true then _ else _) = _
  rw [hf, if_neg Bool.false_ne_true]
theorem wy_fed {n k : Nat} {g : Gt} {ws : List Way} (eg : gs[k]? = some g) (ew : wl[k]? = some ws) (hf : g.fed = true) : wy gs wl d (n + 1) k = (g.feeds.zip (lens ws)).flatMap (wyE g d k (wy gs wl d n)) := by
  show (match gs[k]? with
    | some g => if g.fed = true then (g.feeds.zip (lens (wl.getD k []))).flatMap (wyE g d k (wy gs wl d n)) else [([k], 0)]
    | none => []) = _
  rw [eg]
  show (if g.fed = true then _ else _) = _
  rw [hf, if_pos rfl, wl_at ew]
theorem wy_more {n k f l : Nat} {g : Gt} {ws : List Way} {p : List Nat} {t : Int} (eg : gs[k]? = some g) (ew : wl[k]? = some ws) (hf : g.fed = true) (hz : (f, l) ∈ g.feeds.zip (lens ws)) (h : (p, t) ∈ wy gs wl d n f) :
    (p ++ [k], t + d.s * ((l : Int) - 1) + g.own d) ∈ wy gs wl d (n + 1) k := by
  rw [wy_fed eg ew hf]
  exact List.mem_flatMap.mpr ⟨(f, l), hz, List.mem_map.mpr ⟨(p, t), h, rfl⟩⟩
theorem top_zip {x y : Nat} {gt : Gt} {ws : List Way} (eg : gs[x]? = some gt) (ew : wl[x]? = some ws) (h : Top gs wl (arrs gs wl d) d.s x y) :
    ∃ l, (y, l) ∈ gt.feeds.zip (lens ws) ∧ mxi ((bro (arrs gs wl d) gt.feeds (lens ws) d.s).map (·.1)) = (arrs gs wl d).getD y 0 + d.s * ((l : Int) - 1) := by
  obtain ⟨gt', ws', pr, e1, e2, h1, h2, h3⟩ := h
  rw [eg] at e1
  cases e1
  rw [ew] at e2
  cases e2
  obtain ⟨f, l, hz, e⟩ := bro_zip h1
  have ef : f = y := by
    rw [e] at h2
    have h2 : (f : Int) = (y : Int) := h2
    omega
  subst ef
  refine ⟨l, hz, ?_⟩
  rw [mxi_eq (m := pr.1) (List.mem_map.mpr ⟨pr, h1, rfl⟩) fun x hx => by
    obtain ⟨q', hq', rfl⟩ := List.mem_map.mp hx
    exact h3 q' hq', e]
theorem chain_wy (ok : Okl gs wl) {x : Nat} {l : List Nat} (h : Chain gs wl (arrs gs wl d) d.s x l) : ∃ y l', l = y :: l' ∧ Top gs wl (arrs gs wl d) d.s x y ∧ (y < gs.length → ∀ n, y < n → (l.reverse, (arrs gs wl d).getD y 0) ∈ wy gs wl d n y) := by
  induction h with
  | @last x y g ht e hf =>
    refine ⟨y, [], rfl, ht, fun hy n hn => ?_⟩
    obtain ⟨m, rfl⟩ : ∃ m, n = m + 1 := ⟨n - 1, by omega⟩
    rw [wy_src e hf, arr_src e hf]
    exact List.mem_singleton.mpr rfl
  | @more x y g l ht e hf c ih =>
    refine ⟨y, l, rfl, ht, fun hy n hn => ?_⟩
    obtain ⟨m, rfl⟩ : ∃ m, n = m + 1 := ⟨n - 1, by omega⟩
    obtain ⟨z, l', rfl, hz, hw⟩ := ih
    obtain ⟨ws, ew, lw, _⟩ := ok.at e
    obtain ⟨ln, hzip, hm⟩ := top_zip e ew hz
    have hzy := fed_lt (ok.gate y g e) hf z (zip_feed hzip)
    have h1 := wy_more e ew hf hzip (hw (by omega) m (by omega))
    rw [arr_fed ok e ew hf, hm]
    rw [List.reverse_cons]
    exact h1
theorem bw_mem {n b dd : Nat} {c : Str} {bit : Int} {w0 : Way} {p : List Nat} {t : Int} (eg : gs[b]? = some (.box c bit dd)) (ew : wl[b]? = some [w0]) (h : (p, t) ∈ wy gs wl d n dd) :
    (p ++ [b], t + d.s * ((w0.length : Int) - 1)) ∈ bw gs wl d n c := by
  refine List.mem_flatMap.mpr ⟨b, ?_, ?_⟩
  · unfold boxesN
    refine List.mem_filter.mpr ⟨List.mem_range.mpr (List.getElem?_eq_some_iff.mp eg).1, ?_⟩
    rw [eg]
    exact decide_eq_true rfl
  · unfold bwE
    rw [eg, wl_at ew]
    exact List.mem_map.mpr ⟨(p, t), h, rfl⟩
theorem bw_inv (ok : Okl gs wl) {n : Nat} {c : Str} {p : List Nat} {t : Int} (h : (p, t) ∈ bw gs wl d n c) : ∃ b bit dd w0 p' t', b ∈ boxesN gs c gs.length ∧ gs[b]? = some (.box c bit dd) ∧ wl[b]? = some [w0] ∧ dd < gs.length ∧ (p', t') ∈ wy gs wl d n dd ∧ p = p' ++ [b] ∧ t = t' + d.s * ((w0.length : Int) - 1) := by
  obtain ⟨b, hb, hm⟩ := List.mem_flatMap.mp h
  obtain ⟨hbn, bit, dd, eg⟩ := boxesN_mem hb
  obtain ⟨ws, ew, lw, _⟩ := ok.at eg
  obtain ⟨w0, rfl⟩ : ∃ w0, ws = [w0] := by
    match ws, lw with
    | [w0], _ => exact ⟨w0, rfl⟩
  unfold bwE at hm
  rw [eg, wl_at ew] at hm
  obtain ⟨⟨p', t'⟩, h1, e⟩ := List.mem_map.mp hm
  cases e
  exact ⟨b, bit, dd, w0, p', t', hb, eg, ew, ok.gate b _ eg, h1, rfl, rfl⟩
/-- each way to a box is told no sooner than any arrivals say -/
theorem bw_le (ok : Okl gs wl) {arr : List Int} (ao : ArrOk gs wl d arr) {n : Nat} {c : Str} {p : List Nat} {t : Int} (h : (p, t) ∈ bw gs wl d n c) : ∃ b ∈ boxesN gs c gs.length, t ≤ boxT gs wl arr d.s b := by
  obtain ⟨b, bit, dd, w0, p', t', hb, eg, ew, hdd, h1, rfl, rfl⟩ := bw_inv ok h
  refine ⟨b, hb, ?_⟩
  rw [← boxT_at eg ew]
  have := wy_le ok ao n dd p' t' hdd h1
  omega
theorem slw_mem (ok : Okl gs wl) {c : Str} {t : Int} {l : List Nat} {n : Nat} (hn : gs.length ≤ n) (h : SlwOk gs wl d c t l) : (boxesN gs c gs.length = [] ∧ t = 0 ∧ l = []) ∨ (boxesN gs c gs.length ≠ [] ∧ (l, t) ∈ bw gs wl d n c) := by
  rcases h with h | ⟨b, ch, hb, rfl, _, hc, rfl, _⟩
  · exact .inl h
  · refine .inr ⟨fun z => (by rw [z] at hb; cases hb), ?_⟩
    obtain ⟨hbn, bit, dd, eg⟩ := boxesN_mem hb
    obtain ⟨ws, ew, lw, _⟩ := ok.at eg
    obtain ⟨w0, rfl⟩ : ∃ w0, ws = [w0] := by
      match ws, lw with
      | [w0], _ => exact ⟨w0, rfl⟩
    obtain ⟨y, l', rfl, ht, hw⟩ := chain_wy ok hc
    obtain ⟨ln, hzip, _⟩ := top_zip eg ew ht
    have ey : y = dd := List.mem_singleton.mp (zip_feed hzip)
    subst ey
    have hdd : y < gs.length := ok.gate b _ eg
    rw [List.reverse_cons, ← boxT_at eg ew]
    exact bw_mem eg ew (hw hdd n (by omega))
theorem slw_max (ok : Okl gs wl) (hd : d.few) (h40 : gs.length ≤ 40) {c : Str} {t : Int} {l : List Nat} {n : Nat} (h : SlwOk gs wl d c t l) {p : List Nat} {tt : Int} (hm : (p, tt) ∈ bw gs wl d n c) : tt ≤ t := by
  obtain ⟨b, hb, hle⟩ := bw_le ok (arrs_ok ok hd h40) hm
  rcases h with ⟨h1, _, _⟩ | ⟨b', ch, _, _, _, _, _, hmx⟩
  · rw [h1] at hb
    cases hb
  · exact Int.le_trans hle (hmx b hb)
theorem pth_wy (ok : Okl gs wl) {c : Str} {l : List Nat} (h : PthN gs c l) : ∀ i, i + 1 < l.length → ∀ n, l.getD i 0 < n → (l.take (i + 1), ptN gs wl d l i) ∈ wy gs wl d n (l.getD i 0) := by
  intro i
  have tk : ∀ i, i < l.length → l.take (i + 1) = l.take i ++ [l.getD i 0] := by
    intro i hi
    rw [List.take_add_one, List.getD_eq_getElem?_getD, List.getElem?_eq_getElem hi]
    rfl
  induction i with
  | zero =>
    intro hi n hn
    obtain ⟨m, rfl⟩ : ∃ m, n = m + 1 := ⟨n - 1, by omega⟩
    obtain ⟨g, eg, hf⟩ := h.src
    rw [wy_src eg hf, tk 0 (by omega)]
    exact List.mem_singleton.mpr rfl
  | succ i ih =>
    intro hi n hn
    obtain ⟨m, rfl⟩ : ∃ m, n = m + 1 := ⟨n - 1, by omega⟩
    obtain ⟨g, eg, hf⟩ := h.mid (i + 1) (by omega) hi
    obtain ⟨g', eg', hff⟩ := h.con i (by omega)
    rw [eg] at eg'
    cases eg'
    obtain ⟨ws, ew, lw, _⟩ := ok.at eg
    have hlt := fed_lt (ok.gate _ g eg) hf _ hff
    have h1 := ih (by omega) m (by omega)
    obtain ⟨j0, hj0⟩ := List.getElem?_of_mem hff
    have hj0l := (List.getElem?_eq_some_iff.mp hj0).1
    have ne : lensTo g.feeds (lens ws) (l.getD i 0) g.feeds.length ≠ [] := List.ne_nil_of_mem (lensTo_mem.mpr ⟨j0, hj0l, hj0, rfl⟩)
    obtain ⟨j, hj, hjf, ej⟩ := lensTo_mem.mp (mxi_mem ne).1
    obtain ⟨ln, hln⟩ : ∃ ln, (lens ws)[j]? = some ln := by
      have : j < (lens ws).length := by
        unfold lens
        rw [List.length_map, lw]
        exact hj
      exact ⟨_, List.getElem?_eq_getElem this⟩
    have e0 : (lens ws).getD j 0 = ln := by rw [List.getD_eq_getElem?_getD, hln]; rfl
    rw [e0] at ej
    have h2 := wy_more eg ew hf (zip_mem hjf hln) h1
    have e1 : ptN gs wl d l (i + 1) = ptN gs wl d l i + d.s * ((ln : Int) - 1) + g.own d := by
      rw [ptN]
      unfold stepT
      rw [eg]
      show _ + (d.s * mxi _ + _) = _
      rw [wl_at ew, ← ej]
      unfold ownF
      rw [if_pos hf]
      omega
    rw [tk (i + 1) (by omega), e1]
    exact h2
theorem pth_bw (ok : Okl gs wl) {c : Str} {l : List Nat} (h : PthN gs c l) {n : Nat} (hn : gs.length ≤ n) : (l, ptN gs wl d l (l.length - 1)) ∈ bw gs wl d n c := by
  have h2 := h.two
  obtain ⟨bit, dd, eg⟩ := h.snk
  obtain ⟨ws, ew, lw, _⟩ := ok.at eg
  obtain ⟨w0, rfl⟩ : ∃ w0, ws = [w0] := by
    match ws, lw with
    | [w0], _ => exact ⟨w0, rfl⟩
  obtain ⟨m, hm⟩ : ∃ m, l.length = m + 2 := ⟨l.length - 2, by omega⟩
  have e1 : l.length - 1 = m + 1 := by omega
  rw [e1] at eg ew ⊢
  obtain ⟨g', eg', hff⟩ := h.con m (by omega)
  rw [eg] at eg'
  cases eg'
  have ef : l.getD m 0 = dd := List.mem_singleton.mp hff
  have hdd : dd < gs.length := ok.gate _ _ eg
  have h1 := pth_wy (d := d) ok h m (by omega) n (by rw [ef]; omega)
  rw [ef] at h1
  have h3 := bw_mem eg ew h1
  have e2 : l = l.take (m + 1) ++ [l.getD (m + 1) 0] := by
    have : l.take (m + 1 + 1) = l.take (m + 1) ++ [l.getD (m + 1) 0] := by
      rw [List.take_add_one, List.getD_eq_getElem?_getD, List.getElem?_eq_getElem (by omega : m + 1 < l.length)]
      rfl
    rw [← this, List.take_of_length_le (by omega)]
  have e3 : ptN gs wl d l (m + 1) = ptN gs wl d l m + d.s * ((w0.length : Int) - 1) := by
    rw [ptN]
    unfold stepT
    rw [eg]
    show _ + (d.s * mxi _ + _) = _
    rw [wl_at ew, ef]
    have e4 : mxi (lensTo (Gt.box c bit dd).feeds (lens [w0]) dd (Gt.box c bit dd).feeds.length) = (w0.length : Int) - 1 := by
      have e5 : lensTo (Gt.box c bit dd).feeds (lens [w0]) dd (Gt.box c bit dd).feeds.length = [(w0.length : Int) - 1] := by
        show lensTo [dd] [w0.length] dd 1 = _
        rw [lensTo_succ, if_pos (by rfl)]
        rfl
      rw [e5]
      rfl
    rw [e4]
    have e6 : ownF d (Gt.box c bit dd) = 0 := rfl
    rw [e6, Int.add_zero]
  rw [e3]
  have e7 : (l, ptN gs wl d l m + d.s * ((w0.length : Int) - 1)) = (l.take (m + 1) ++ [l.getD (m + 1) 0], ptN gs wl d l m + d.s * ((w0.length : Int) - 1)) := by rw [← e2]
  rw [e7]
  exact h3
/-- what a paper that is let by tells -/
theorem hold_told (ok : Okl gs wl) (hd : d.few) (h40 : gs.length ≤ 40) {c : Str} {t t' : Int} {l : List Nat} {pth arr : List Int} {n : Nat} (hn : gs.length ≤ n) (hs : SlwOk gs wl d c t l) (h : Hold gs wl d c t' pth arr) :
    t' = t ∧ (boxesN gs c gs.length ≠ [] → ∃ l' : List Nat, pth = l'.map (fun (k : Nat) => (k : Int)) ∧ (l', t') ∈ bw gs wl d n c) := by
  rcases h.way with ⟨h1, h2, h3⟩ | ⟨h1, h2, l', h3, h4, h5⟩
  · rcases slw_mem ok hn hs with ⟨_, e, _⟩ | ⟨z, _⟩
    · exact ⟨by rw [h2, e], fun z => absurd h1 z⟩
    · exact absurd h1 z
  · have hm := pth_bw (d := d) ok h4 hn
    rw [h5] at hm
    have le := slw_max ok hd h40 hs hm
    rcases slw_mem ok hn hs with ⟨z, _, _⟩ | ⟨_, hm2⟩
    · exact absurd z h1
    · obtain ⟨b, hb, hle⟩ := bw_le ok h.ao hm2
      have := h2 b hb
      exact ⟨by omega, fun _ => ⟨l', h3, hm⟩⟩
theorem wy_ne (ok : Okl gs wl) : ∀ (n k : Nat), k < n → k < gs.length → wy gs wl d n k ≠ []
  | 0, _, h, _ => absurd h (Nat.not_lt_zero _)
  | n + 1, k, h, hk => by
    obtain ⟨g, eg⟩ : ∃ g, gs[k]? = some g := ⟨_, List.getElem?_eq_getElem hk⟩
    obtain ⟨ws, ew, lw, _⟩ := ok.at eg
    cases hf : g.fed with
    | false =>
      rw [wy_src eg hf]
      exact List.cons_ne_nil _ _
    | true =>
      have hp := fed_pos hf
      obtain ⟨f, hfe⟩ : ∃ f, g.feeds[0]? = some f := ⟨_, List.getElem?_eq_getElem hp⟩
      obtain ⟨ln, hln⟩ : ∃ ln, (lens ws)[0]? = some ln := by
        have : 0 < (lens ws).length := by
          unfold lens
          rw [List.length_map, lw]
          exact hp
        exact ⟨_, List.getElem?_eq_getElem this⟩
      have hfk := fed_lt (ok.gate k g eg) hf f (List.mem_of_getElem? hfe)
      have ih := wy_ne ok n f (by omega) (by omega)
      obtain ⟨⟨p, t⟩, hm⟩ := List.exists_mem_of_ne_nil _ ih
      exact List.ne_nil_of_mem (wy_more eg ew hf (zip_mem hfe hln) hm)
end
end K53

namespace K53
open PySem PySem.Spec PyProof.Rows L2 Kit
/-! ### arrivals and times by other delays, other ways -/
abbrev AR (gs : List Gt) (wl : List (List Way)) (d : Own) (k : Nat) : Int := (arrs gs wl d).getD k 0
structure Pot (gs : List Gt) (wl : List (List Way)) (d : Own) (F : Nat → Int) : Prop where
  fed : ∀ (k : Nat) (g : Gt) (ws : List Way), gs[k]? = some g → wl[k]? = some ws → g.fed = true → ∀ f l, (f, l) ∈ g.feeds.zip (lens ws) → F f + d.s * ((l : Int) - 1) + g.own d ≤ F k
  src : ∀ (k : Nat) (g : Gt), gs[k]? = some g → g.fed = false → 0 ≤ F k
def Own.nn (d : Own) : Prop := 0 ≤ d.s ∧ 0 ≤ d.o ∧ 0 ≤ d.t
theorem Own.nn.own {d : Own} (h : d.nn) (g : Gt) : 0 ≤ g.own d := by
  obtain ⟨_, h1, h2⟩ := h
  cases g <;> assumption
theorem zl_pos {gs : List Gt} {wl : List (List Way)} (ok : Okl gs wl) {k : Nat} {g : Gt} {ws : List Way} (eg : gs[k]? = some g) (ew : wl[k]? = some ws) {f l : Nat} (h : (f, l) ∈ g.feeds.zip (lens ws)) : 1 ≤ l := by
  have h2 := (List.of_mem_zip h).2
  unfold lens at h2
  obtain ⟨w, hw, rfl⟩ := List.mem_map.mp h2
  exact ((ok.ways k g ws eg ew).2 w hw).1
section
variable {gs : List Gt} {wl : List (List Way)} {d : Own}
theorem bro_ne (ok : Okl gs wl) {k : Nat} {g : Gt} {ws : List Way} (eg : gs[k]? = some g) (ew : wl[k]? = some ws) (hf : g.fed = true) : (bro (arrs gs wl d) g.feeds (lens ws) d.s).map (·.1) ≠ [] := by
  have hp := fed_pos hf
  have lw := (ok.ways k g ws eg ew).1
  obtain ⟨f, hfe⟩ : ∃ f, g.feeds[0]? = some f := ⟨_, List.getElem?_eq_getElem hp⟩
  obtain ⟨ln, hln⟩ : ∃ ln, (lens ws)[0]? = some ln := by
    have : 0 < (lens ws).length := by
      unfold lens
      rw [List.length_map, lw]
      exact hp
    exact ⟨_, List.getElem?_eq_getElem this⟩
  exact List.ne_nil_of_mem (List.mem_map.mpr ⟨_, zip_bro (zip_mem hfe hln), rfl⟩)
theorem arr_pot (ok : Okl gs wl) : Pot gs wl d (AR gs wl d) := by
  refine ⟨fun k g ws eg ew hf f l h => ?_, fun k g eg hf => ?_⟩
  · have e := arr_fed (d := d) ok eg ew hf
    show _ ≤ (arrs gs wl d).getD k 0
    rw [e]
    have := (mxi_mem (bro_ne (d := d) ok eg ew hf)).2 _ (List.mem_map.mpr ⟨_, zip_bro (arr := arrs gs wl d) (s := d.s) h, rfl⟩)
    have this : (arrs gs wl d).getD f 0 + d.s * ((l : Int) - 1) ≤ _ := this
    show (arrs gs wl d).getD f 0 + _ + _ ≤ _
    omega
  · show 0 ≤ (arrs gs wl d).getD k 0
    rw [arr_src eg hf]
    exact Int.le_refl _
theorem arr_att (ok : Okl gs wl) {k : Nat} {g : Gt} {ws : List Way} (eg : gs[k]? = some g) (ew : wl[k]? = some ws) (hf : g.fed = true) :
    ∃ f l, (f, l) ∈ g.feeds.zip (lens ws) ∧ f < k ∧ AR gs wl d k = AR gs wl d f + d.s * ((l : Int) - 1) + g.own d := by
  have e := arr_fed (d := d) ok eg ew hf
  obtain ⟨pr, hpr, e2⟩ := List.mem_map.mp (mxi_mem (bro_ne (d := d) ok eg ew hf)).1
  obtain ⟨f, l, hz, rfl⟩ := bro_zip hpr
  refine ⟨f, l, hz, fed_lt (ok.gate k g eg) hf f (zip_feed hz), ?_⟩
  show (arrs gs wl d).getD k 0 = _
  rw [e, ← e2]
theorem arr_le (ok : Okl gs wl) {F : Nat → Int} (p : Pot gs wl d F) : ∀ k, k < gs.length → AR gs wl d k ≤ F k := by
  intro k
  induction k using Nat.strongRecOn with
  | _ k ih =>
    intro hk
    obtain ⟨g, eg⟩ : ∃ g, gs[k]? = some g := ⟨_, List.getElem?_eq_getElem hk⟩
    obtain ⟨ws, ew, _, _⟩ := ok.at eg
    cases hf : g.fed with
    | false =>
      show (arrs gs wl d).getD k 0 ≤ _
      rw [arr_src eg hf]
      exact p.src k g eg hf
    | true =>
      obtain ⟨f, l, hz, hlt, e⟩ := arr_att (d := d) ok eg ew hf
      have h1 := ih f hlt (by omega)
      have h2 := p.fed k g ws eg ew hf f l hz
      omega
theorem arr_nn (ok : Okl gs wl) (hd : d.nn) : ∀ k, k < gs.length → 0 ≤ AR gs wl d k := by
  intro k
  induction k using Nat.strongRecOn with
  | _ k ih =>
    intro hk
    obtain ⟨g, eg⟩ : ∃ g, gs[k]? = some g := ⟨_, List.getElem?_eq_getElem hk⟩
    obtain ⟨ws, ew, _, _⟩ := ok.at eg
    cases hf : g.fed with
    | false =>
      show 0 ≤ (arrs gs wl d).getD k 0
      rw [arr_src eg hf]
      exact Int.le_refl _
    | true =>
      obtain ⟨f, l, hz, hlt, e⟩ := arr_att (d := d) ok eg ew hf
      have h1 := ih f hlt (by omega)
      have h2 := zl_pos ok eg ew hz
      have h3 : 0 ≤ d.s * ((l : Int) - 1) := Int.mul_nonneg hd.1 (by omega)
      have h4 := hd.own g
      omega
theorem arrs_len : (arrs gs wl d).length = gs.length := arrN_len _ _ _ _
theorem arrs_okN (ok : Okl gs wl) (hd : d.nn) : ArrOk gs wl d (arrs gs wl d) := by
  refine ⟨arrs_len, fun x hx => ?_, fun k g ws eg ew hf p hp => ?_⟩
  · obtain ⟨k, hk⟩ := List.getElem?_of_mem hx
    have hk2 := (List.getElem?_eq_some_iff.mp hk).1
    have := arr_nn ok hd k (by rw [← arrs_len (wl := wl) (d := d)]; exact hk2)
    unfold AR at this
    rw [List.getD_eq_getElem?_getD, hk] at this
    exact this
  · obtain ⟨f, l, hz, rfl⟩ := bro_zip hp
    exact (arr_pot ok).fed k g ws eg ew hf f l hz
/-- the time of a clock -/
structure TimeIs (gs : List Gt) (wl : List (List Way)) (d : Own) (c : Str) (t : Int) : Prop where
  le : ∀ b ∈ boxesN gs c gs.length, boxT gs wl (arrs gs wl d) d.s b ≤ t
  at_ : (boxesN gs c gs.length = [] ∧ t = 0) ∨ ∃ b ∈ boxesN gs c gs.length, t = boxT gs wl (arrs gs wl d) d.s b
theorem TimeIs.of {c : Str} {t : Int} {l : List Nat} (h : SlwOk gs wl d c t l) : TimeIs gs wl d c t := by
  rcases h with ⟨h1, h2, _⟩ | ⟨b, ch, hb, _, _, _, ht, hm⟩
  · exact ⟨(fun b hb => by rw [h1] at hb; cases hb), .inl ⟨h1, h2⟩⟩
  · exact ⟨hm, .inr ⟨b, hb, ht⟩⟩
/-- a box's time -/
theorem box_at (ok : Okl gs wl) {c : Str} {b : Nat} (hb : b ∈ boxesN gs c gs.length) : ∃ bit dd w0, gs[b]? = some (.box c bit dd) ∧ wl[b]? = some [w0] ∧ dd < gs.length ∧ 1 ≤ w0.length ∧ ∀ d : Own, boxT gs wl (arrs gs wl d) d.s b = AR gs wl d dd + d.s * ((w0.length : Int) - 1) := by
  obtain ⟨hbn, bit, dd, eg⟩ := boxesN_mem hb
  obtain ⟨ws, ew, lw, hw⟩ := ok.at eg
  obtain ⟨w0, rfl⟩ : ∃ w0, ws = [w0] := by
    match ws, lw with
    | [w0], _ => exact ⟨w0, rfl⟩
  exact ⟨bit, dd, w0, eg, ew, ok.gate b _ eg, (hw w0 List.mem_cons_self).1, fun d => (boxT_at eg ew).symm⟩
theorem TimeIs.nn (ok : Okl gs wl) (hd : d.nn) {c : Str} {t : Int} (h : TimeIs gs wl d c t) : 0 ≤ t := by
  rcases h.at_ with ⟨_, e⟩ | ⟨b, hb, e⟩
  · omega
  · obtain ⟨bit, dd, w0, _, _, hdd, h1, e2⟩ := box_at ok hb
    have h2 := arr_nn ok hd dd hdd
    have h3 : 0 ≤ d.s * ((w0.length : Int) - 1) := Int.mul_nonneg hd.1 (by omega)
    rw [e, e2]
    omega
end
/-! the laws -/
def Own.by (m : Int) (d : Own) : Own := ⟨m * d.s, m * d.o, m * d.t⟩
def Own.add (d e : Own) : Own := ⟨d.s + e.s, d.o + e.o, d.t + e.t⟩
theorem own_by (m : Int) (d : Own) (g : Gt) : g.own (d.by m) = m * g.own d := by cases g <;> rfl
theorem own_add (d e : Own) (g : Gt) : g.own (d.add e) = g.own d + g.own e := by cases g <;> rfl
theorem Own.nn.by {m : Int} {d : Own} (hm : 0 ≤ m) (h : d.nn) : (d.by m).nn := ⟨Int.mul_nonneg hm h.1, Int.mul_nonneg hm h.2.1, Int.mul_nonneg hm h.2.2⟩
theorem Own.nn.add {d e : Own} (h : d.nn) (h2 : e.nn) : (d.add e).nn := ⟨Int.add_nonneg h.1 h2.1, Int.add_nonneg h.2.1 h2.2.1, Int.add_nonneg h.2.2 h2.2.2⟩
section
variable {gs : List Gt} {wl wl' : List (List Way)} {d e : Own}
theorem arr_by (ok : Okl gs wl) {m : Int} (hm : 1 ≤ m) {k : Nat} (hk : k < gs.length) : AR gs wl (d.by m) k = m * AR gs wl d k := by
  have h1 : AR gs wl (d.by m) k ≤ m * AR gs wl d k := by
    refine arr_le ok (F := fun k => m * AR gs wl d k) ⟨fun k g ws eg ew hf f l hz => ?_, fun k g eg hf => ?_⟩ k hk
    · have h := (arr_pot (d := d) ok).fed k g ws eg ew hf f l hz
      have h2 : m * (AR gs wl d f + d.s * ((l : Int) - 1) + g.own d) ≤ m * AR gs wl d k := Int.mul_le_mul_of_nonneg_left h (by omega)
      rw [own_by]
      show m * _ + m * d.s * _ + _ ≤ m * _
      rw [Int.mul_add, Int.mul_add, ← Int.mul_assoc] at h2
      exact h2
    · have h : AR gs wl d k = 0 := arr_src eg hf
      show 0 ≤ m * AR gs wl d k
      rw [h, Int.mul_zero]
      exact Int.le_refl _
  have h2 : AR gs wl d k ≤ AR gs wl (d.by m) k / m := by
    refine arr_le ok (F := fun k => AR gs wl (d.by m) k / m) ⟨fun k g ws eg ew hf f l hz => ?_, fun k g eg hf => ?_⟩ k hk
    · have h := (arr_pot (d := d.by m) ok).fed k g ws eg ew hf f l hz
      rw [own_by] at h
      have e1 : AR gs wl (d.by m) f / m + d.s * ((l : Int) - 1) + g.own d = (AR gs wl (d.by m) f + m * (d.s * ((l : Int) - 1) + g.own d)) / m := by
        rw [Int.add_mul_ediv_left _ _ (by omega), Int.add_assoc]
      show AR gs wl (d.by m) f / m + d.s * ((l : Int) - 1) + g.own d ≤ AR gs wl (d.by m) k / m
      rw [e1]
      refine Int.ediv_le_ediv (by omega) ?_
      have h : AR gs wl (d.by m) f + m * d.s * ((l : Int) - 1) + m * g.own d ≤ AR gs wl (d.by m) k := h
      rw [Int.mul_add, ← Int.mul_assoc, ← Int.add_assoc]
      exact h
    · have h : AR gs wl (d.by m) k = 0 := arr_src eg hf
      show 0 ≤ AR gs wl (d.by m) k / m
      rw [h, Int.zero_ediv]
      exact Int.le_refl _
  have h3 : m * AR gs wl d k ≤ m * (AR gs wl (d.by m) k / m) := Int.mul_le_mul_of_nonneg_left h2 (by omega)
  have h4 := Int.mul_ediv_self_le (x := AR gs wl (d.by m) k) (k := m) (by omega)
  omega
theorem time_by (ok : Okl gs wl) {m : Int} (hm : 1 ≤ m) {c : Str} {t u : Int} (h : TimeIs gs wl d c t) (h2 : TimeIs gs wl (d.by m) c u) : u = m * t := by
  have bx : ∀ b ∈ boxesN gs c gs.length, boxT gs wl (arrs gs wl (d.by m)) (d.by m).s b = m * boxT gs wl (arrs gs wl d) d.s b := fun b hb => by
    obtain ⟨bit, dd, w0, _, _, hdd, _, e2⟩ := box_at ok hb
    rw [e2, e2, arr_by ok hm hdd, Int.mul_add]
    show _ + m * d.s * _ = _
    rw [Int.mul_assoc]
  rcases h.at_ with ⟨z, e1⟩ | ⟨b, hb, e1⟩
  · rcases h2.at_ with ⟨_, e2⟩ | ⟨b, hb, _⟩
    · rw [e1, e2, Int.mul_zero]
    · rw [z] at hb
      cases hb
  · rcases h2.at_ with ⟨z, _⟩ | ⟨b2, hb2, e2⟩
    · rw [z] at hb
      cases hb
    · have h3 := h2.le b hb
      rw [bx b hb, ← e1] at h3
      have h4 := h.le b2 hb2
      rw [bx b2 hb2] at e2
      have h5 : m * boxT gs wl (arrs gs wl d) d.s b2 ≤ m * t := Int.mul_le_mul_of_nonneg_left h4 (by omega)
      omega
theorem arr_zero (ok : Okl gs wl) {k : Nat} (hk : k < gs.length) : AR gs wl ⟨0, 0, 0⟩ k = 0 := by
  have h1 : AR gs wl ⟨0, 0, 0⟩ k ≤ 0 := by
    refine arr_le ok (F := fun _ => 0) ⟨fun k g ws eg ew hf f l hz => ?_, fun k g eg hf => Int.le_refl _⟩ k hk
    have h : g.own ⟨0, 0, 0⟩ = 0 := by cases g <;> rfl
    rw [h]
    show 0 + 0 * _ + 0 ≤ (0 : Int)
    rw [Int.zero_mul]
    decide
  have h2 := arr_nn (d := ⟨0, 0, 0⟩) ok ⟨Int.le_refl _, Int.le_refl _, Int.le_refl _⟩ k hk
  omega
theorem arrs_zero (ok : Okl gs wl) : arrs gs wl ⟨0, 0, 0⟩ = List.replicate gs.length 0 := by
  refine List.ext_getElem? fun i => ?_
  by_cases hi : i < gs.length
  · have h := arr_zero (wl := wl) ok hi
    unfold AR at h
    have hl : i < (arrs gs wl ⟨0, 0, 0⟩).length := by rw [arrs_len]; exact hi
    rw [List.getD_eq_getElem?_getD, List.getElem?_eq_getElem hl] at h
    have h : (arrs gs wl ⟨0, 0, 0⟩)[i] = 0 := h
    rw [List.getElem?_eq_getElem hl, h, List.getElem?_replicate, if_pos hi]
  · rw [List.getElem?_eq_none (by rw [arrs_len]; omega), List.getElem?_eq_none (by rw [List.length_replicate]; omega)]
theorem time_zero (ok : Okl gs wl) {c : Str} {t : Int} (h : TimeIs gs wl ⟨0, 0, 0⟩ c t) : t = 0 := by
  rcases h.at_ with ⟨_, e⟩ | ⟨b, hb, e⟩
  · exact e
  · obtain ⟨bit, dd, w0, _, _, hdd, _, e2⟩ := box_at ok hb
    rw [e, e2, arr_zero ok hdd]
    show 0 + 0 * _ = (0 : Int)
    rw [Int.zero_mul]
    rfl
theorem arr_addL (ok : Okl gs wl) (he : e.nn) {k : Nat} (hk : k < gs.length) : AR gs wl d k ≤ AR gs wl (d.add e) k := by
  refine arr_le ok ⟨fun k g ws eg ew hf f l hz => ?_, (arr_pot (d := d.add e) ok).src⟩ k hk
  have h := (arr_pot (d := d.add e) ok).fed k g ws eg ew hf f l hz
  rw [own_add] at h
  have h1 := zl_pos ok eg ew hz
  have h2 : 0 ≤ e.s * ((l : Int) - 1) := Int.mul_nonneg he.1 (by omega)
  have h3 := he.own g
  have h : AR gs wl (d.add e) f + (d.s + e.s) * ((l : Int) - 1) + (g.own d + g.own e) ≤ AR gs wl (d.add e) k := h
  rw [Int.add_mul] at h
  omega
theorem arr_addU (ok : Okl gs wl) {k : Nat} (hk : k < gs.length) : AR gs wl (d.add e) k ≤ AR gs wl d k + AR gs wl e k := by
  refine arr_le ok (F := fun k => AR gs wl d k + AR gs wl e k) ⟨fun k g ws eg ew hf f l hz => ?_, fun k g eg hf => Int.add_nonneg ((arr_pot (d := d) ok).src k g eg hf) ((arr_pot (d := e) ok).src k g eg hf)⟩ k hk
  have h1 := (arr_pot (d := d) ok).fed k g ws eg ew hf f l hz
  have h2 := (arr_pot (d := e) ok).fed k g ws eg ew hf f l hz
  rw [own_add]
  show AR gs wl d f + AR gs wl e f + (d.s + e.s) * ((l : Int) - 1) + (g.own d + g.own e) ≤ AR gs wl d k + AR gs wl e k
  rw [Int.add_mul]
  omega
theorem own_addC : d.add e = e.add d := by
  unfold Own.add
  rw [Int.add_comm d.s, Int.add_comm d.o, Int.add_comm d.t]
theorem time_add1 (ok : Okl gs wl) (he : e.nn) {c : Str} {t u : Int} (h : TimeIs gs wl d c t) (h2 : TimeIs gs wl (d.add e) c u) : t ≤ u := by
  rcases h.at_ with ⟨z, e1⟩ | ⟨b, hb, e1⟩
  · rcases h2.at_ with ⟨_, e2⟩ | ⟨b, hb, _⟩
    · omega
    · rw [z] at hb
      cases hb
  · have h3 := h2.le b hb
    obtain ⟨bit, dd, w0, _, _, hdd, h1, e2⟩ := box_at ok hb
    rw [e2] at h3 e1
    have h4 := arr_addL (d := d) ok he hdd
    have h5 : 0 ≤ e.s * ((w0.length : Int) - 1) := Int.mul_nonneg he.1 (by omega)
    have h3 : AR gs wl (d.add e) dd + (d.s + e.s) * ((w0.length : Int) - 1) ≤ u := h3
    rw [Int.add_mul] at h3
    omega
theorem time_addU (ok : Okl gs wl) {c : Str} {t t' u : Int} (h : TimeIs gs wl d c t) (h' : TimeIs gs wl e c t') (h2 : TimeIs gs wl (d.add e) c u) : u ≤ t + t' := by
  rcases h2.at_ with ⟨z, e1⟩ | ⟨b, hb, e1⟩
  · rcases h.at_ with ⟨_, e2⟩ | ⟨b, hb, _⟩
    · rcases h'.at_ with ⟨_, e3⟩ | ⟨b, hb, _⟩
      · omega
      · rw [z] at hb
        cases hb
    · rw [z] at hb
      cases hb
  · have h3 := h.le b hb
    have h4 := h'.le b hb
    obtain ⟨bit, dd, w0, _, _, hdd, h1, e2⟩ := box_at ok hb
    rw [e2] at h3 h4 e1
    have h5 := arr_addU (d := d) (e := e) ok hdd
    have e1 : u = AR gs wl (d.add e) dd + (d.s + e.s) * ((w0.length : Int) - 1) := e1
    rw [Int.add_mul] at e1
    omega
end
end K53

namespace K53
open PySem PySem.Spec PyProof.Rows L2 Kit
/-! ### ways of the same lengths, one way longer -/
def Like (wl wl' : List (List Way)) : Prop := wl'.length = wl.length ∧ ∀ (k : Nat) (ws : List Way), wl[k]? = some ws → ∃ ws', wl'[k]? = some ws' ∧ lens ws' = lens ws
theorem Like.sym {wl wl' : List (List Way)} (h : Like wl wl') : Like wl' wl := by
  refine ⟨h.1.symm, fun k ws' e => ?_⟩
  have hk := (List.getElem?_eq_some_iff.mp e).1
  have e1 : wl[k]? = some (wl[k]'(by rw [← h.1]; exact hk)) := List.getElem?_eq_getElem _
  obtain ⟨ws2, e2, e3⟩ := h.2 k _ e1
  rw [e] at e2
  cases e2
  exact ⟨_, e1, e3.symm⟩
theorem lens_len {ws ws' : List Way} (h : lens ws' = lens ws) : ws'.length = ws.length := by
  have := congrArg List.length h
  unfold lens at this
  rw [List.length_map, List.length_map] at this
  exact this
theorem Like.okl {gs : List Gt} {wl wl' : List (List Way)} (h : Like wl wl') (ok : Okl gs wl) : Okl gs wl' := by
  refine ⟨ok.gate, by rw [h.1, ok.many], fun i g ws' eg ew' => ?_⟩
  obtain ⟨ws, ew, e⟩ := h.sym.2 i ws' ew'
  obtain ⟨h1, h2⟩ := ok.ways i g ws eg ew
  refine ⟨by rw [← lens_len e]; exact h1, fun w hw => ?_⟩
  have h3 : w.length ∈ lens ws' := by
    unfold lens
    exact List.mem_map.mpr ⟨w, hw, rfl⟩
  rw [← e] at h3
  unfold lens at h3
  obtain ⟨w2, hw2, e2⟩ := List.mem_map.mp h3
  rw [← e2]
  exact h2 w2 hw2
section
variable {gs : List Gt} {wl wl' : List (List Way)} {d : Own}
theorem like_le (h : Like wl wl') (ok : Okl gs wl) {k : Nat} (hk : k < gs.length) : AR gs wl d k ≤ AR gs wl' d k := by
  refine arr_le ok ⟨fun k g ws eg ew hf f l hz => ?_, (arr_pot (h.okl ok)).src⟩ k hk
  obtain ⟨ws', ew', e⟩ := h.2 k ws ew
  rw [← e] at hz
  exact (arr_pot (h.okl ok)).fed k g ws' eg ew' hf f l hz
theorem like_ar (h : Like wl wl') (ok : Okl gs wl) {k : Nat} (hk : k < gs.length) : AR gs wl' d k = AR gs wl d k :=
  Int.le_antisymm (like_le h.sym (h.okl ok) hk) (like_le h ok hk)
theorem getD_eq_ext {l m : List Int} (hl : l.length = m.length) (h : ∀ k, k < l.length → l.getD k 0 = m.getD k 0) : l = m := by
  refine List.ext_getElem? fun i => ?_
  by_cases hi : i < l.length
  · have := h i hi
    rw [List.getD_eq_getElem?_getD, List.getD_eq_getElem?_getD, List.getElem?_eq_getElem hi, List.getElem?_eq_getElem (by omega)] at this
    rw [List.getElem?_eq_getElem hi, List.getElem?_eq_getElem (by omega)]
    exact congrArg some this
  · rw [List.getElem?_eq_none (by omega), List.getElem?_eq_none (by omega)]
theorem like_arrs (h : Like wl wl') (ok : Okl gs wl) : arrs gs wl' d = arrs gs wl d :=
  getD_eq_ext (by rw [arrs_len, arrs_len]) fun k hk => like_ar h ok (by rw [← arrs_len (wl := wl') (d := d)]; exact hk)
theorem like_box (h : Like wl wl') (ok : Okl gs wl) {c : Str} {b : Nat} (hb : b ∈ boxesN gs c gs.length) : boxT gs wl' (arrs gs wl' d) d.s b = boxT gs wl (arrs gs wl d) d.s b := by
  obtain ⟨bit, dd, w0, eg, ew, hdd, _, e⟩ := box_at ok hb
  obtain ⟨bit', dd', w0', eg', ew', _, _, e'⟩ := box_at (h.okl ok) hb
  rw [eg] at eg'
  cases eg'
  obtain ⟨ws2, ew2, el⟩ := h.2 b _ ew
  rw [ew'] at ew2
  cases ew2
  have e3 : w0'.length = w0.length := by
    have el : [w0'.length] = [w0.length] := el
    exact (List.cons.inj el).1
  rw [e, e', like_ar h ok hdd, e3]
theorem TimeIs.uniq {c : Str} {t u : Int} (h : TimeIs gs wl d c t) (h2 : TimeIs gs wl d c u) : t = u := by
  rcases h.at_ with ⟨z, e1⟩ | ⟨b, hb, e1⟩
  · rcases h2.at_ with ⟨_, e2⟩ | ⟨b, hb, _⟩
    · rw [e1, e2]
    · rw [z] at hb
      cases hb
  · rcases h2.at_ with ⟨z, _⟩ | ⟨b2, hb2, e2⟩
    · rw [z] at hb
      cases hb
    · have h3 := h.le b2 hb2
      have h4 := h2.le b hb
      omega
theorem like_time (h : Like wl wl') (ok : Okl gs wl) {c : Str} {t u : Int} (h1 : TimeIs gs wl d c t) (h2 : TimeIs gs wl' d c u) : u = t := by
  refine TimeIs.uniq (wl := wl) (d := d) ⟨fun b hb => ?_, ?_⟩ h1
  · rw [← like_box h ok hb]
    exact h2.le b hb
  · rcases h2.at_ with z | ⟨b, hb, e⟩
    · exact .inl z
    · exact .inr ⟨b, hb, by rw [← like_box h ok hb]; exact e⟩
/-- one way longer by two cells -/
structure More (wl wl' : List (List Way)) (k0 : Nat) : Prop where
  len : wl'.length = wl.length
  same : ∀ k, k ≠ k0 → wl'[k]? = wl[k]?
  at_ : ∀ ws, wl[k0]? = some ws → ∃ w w' rest, ws = w :: rest ∧ wl'[k0]? = some (w' :: rest) ∧ w'.length = w.length + 2 ∧ w'.length ≤ 1000
theorem More.okl {k0 : Nat} (h : More wl wl' k0) (ok : Okl gs wl) : Okl gs wl' := by
  refine ⟨ok.gate, by rw [h.len, ok.many], fun i g ws' eg ew' => ?_⟩
  by_cases hi : i = k0
  · subst hi
    obtain ⟨ws, ew, h1, h2⟩ := ok.at eg
    obtain ⟨w, w', rest, rfl, e2, e3, e4⟩ := h.at_ ws ew
    rw [ew'] at e2
    cases e2
    refine ⟨h1, fun z hz => ?_⟩
    rcases List.mem_cons.mp hz with rfl | hz
    · exact ⟨by omega, e4⟩
    · exact h2 z (List.mem_cons_of_mem _ hz)
  · rw [h.same i hi] at ew'
    exact ok.ways i g ws' eg ew'
theorem More.pair {k0 k : Nat} (h : More wl wl' k0) {fs : List Nat} {ws ws' : List Way} (ew : wl[k]? = some ws) (ew' : wl'[k]? = some ws') {f l' : Nat} (hz : (f, l') ∈ fs.zip (lens ws')) : ∃ l, (f, l) ∈ fs.zip (lens ws) ∧ l ≤ l' ∧ l' ≤ l + 2 ∧ (k ≠ k0 → l' = l) := by
  by_cases hk : k = k0
  · subst hk
    obtain ⟨w, w', rest, rfl, e2, e3, _⟩ := h.at_ ws ew
    rw [ew'] at e2
    cases e2
    obtain ⟨j, hj⟩ := List.getElem?_of_mem hz
    obtain ⟨h1, h2⟩ := List.getElem?_zip_eq_some.mp hj
    unfold lens at h2
    rw [List.map_cons] at h2
    cases j with
    | zero =>
      have e : w'.length = l' := by
        rw [List.getElem?_cons_zero] at h2
        exact Option.some.inj h2
      refine ⟨w.length, zip_mem (j := 0) h1 (by unfold lens; rw [List.map_cons]; rfl), by omega, by omega, fun z => absurd rfl z⟩
    | succ j =>
      rw [List.getElem?_cons_succ] at h2
      refine ⟨l', zip_mem (j := j + 1) h1 (by unfold lens; rw [List.map_cons, List.getElem?_cons_succ]; exact h2), Nat.le_refl _, by omega, fun _ => rfl⟩
  · rw [h.same k hk, ew] at ew'
    cases ew'
    exact ⟨l', hz, Nat.le_refl _, by omega, fun _ => rfl⟩
theorem More.pair2 {k0 k : Nat} (h : More wl wl' k0) {fs : List Nat} {ws ws' : List Way} (ew : wl[k]? = some ws) (ew' : wl'[k]? = some ws') {f l : Nat} (hz : (f, l) ∈ fs.zip (lens ws)) : ∃ l', (f, l') ∈ fs.zip (lens ws') ∧ l ≤ l' := by
  by_cases hk : k = k0
  · subst hk
    obtain ⟨w, w', rest, rfl, e2, e3, _⟩ := h.at_ ws ew
    rw [ew'] at e2
    cases e2
    obtain ⟨j, hj⟩ := List.getElem?_of_mem hz
    obtain ⟨h1, h2⟩ := List.getElem?_zip_eq_some.mp hj
    unfold lens at h2
    rw [List.map_cons] at h2
    cases j with
    | zero =>
      have e : w.length = l := by
        rw [List.getElem?_cons_zero] at h2
        exact Option.some.inj h2
      exact ⟨w'.length, zip_mem (j := 0) h1 (by unfold lens; rw [List.map_cons]; rfl), by omega⟩
    | succ j =>
      rw [List.getElem?_cons_succ] at h2
      exact ⟨l, zip_mem (j := j + 1) h1 (by unfold lens; rw [List.map_cons, List.getElem?_cons_succ]; exact h2), Nat.le_refl _⟩
  · rw [h.same k hk, ew] at ew'
    cases ew'
    exact ⟨l, hz, Nat.le_refl _⟩
theorem more_lo {k0 : Nat} (h : More wl wl' k0) (ok : Okl gs wl) (hd : d.nn) {k : Nat} (hk : k < gs.length) : AR gs wl d k ≤ AR gs wl' d k := by
  refine arr_le ok ⟨fun k g ws eg ew hf f l hz => ?_, (arr_pot (h.okl ok)).src⟩ k hk
  obtain ⟨ws', ew', _, _⟩ := (h.okl ok).at eg
  obtain ⟨l', hz', hl⟩ := h.pair2 ew ew' hz
  have h1 := (arr_pot (d := d) (h.okl ok)).fed k g ws' eg ew' hf f l' hz'
  have h2 : d.s * ((l : Int) - 1) ≤ d.s * ((l' : Int) - 1) := Int.mul_le_mul_of_nonneg_left (by omega) hd.1
  omega
theorem more_up {k0 : Nat} (h : More wl wl' k0) (ok : Okl gs wl) (hd : d.nn) {k : Nat} (hk : k < gs.length) :
    AR gs wl' d k ≤ AR gs wl d k + (if k0 ≤ k ∧ (∃ g, gs[k0]? = some g ∧ g.fed = true) then 2 * d.s else 0) := by
  have s0 := hd.1
  refine arr_le (h.okl ok) (F := fun k => AR gs wl d k + (if k0 ≤ k ∧ (∃ g, gs[k0]? = some g ∧ g.fed = true) then 2 * d.s else 0)) ⟨fun k g ws' eg ew' hf f l' hz => ?_, fun k g eg hf => ?_⟩ k hk
  · obtain ⟨ws, ew, _, _⟩ := ok.at eg
    obtain ⟨l, hz2, h1, h2, h3⟩ := h.pair ew ew' hz
    have hp := (arr_pot (d := d) ok).fed k g ws eg ew hf f l hz2
    have hfk := fed_lt (ok.gate k g eg) hf f (zip_feed hz)
    show AR gs wl d f + _ + _ + _ ≤ AR gs wl d k + _
    by_cases hk0 : k = k0
    · subst hk0
      rw [if_neg (fun z => absurd z.1 (by omega)), if_pos ⟨Nat.le_refl _, g, eg, hf⟩]
      have h4 : d.s * ((l' : Int) - 1) ≤ d.s * ((l : Int) - 1 + 2) := Int.mul_le_mul_of_nonneg_left (by omega) hd.1
      rw [Int.mul_add] at h4
      omega
    · have e := h3 hk0
      subst e
      by_cases hc : k0 ≤ k ∧ (∃ g, gs[k0]? = some g ∧ g.fed = true)
      · rw [if_pos hc]
        split <;> omega
      · rw [if_neg hc, if_neg (fun z => hc ⟨by omega, z.2⟩)]
        omega
  · have h1 := (arr_pot (d := d) ok).src k g eg hf
    show 0 ≤ AR gs wl d k + _
    split <;> omega
theorem more_up2 {k0 : Nat} (h : More wl wl' k0) (ok : Okl gs wl) (hd : d.nn) {k : Nat} (hk : k < gs.length) : AR gs wl' d k ≤ AR gs wl d k + 2 * d.s := by
  have h1 := more_up h ok hd hk
  have s0 := hd.1
  split at h1 <;> omega
theorem more_box {k0 : Nat} (h : More wl wl' k0) (ok : Okl gs wl) (hd : d.nn) {c : Str} {b : Nat} (hb : b ∈ boxesN gs c gs.length) :
    boxT gs wl (arrs gs wl d) d.s b ≤ boxT gs wl' (arrs gs wl' d) d.s b ∧ boxT gs wl' (arrs gs wl' d) d.s b ≤ boxT gs wl (arrs gs wl d) d.s b + 2 * d.s := by
  obtain ⟨bit, dd, w0, eg, ew, hdd, _, e⟩ := box_at ok hb
  obtain ⟨bit', dd', w0', eg', ew', _, _, e'⟩ := box_at (h.okl ok) hb
  rw [eg] at eg'
  cases eg'
  rw [e, e']
  have s0 := hd.1
  have lo := more_lo (d := d) h ok hd hdd
  obtain ⟨l, hz, h1, h2, h3⟩ := h.pair (fs := [dd]) (k := b) ew ew' (f := dd) (l' := w0'.length) (List.mem_singleton.mpr rfl)
  have el : l = w0.length := by
    have hz : (dd, l) ∈ [(dd, w0.length)] := hz
    cases List.mem_singleton.mp hz
    rfl
  subst el
  have m1 : d.s * ((w0.length : Int) - 1) ≤ d.s * ((w0'.length : Int) - 1) := Int.mul_le_mul_of_nonneg_left (by omega) hd.1
  refine ⟨by omega, ?_⟩
  by_cases hk0 : b = k0
  · subst hk0
    have up := more_up (d := d) h ok hd hdd
    rw [if_neg (fun z => by
      obtain ⟨_, g, e1, e2⟩ := z
      rw [eg] at e1
      cases e1
      cases e2)] at up
    have h4 : d.s * ((w0'.length : Int) - 1) ≤ d.s * ((w0.length : Int) - 1 + 2) := Int.mul_le_mul_of_nonneg_left (by omega) hd.1
    rw [Int.mul_add] at h4
    omega
  · have e5 := h3 hk0
    have up := more_up2 (d := d) h ok hd hdd
    rw [e5]
    omega
theorem more_time {k0 : Nat} (h : More wl wl' k0) (ok : Okl gs wl) (hd : d.nn) {c : Str} {t u : Int} (h1 : TimeIs gs wl d c t) (h2 : TimeIs gs wl' d c u) : t ≤ u ∧ u ≤ t + 2 * d.s := by
  have s0 := hd.1
  rcases h1.at_ with ⟨z, e1⟩ | ⟨b, hb, e1⟩
  · rcases h2.at_ with ⟨_, e2⟩ | ⟨b, hb, _⟩
    · omega
    · rw [z] at hb
      cases hb
  · rcases h2.at_ with ⟨z, _⟩ | ⟨b2, hb2, e2⟩
    · rw [z] at hb
      cases hb
    · have h3 := (more_box (d := d) h ok hd hb).1
      have h4 := h2.le b hb
      have h5 := (more_box (d := d) h ok hd hb2).2
      have h6 := h1.le b2 hb2
      omega
end
end K53

namespace K53
open PySem PySem.Spec PyProof.Rows L2 Kit
/-! ### what slowest tells is let by -/
section
variable {gs : List Gt} {wl : List (List Way)} {d : Own}
theorem step_top (ok : Okl gs wl) (hs : 0 ≤ d.s) {x y : Nat} (h : Top gs wl (arrs gs wl d) d.s x y) :
    ∃ gt ws l, gs[x]? = some gt ∧ wl[x]? = some ws ∧ (y, l) ∈ gt.feeds.zip (lens ws) ∧ y ∈ gt.feeds ∧
      (∀ q ∈ bro (arrs gs wl d) gt.feeds (lens ws) d.s, q.1 ≤ AR gs wl d y + d.s * ((l : Int) - 1)) ∧
      stepT gs wl d y x = d.s * ((l : Int) - 1) + ownF d gt := by
  obtain ⟨gt, ws, pr, eg, ew, hpr, e2, hm⟩ := h
  obtain ⟨f, l, hz, rfl⟩ := bro_zip hpr
  obtain rfl : f = y := Int.ofNat.inj e2
  refine ⟨gt, ws, l, eg, ew, hz, zip_feed hz, hm, ?_⟩
  obtain ⟨j, hj⟩ := List.getElem?_of_mem hz
  obtain ⟨h1, h2⟩ := List.getElem?_zip_eq_some.mp hj
  have hjl := (List.getElem?_eq_some_iff.mp h1).1
  have m1 : ((l : Int) - 1) ∈ lensTo gt.feeds (lens ws) f gt.feeds.length := lensTo_mem.mpr ⟨j, hjl, h1, by rw [List.getD_eq_getElem?_getD, h2]; rfl⟩
  obtain ⟨mm, mx⟩ := mxi_mem (List.ne_nil_of_mem m1)
  have lw := (ok.ways x gt ws eg ew).1
  have ll : (lens ws).length = gt.feeds.length := by
    unfold lens
    rw [List.length_map]
    exact lw
  obtain ⟨i, hi, h3, h4⟩ := lensTo_mem.mp mm
  obtain ⟨l2, h5⟩ : ∃ l2, (lens ws)[i]? = some l2 := ⟨_, List.getElem?_eq_getElem (by omega)⟩
  rw [List.getD_eq_getElem?_getD, h5] at h4
  have h4 : (l2 : Int) - 1 = mxi (lensTo gt.feeds (lens ws) f gt.feeds.length) := h4
  have h6 := hm _ (zip_bro (arr := arrs gs wl d) (s := d.s) (zip_mem h3 h5))
  have h6 : (arrs gs wl d).getD f 0 + d.s * ((l2 : Int) - 1) ≤ (arrs gs wl d).getD f 0 + d.s * ((l : Int) - 1) := h6
  have h7 : d.s * ((l : Int) - 1) ≤ d.s * mxi (lensTo gt.feeds (lens ws) f gt.feeds.length) := Int.mul_le_mul_of_nonneg_left (mx _ m1) hs
  rw [h4] at h6
  unfold stepT
  rw [eg]
  show d.s * mxi (lensTo gt.feeds (lens (wl.getD x [])) f gt.feeds.length) + _ = _
  rw [wl_at ew]
  omega
theorem top_fed (ok : Okl gs wl) {x y l : Nat} {gt : Gt} {ws : List Way} (eg : gs[x]? = some gt) (ew : wl[x]? = some ws) (hf : gt.fed = true) (hz : (y, l) ∈ gt.feeds.zip (lens ws))
    (hm : ∀ q ∈ bro (arrs gs wl d) gt.feeds (lens ws) d.s, q.1 ≤ AR gs wl d y + d.s * ((l : Int) - 1)) : AR gs wl d x = AR gs wl d y + d.s * ((l : Int) - 1) + gt.own d := by
  have h1 := (arr_pot (d := d) ok).fed x gt ws eg ew hf y l hz
  have e := arr_fed (d := d) ok eg ew hf
  obtain ⟨pr, hpr, e2⟩ := List.mem_map.mp (mxi_mem (bro_ne (d := d) ok eg ew hf)).1
  have h2 := hm pr hpr
  have e : AR gs wl d x = _ := e
  have e2 : pr.1 = mxi _ := e2
  omega
theorem slow_hold (ok : Okl gs wl) (hd : d.nn) {c : Str} {t : Int} {l : List Nat} (h : SlwOk gs wl d c t l) : Hold gs wl d c t (l.map fun (k : Nat) => (k : Int)) (arrs gs wl d) := by
  have ti := TimeIs.of h
  refine ⟨ti.nn ok hd, arrs_okN ok hd, ?_⟩
  rcases h with ⟨h1, h2, rfl⟩ | ⟨b, ch, hb, rfl, _, hch, ht, hm⟩
  · exact .inl ⟨h1, h2, rfl⟩
  · refine .inr ⟨List.ne_nil_of_mem hb, hm, (b :: ch).reverse, rfl, ?_, ?_⟩
    · -- the path
      have p := pth_of hch
      generalize (b :: ch).reverse = l at p
      have at_ : ∀ {i x : Nat}, l[i]? = some x → l.getD i 0 = x := fun e => by rw [List.getD_eq_getElem?_getD, e]; rfl
      have all : ∀ i, i < l.length → ∃ x g, l[i]? = some x ∧ gs[x]? = some g := fun i hi => by
        cases i with
        | zero =>
          obtain ⟨y, g, h1, h2, _⟩ := p.src
          exact ⟨y, g, h1, h2⟩
        | succ i =>
          obtain ⟨x, y, h1, _, gt, _, _, h2, _⟩ := p.top i (by have := p.len; omega)
          exact ⟨x, gt, h1, h2⟩
      have hl := p.len
      have hp := p.pos
      refine ⟨by omega, fun k hk => ?_, ?_, ?_, fun i h1 h2 => ?_, fun i h1 => ?_⟩
      · obtain ⟨i, hi⟩ := List.getElem?_of_mem hk
        obtain ⟨x, g, e1, e2⟩ := all i (List.getElem?_eq_some_iff.mp hi).1
        rw [hi] at e1
        cases e1
        exact (List.getElem?_eq_some_iff.mp e2).1
      · obtain ⟨y, g, h1, h2, h3⟩ := p.src
        exact ⟨g, by rw [at_ h1]; exact h2, h3⟩
      · obtain ⟨_, bit, dd, eg⟩ := boxesN_mem hb
        refine ⟨bit, dd, ?_⟩
        have e : l.length - 1 = ch.length := by omega
        rw [e, at_ p.box]
        exact eg
      · obtain ⟨x, g, h3, h4, h5⟩ := p.mid i h1 (by omega)
        exact ⟨g, by rw [at_ h3]; exact h4, h5⟩
      · obtain ⟨x, y, h3, h4, h5⟩ := p.top i (by omega)
        obtain ⟨gt, ws, pr, eg, _, hpr, e2, _⟩ := h5
        obtain ⟨f, hf, e3⟩ := bro_feed hpr
        refine ⟨gt, by rw [at_ h3]; exact eg, ?_⟩
        rw [at_ h4]
        rw [e2] at e3
        obtain rfl : y = f := Int.ofNat.inj e3
        exact hf
    · -- its time
      have p := pth_of hch
      generalize (b :: ch).reverse = l at p
      have at_ : ∀ {i x : Nat}, l[i]? = some x → l.getD i 0 = x := fun e => by rw [List.getD_eq_getElem?_getD, e]; rfl
      have hl := p.len
      have hp := p.pos
      have go : ∀ i, i < ch.length → ptN gs wl d l i = AR gs wl d (l.getD i 0) := by
        intro i
        induction i with
        | zero =>
          intro _
          obtain ⟨y, g, h1, h2, h3⟩ := p.src
          rw [ptN, at_ h1]
          exact (arr_src h2 h3).symm
        | succ i ih =>
          intro hi
          obtain ⟨x, y, h1, h2, h3⟩ := p.top i (by omega)
          obtain ⟨gt, ws, ln, eg, ew, hz, _, hq, es⟩ := step_top ok hd.1 h3
          obtain ⟨x', g', h4, h5, h6⟩ := p.mid (i + 1) (by omega) hi
          rw [h1] at h4
          cases h4
          rw [eg] at h5
          cases h5
          have e := top_fed ok eg ew h6 hz hq
          rw [ptN, ih (by omega), at_ h1, at_ h2, es, e]
          unfold ownF
          rw [if_pos h6]
          omega
      have e1 : l.length - 1 = (ch.length - 1) + 1 := by omega
      obtain ⟨x, y, h1, h2, h3⟩ := p.top (ch.length - 1) (by omega)
      obtain ⟨gt, ws, ln, eg, ew, hz, _, hq, es⟩ := step_top ok hd.1 h3
      have e2 : ch.length - 1 + 1 = ch.length := by omega
      rw [e2, p.box] at h1
      cases h1
      rw [e1, ptN, go _ (by omega), at_ h2, e2, at_ p.box, es, ht]
      obtain ⟨bit, dd, w0, eg', ew', _, _, e5⟩ := box_at ok hb
      rw [eg] at eg'
      cases eg'
      rw [ew] at ew'
      cases ew'
      have hz : (y, ln) ∈ [(dd, w0.length)] := hz
      cases List.mem_singleton.mp hz
      rw [e5 d]
      show _ + (_ + (if false = true then _ else 0)) = _
      rw [if_neg Bool.false_ne_true]
      omega
end
end K53

namespace K53
open PySem PySem.Spec PyProof.Rows L2 Kit
/-! ### both clocks' times -/
def FrB (l : Addr) (H H' : Hp) : Prop := ∀ b o, b ≠ l → H b = some o → H' b = some o
theorem FrB.trans {l : Addr} {a b c : Hp} (h : FrB l a b) (h2 : FrB l b c) : FrB l a c := fun x o n e => h2 x o n (h x o n e)
theorem FrB.of {l : Addr} {a b : Hp} (h : Same a b) : FrB l a b := fun x o _ e => h x o e
theorem FrB.mut {l p : Addr} {o : HO} {H H' : Hp} (h : FrB l H H') (n : H p = none) : FrB l H (upd H' p o) := fun b x nb e => by
  rw [upd_ne (ne_of_none e n)]
  exact h b x nb e
theorem FrB.kt {l : Addr} {H H' : Hp} {xs : List V} (h : FrB l H H') (e : H l = some (.lst xs)) : ∀ p vs, H p = some (.tup vs) → H' p = some (.tup vs) := fun p vs e2 => h p _ (ne_of e2 e (by intro z; cases z)) e2
theorem FrB.sqt {K : PySem.W.Frag} {l a : Addr} {H H' : Hp} {xs ys : List V} (h : FrB l H H') (e : H l = some (.lst xs)) (e2 : SqT K H a ys) : SqT K H' a ys := by
  rcases e2 with (e2 | ⟨o, e2⟩) | e2
  · exact .inl (.inl (h.kt e _ _ e2))
  · exact .inl (.inr ⟨o, h _ _ (ne_of e2 e (by intro z; cases z)) e2⟩)
  · exact .inr e2
def tmT (t : Int) (arr : List Int) : Td := .tup [.int t, .tup (arr.map Td.int)]
structure Tm (H : Hp) (p : Addr) (t : Int) (arr : List Int) : Prop where
  ex : ∃ A, H p = some (.tup [.int t, .ref A]) ∧ H A = some (.tup (arr.map V.int))
theorem Tm.same {H H' : Hp} {p : Addr} {t : Int} {arr : List Int} (h : Tm H p t arr) (s : Same H H') : Tm H' p t arr := by
  obtain ⟨A, e1, e2⟩ := h.ex
  exact ⟨A, s _ _ e1, s _ _ e2⟩
theorem Tm.kt {H H' : Hp} {p : Addr} {t : Int} {arr : List Int} (h : Tm H p t arr) (k : ∀ p vs, H p = some (.tup vs) → H' p = some (.tup vs)) : Tm H' p t arr := by
  obtain ⟨A, e1, e2⟩ := h.ex
  exact ⟨A, k _ _ e1, k _ _ e2⟩
def clk (i : Nat) : Str := if i = 0 then Str.ofString "k" else Str.ofString "m"
structure Tms (H : Hp) (R : Addr) (t1 t2 : Int) (arr : List Int) : Prop where
  ex : ∃ p1 p2, H R = some (.lst [.ref p1, .ref p2]) ∧ Tm H p1 t1 arr ∧ Tm H p2 t2 arr
theorem Tms.same {H H' : Hp} {R : Addr} {t1 t2 : Int} {arr : List Int} (h : Tms H R t1 t2 arr) (s : Same H H') : Tms H' R t1 t2 arr := by
  obtain ⟨p1, p2, e, h1, h2⟩ := h.ex
  exact ⟨p1, p2, s _ _ e, h1.same s, h2.same s⟩
def spTimes (K : PySem.W.Frag) : Sp := fun vs H Q _ => ∃ (N Y a : Addr) (gs : List Gt) (cs : List (Int × Int)) (wl : List (List Way)) (d : Own),
  vs = [.ref N, .ref Y, .ref a] ∧ TdR H (netT gs) (.ref N) ∧ TdR H (layT cs wl) (.ref Y) ∧ SqT K H a (ownV d) ∧ Okl gs wl ∧ d.ok ∧ d.nn ∧ gs.length ≤ 1000 ∧ (∀ g ∈ gs, g.sm) ∧
  ∀ (R : Addr) (t1 t2 : Int) (H' : Hp), Same H H' → H R = none → Tms H' R t1 t2 (arrs gs wl d) → TimeIs gs wl d (Str.ofString "k") t1 → TimeIs gs wl d (Str.ofString "m") t2 → Q (.ref R) H'
section
variable {P : Program} {w : World} {K : PySem.W.Frag} {mg : Str → Option Value} {base : Heap} {cF cD : Addr}
theorem ok_times {f : Addr} {fd : FuncData} (D : DefAt K mg "_law_times" ["_law_net_here", "_law_laying_here", "_law_own"] s_l_times f fd) (M : Bi mg)
    (B_P : CalB P w K mg base L2.CX0 4 "slowest" pSl (spSlow K) 3 ["delays"] gvP)
    (B_H : CalB P w K mg base L2.CX0 4 "slowest_holds" pSh (spHold K) 4 ["delays"] gvP) :
    Cal P w K mg base L2.CX0 5 "_law_times" ["_law_net_here", "_law_laying_here", "_law_own"] (spTimes K) := by
  have S := S_l_times
  refine cal_of D.fn D.mgf D.bs D.kbs S (fun vs H Q E h => ?_) (fun cdv A outer s H vs Q E hq hr h => ?_)
  · obtain ⟨N, Y, a, gs, cs, wl, d, rfl, _⟩ := h
    rfl
  · obtain ⟨N, Y, a, gs, cs, wl, d, rfl, tn, tl, hd, ok, od, dn, gl, gsm, q⟩ := h
    refine ⟨_, (pss_cons (ps_set (i := 3) S.nd rfl (.inl rfl) (pe_lst pa_nil))
 (pss_cons (ps_for PassesOwn.never rfl (pi_tup (pe_tup (pa_cons pe_str (pa_cons pe_str pa_nil)))) (pg_name (i := 4) S.nd rfl (.inl rfl))
  (pss_cons (ps_set (i := 5) S.nd rfl (.inl rfl) (pe_cB B_P pass0 hq hr (by omega) (by rfl) (pa_cons (pv 0) (pa_cons (pv 1) (pa_cons (pv 4) pa_nil))) (pk_cons (pv 2) pk_nil)))
 (pss_cons (ps_if (pt_cmpR op_notBl (pe_cB B_H pass0 hq hr (by omega) (by rfl) (pa_cons (pv 0) (pa_cons (pv 1) (pa_cons (pv 4) (pa_cons (pv 5) pa_nil)))) (pk_cons (pv 2) pk_nil)) pe_bl (nomark _))
  (pss_one (ps_ret pe_non))
  pss_nil)
 (pss_one (ps_expr (pe_bm PySem.F.plainAttrs_list PySem.F.slot_list_append PySem.F.type_list_append mt_append (pv 3) (pa_cons (pe_tup (pa_cons (pe_ix ix_tup (pv 5) pe_int (fun _ _ => rfl)) (pa_cons (pe_ix ix_tup (pv 5) pe_int (fun _ _ => rfl)) pa_nil))) pa_nil)))))))
 (pss_one (ps_ret (pv 3))))), ?_⟩
    refine ⟨Nat.zero_le _, fun R nR => ?_⟩
    generalize hH1 : upd H R _ = H1
    have s1 : Same H H1 := hH1 ▸ same_new nR
    have eR : H1 R = some (.lst []) := hH1 ▸ upd_same
    refine ⟨by decide, fun bp nbp => ?_⟩
    generalize hH2 : upd H1 bp _ = H2
    have s2 : Same H1 H2 := hH2 ▸ same_new nbp
    have eb : H2 bp = some (.tup [.str "k", .str "m"]) := hH2 ▸ upd_same
    have s02 := s1.trans s2
    refine ⟨bp, rfl, ⟨_, .inl (.inl eb)⟩, for_it (walk_tup (K := K) (a := bp) (xs := [.str "k", .str "m"])) (fun j σ G => ∃ (x4 x5 : Option V) (ps : List Addr) (ts : List Int),
      σ = [some (.ref N), some (.ref Y), some (.ref a), some (.ref R), x4, x5] ∧ FrB R H2 G ∧ ps.length = j ∧ ts.length = j ∧ G R = some (.lst (ps.map V.ref)) ∧
      ∀ i p t, ps[i]? = some p → ts[i]? = some t → Tm G p t (arrs gs wl d) ∧ TimeIs gs wl d (clk i) t) ?_ ?_ ?_ ?_⟩
    · exact ⟨none, none, [], [], rfl, fun b o _ e => e, rfl, rfl, s2 _ _ eR, fun i p t h => by cases h⟩
    · rintro j σ G _ ⟨x4, x5, ps, ts, rfl, fr, _⟩
      exact .inl (.inl (fr _ _ (ne_of eb (s2 _ _ eR) (fun z => by cases z)) eb))
    · rintro j x σ G0 G hj ⟨x4, x5, ps, ts, rfl, fr, lp, lt, eG, h⟩ ⟨rfl, ex⟩
      have hj2 : j < 2 := hj
      obtain ⟨rfl, hcl⟩ : x = .str (clk j) ∧ okZ (clk j) := by
        match j, ex with
        | 0, e =>
          cases e
          exact ⟨rfl, okZ_dec (by decide +kernel)⟩
        | 1, e =>
          cases e
          exact ⟨rfl, okZ_dec (by decide +kernel)⟩
      have kt := fr.kt (s2 _ _ eR)
      have tn1 : TdR G (netT gs) (.ref N) := (tn.same s02).keep kt
      have tl1 : TdR G (layT cs wl) (.ref Y) := (tl.same s02).keep kt
      have hd1 : SqT K G a (ownV d) := fr.sqt (s2 _ _ eR) (sqt_same hd s02)
      refine ⟨.ref N, rfl, .ref Y, rfl, .str (clk j), rfl, .ref a, rfl, rfl, rfl, N, Y, a, clk j, gs, cs, wl, d, rfl, tn1, tl1, hd1, ok, od, gl, fun Rr lp' la t l G1 sg eRr elp ela so => ?_⟩
      have ll : l.length ≤ 1000000 := by
        rcases so with ⟨_, _, rfl⟩ | ⟨b, ch, _, rfl, hch, _⟩
        · exact Nat.zero_le _
        · rw [List.length_reverse, List.length_cons]
          omega
      have elp' := elp
      rw [← map_ints] at elp'
      refine ⟨.ref N, rfl, .ref Y, rfl, .str (clk j), rfl, .ref Rr, rfl, .ref a, rfl, rfl, rfl, N, Y, Rr, lp', la, a, clk j, gs, cs, wl, d, t, l.map (fun (k : Nat) => (k : Int)), arrs gs wl d, rfl, tn1.same sg, tl1.same sg, eRr, elp', ela, sqt_same hd1 sg, ok, od, gl, by rw [List.length_map]; exact ll, by rw [arrs_len]; omega, hcl, gsm, fun b G2 sg2 hb => ⟨b, true, rfl, rfl, _, rfl, ?_⟩⟩
      rw [hb.mpr (slow_hold ok dn so)]
      refine iteF ?_
      have s3 := sg.trans sg2
      have eR2 := s3 _ _ eG
      refine ⟨.ref R, rfl, .inl ⟨rfl, _, .inl (.inl eR2)⟩, .ref Rr, rfl, Rr, _, _, _, rfl, rfl, .inl (.inl (sg2 _ _ eRr)), atI_nat (j := 0) rfl, .ref Rr, rfl, Rr, _, _, _, rfl, rfl, .inl (.inl (sg2 _ _ eRr)), atI_nat (j := 2) rfl, (by decide : (2 : Nat) ≤ sizeLine), fun p np => ?_⟩
      generalize hG3 : upd G2 p _ = G3
      have s4 : Same G2 G3 := hG3 ▸ same_new np
      have ep : G3 p = some (.tup [.int t, .ref la]) := hG3 ▸ upd_same
      have eR3 := s4 _ _ eR2
      refine ⟨R, _, _, rfl, rfl, eR3, (by
        rw [List.length_map, lp]
        exact Nat.lt_trans hj2 (by decide)), _, _, ps ++ [p], ts ++ [t], rfl, fun b o nb e => ?_, by rw [List.length_append, lp]; rfl, by rw [List.length_append, lt]; rfl, ?_, ?_⟩
      · rw [upd_ne nb]
        exact s4 _ _ (s3 _ _ (fr b o nb e))
      · rw [upd_same, List.map_append]
        rfl
      · have kt2 : ∀ q vs, G3 q = some (.tup vs) → (upd G3 R (.lst (ps.map V.ref ++ [V.ref p]))) q = some (.tup vs) := fun q vs e => by
          rw [upd_ne (ne_of e eR3 fun z => by cases z)]
          exact e
        have s34 := s3.trans s4
        intro i p' t' e1 e2
        rcases Nat.lt_trichotomy i j with hi | hi | hi
        · rw [List.getElem?_append_left (by omega)] at e1 e2
          obtain ⟨g1, g2⟩ := h i p' t' e1 e2
          exact ⟨(g1.same s34).kt kt2, g2⟩
        · subst hi
          rw [List.getElem?_append_right (by omega), lp, Nat.sub_self] at e1
          rw [List.getElem?_append_right (by omega), lt, Nat.sub_self] at e2
          cases e1
          cases e2
          exact ⟨Tm.kt ⟨_, ep, s4 _ _ (sg2 _ _ ela)⟩ kt2, TimeIs.of so⟩
        · rw [List.getElem?_eq_none (by rw [List.length_append, lp]; exact hi)] at e1
          cases e1
    · rintro σ G ⟨x4, x5, ps, ts, rfl, fr, lp, lt, eG, h⟩
      match ps, ts, lp, lt with
      | [p1, p2], [t1, t2], _, _ =>
        obtain ⟨h1, g1⟩ := h 0 p1 t1 rfl rfl
        obtain ⟨h2, g2⟩ := h 1 p2 t2 rfl rfl
        exact ⟨.ref R, rfl, q R t1 t2 G (fun b o e => fr b o (ne_of_none e nR) (s02 b o e)) nR ⟨p1, p2, eG, h1, h2⟩ g1 g2⟩
end
end K53

namespace K53
open PySem PySem.Spec PyProof.Rows L2 Kit
/-! ### grown by no more than so much -/
def spGrown : Sp := fun vs H Q _ => ∃ (R1 R2 : Addr) (m t1 t2 u1 u2 : Int) (a1 a2 : List Int),
  vs = [.ref R1, .ref R2, .int m] ∧ Tms H R1 t1 t2 a1 ∧ Tms H R2 u1 u2 a2 ∧ a1.length = a2.length ∧ a1.length ≤ 1000 ∧ (t1 ≤ u1 ∧ u1 ≤ t1 + m) ∧ (t2 ≤ u2 ∧ u2 ≤ t2 + m) ∧
  (∀ (i : Nat) (x y : Int), a1[i]? = some x → a2[i]? = some y → x ≤ y ∧ y ≤ x + m) ∧ ∀ H', Same H H' → Q (.bl true) H'
section
variable {P : Program} {w : World} {K : PySem.W.Frag} {mg : Str → Option Value} {base : Heap} {cF cD : Addr}
theorem ok_grown {f : Addr} {fd : FuncData} (D : DefAt K mg "_law_grown" ["_law_first", "_law_later", "_law_most"] s_l_grown f fd) (M : Bi mg) :
    Cal P w K mg base L2.CX0 1 "_law_grown" ["_law_first", "_law_later", "_law_most"] spGrown := by
  have S := S_l_grown
  refine cal_of D.fn D.mgf D.bs D.kbs S (fun vs H Q E h => ?_) (fun cdv A outer s H vs Q E hq hr h => ?_)
  · obtain ⟨R1, R2, m, t1, t2, u1, u2, a1, a2, rfl, _⟩ := h
    rfl
  · obtain ⟨R1, R2, m, t1, t2, u1, u2, a1, a2, rfl, h1, h2, la, lb, g1, g2, ga, q⟩ := h
    refine ⟨_, (pss_cons (ps_for PassesOwn.never rfl (pi_zip (by rfl) M.zip_ (pa_cons (pv 0) (pa_cons (pv 1) pa_nil))) (pg_tup (by rfl) (pgs_cons (pg_tup (by rfl) (pgs_cons (pg_name (i := 3) S.nd rfl (.inl rfl)) (pgs_cons (pg_name (i := 4) S.nd rfl (.inl rfl)) pgs_nil))) (pgs_cons (pg_tup (by rfl) (pgs_cons (pg_name (i := 5) S.nd rfl (.inl rfl)) (pgs_cons (pg_name (i := 6) S.nd rfl (.inl rfl)) pgs_nil))) pgs_nil)))
  (pss_cons (ps_if (pt_not (pt_chain op_le op_le (pv 3) (pv 5) (pe_op op_add (pv 3) (pv 2))))
  (pss_one (ps_ret pe_bl))
  pss_nil)
 (pss_one (ps_if (pt_cmpR (op_neNil (room200 hr)) (pe_lc (own := [("_law_one", 7), ("_law_two", 8)]) (g := (gTup K 2 (gCons (gName 7) (gCons (gName 8) gNil)))) rfl S.nd (RZ.pi_zipA (by rfl) M.zip_ (pa_cons (pv 4) (pa_cons (pv 6) pa_nil))) (blkOk_by (own := [("_law_one", 7), ("_law_two", 8)]) (N := N_l_grown) (sc := defScope s_l_grown) (by decide +kernel)) (fun _ _ _ _ _ => (pg_tup (by rfl) (pgs_cons (pg_name (i := 7) S.nd rfl (.inl rfl)) (pgs_cons (pg_name (i := 8) S.nd rfl (.inl rfl)) pgs_nil)))) (fun _ _ _ _ _ => (pts_one (pt_not (pt_chain op_le op_le (pv 7) (pv 8) (pe_op op_add (pv 7) (pv 2)))))) (fun _ _ _ _ _ => pe_int)) (pe_lst pa_nil) (nomark _))
  (pss_one (ps_ret pe_bl))
  pss_nil))))
 (pss_one (ps_ret pe_bl))), ?_⟩
    obtain ⟨p1, p2, eR1, ⟨A1, ep1, eA1⟩, ⟨A2, ep2, eA2⟩⟩ := h1.ex
    obtain ⟨q1, q2, eR2, ⟨B1, eq1, eB1⟩, ⟨B2, eq2, eB2⟩⟩ := h2.ex
    refine ⟨.ref R1, rfl, .ref R2, rfl, R1, R2, _, _, rfl, .inl (.inl eR1), .inl (.inl eR2), ?_⟩
    refine for_it (walk_zip (K := K) (a := R1) (b := R2) (xs := [.ref p1, .ref p2]) (ys := [.ref q1, .ref q2]) (n := 2) rfl) (fun j σ G => ∃ (x3 x4 x5 x6 x7 x8 : Option V),
      σ = [some (.ref R1), some (.ref R2), some (.int m), x3, x4, x5, x6, x7, x8] ∧ Same H G) ?_ ?_ ?_ ?_
    · exact ⟨_, _, _, _, _, _, rfl, Same.refl H⟩
    · rintro j σ G _ ⟨x3, x4, x5, x6, x7, x8, rfl, sm⟩
      exact ⟨.inl (.inl (sm _ _ eR1)), .inl (.inl (sm _ _ eR2))⟩
    · rintro j x σ G0 G hj ⟨x3, x4, x5, x6, x7, x8, rfl, sm⟩ ⟨TT, u, v, rfl, nT, rfl, e1, e2⟩
      obtain ⟨p, qq, t, y, A, B, rfl, rfl, ep, eA, eq, eB, ⟨gt1, gt2⟩⟩ : ∃ p qq t y A B, u = .ref p ∧ v = .ref qq ∧ H p = some (.tup [.int t, .ref A]) ∧ H A = some (.tup (a1.map V.int)) ∧ H qq = some (.tup [.int y, .ref B]) ∧ H B = some (.tup (a2.map V.int)) ∧ t ≤ y ∧ y ≤ t + m := by
        match j, e1, e2 with
        | 0, e1, e2 =>
          cases e1
          cases e2
          exact ⟨p1, q1, t1, u1, A1, B1, rfl, rfl, ep1, eA1, eq1, eB1, g1⟩
        | 1, e1, e2 =>
          cases e1
          cases e2
          exact ⟨p2, q2, t2, u2, A2, B2, rfl, rfl, ep2, eA2, eq2, eB2, g2⟩
      have s1 := same_mut sm (sm.free nT) (o := .tup [.ref p, .ref qq])
      generalize hG1 : upd G0 TT _ = G1 at s1
      have eTT : G1 TT = some (.tup [.ref p, .ref qq]) := hG1 ▸ upd_same
      refine ⟨TT, _, rfl, .inl (.inl eTT), rfl, _, _, rfl, ⟨p, _, rfl, .inl (.inl (s1 _ _ ep)), rfl, _, _, rfl, _, _, rfl, rfl, ?_⟩⟩
      refine ⟨_, _, rfl, ⟨qq, _, rfl, .inl (.inl (s1 _ _ eq)), rfl, _, _, rfl, _, _, rfl, rfl, ?_⟩⟩
      refine ⟨rfl, .int t, rfl, .int y, rfl, _, _, rfl, rfl, _, rfl, ?_⟩
      rw [decide_eq_true gt1]
      refine iteT ⟨.int t, rfl, .int m, rfl, _, _, rfl, rfl, _, _, rfl, rfl, _, rfl, ?_⟩
      rw [decide_eq_true gt2]
      refine iteF ?_
      have l1 : (a1.map V.int).length = a1.length := List.length_map _
      have l2 : (a2.map V.int).length = a2.length := List.length_map _
      refine ⟨.ref A, rfl, .ref B, rfl, A, B, _, _, rfl, .inr ⟨.inl (.inl (s1 _ _ eA)), .inl (.inl (s1 _ _ eB)), fun D1 nD => ?_⟩⟩
      refine lc_it (walk_zipT (K := K) (a := A) (b := B) (xs := a1.map V.int) (ys := a2.map V.int) rfl (by rw [l1, l2, la])) (fun _ H' => Same G1 H' ∧ H' D1 = some (.lst [])) ?_ ?_ ?_ ?_
      · exact ⟨same_new nD, upd_same⟩
      · rintro i H' _ ⟨sm', _⟩
        exact ⟨.inl (.inl (sm' _ _ (s1 _ _ eA))), .inl (.inl (sm' _ _ (s1 _ _ eB)))⟩
      · rintro i x H' H2 hi ⟨sm', eD⟩ ⟨T2, u, v, rfl, nT2, rfl, e3, e4⟩
        have e3 : (a1.map V.int)[i]? = some u := e3
        have e4 : (a2.map V.int)[i]? = some v := e4
        rw [List.getElem?_map] at e3 e4
        obtain ⟨z1, ez1, rfl⟩ := Option.map_eq_some_iff.mp e3
        obtain ⟨z2, ez2, rfl⟩ := Option.map_eq_some_iff.mp e4
        obtain ⟨b1, b2⟩ := ga i z1 z2 ez1 ez2
        have s2 : Same G1 (upd H' T2 (.tup [.int z1, .int z2])) := same_mut sm' (sm'.free nT2)
        have nD1 : D1 ≠ T2 := fun z => by
          rw [z, nT2] at eD
          cases eD
        refine ⟨T2, _, rfl, .inl (.inl upd_same), rfl, _, _, rfl, _, _, rfl, rfl, rfl, ?_⟩
        refine ⟨.int z1, rfl, .int z2, rfl, _, _, rfl, rfl, _, rfl, ?_⟩
        rw [decide_eq_true b1]
        refine iteT ⟨.int z1, rfl, .int m, rfl, _, _, rfl, rfl, _, _, rfl, rfl, _, rfl, ?_⟩
        rw [decide_eq_true b2]
        refine iteF ?_
        exact ⟨s2, by rw [upd_ne nD1]; exact eD⟩
      rintro H2 ⟨sm', eD⟩
      refine ⟨Nat.zero_le _, fun e0 n0 => ?_⟩
      refine ⟨D1, e0, [], rfl, rfl, .inl (.inl (same_new n0 _ _ eD)), .inl (.inl upd_same), _, rfl, iteF ?_⟩
      exact ⟨_, _, _, _, _, _, rfl, (s1.trans sm').trans (same_new n0)⟩
    · rintro σ G ⟨x3, x4, x5, x6, x7, x8, rfl, sm⟩
      exact q G sm
end
end K53

namespace K53
open PySem PySem.Spec PyProof.Rows L2 Kit
/-! ### a way longer by two cells -/
theorem cut_to (xs : List V) (k : Nat) : cutV xs none (some (k : Int)) = xs.take k := by
  unfold cutV
  rw [HT.sIx_nat, HT.sIx_none, List.drop_zero, Nat.sub_zero]
  by_cases h : k ≤ xs.length
  · rw [Nat.min_eq_left h]
  · rw [Nat.min_eq_right (by omega), List.take_of_length_le (Nat.le_refl _), List.take_of_length_le (by omega)]
theorem cut_from (xs : List V) (k : Nat) : cutV xs (some (k : Int)) none = xs.drop k := by
  unfold cutV
  rw [HT.sIx_nat, HT.sIx_none]
  by_cases h : k ≤ xs.length
  · rw [Nat.min_eq_left h]
    exact List.take_of_length_le (by rw [List.length_drop]; omega)
  · rw [Nat.min_eq_right (by omega), Nat.sub_self, List.drop_eq_nil_of_le (show xs.length ≤ k by omega)]
    rfl
section
variable {K : PySem.W.Frag} {H : Hp} {Q : VK} {a b : Addr} {xs ys : List V} {lo hi : Option Int}
theorem not_to {n k : Nat} (h : k < n) : ¬ X9.whole n none (some (k : Int)) := fun z => by
  have e := z.2
  rw [HT.sIx_nat] at e
  omega
theorem not_from {n k : Nat} (h1 : 0 < k) (h2 : 0 < n) : ¬ X9.whole n (some (k : Int)) none := fun z => by
  have e := z.1
  rw [HT.sIx_nat] at e
  omega
theorem slTA_of (e : H a = some (.tup xs)) (h : ∀ p H', Same H H' → H' p = some (.tup (cutV xs lo hi)) → Q (.ref p) H') : X9.rSlTA K (.ref a) lo hi H Q := by
  refine ⟨a, xs, rfl, .inl (.inl e), fun z => ?_, fun _ p np => h p _ (same_new np) upd_same⟩
  have e2 : cutV xs lo hi = xs := by
    unfold cutV
    rw [z.1, z.2, List.drop_zero, Nat.sub_zero]
    exact List.take_of_length_le (Nat.le_refl _)
  exact h a H (Same.refl H) (by rw [e2]; exact e)
theorem slT_of (e : H a = some (.tup xs)) (nw : ¬ X9.whole xs.length lo hi) (h : ∀ p H', Same H H' → H' p = some (.tup (cutV xs lo hi)) → Q (.ref p) H') : rSlT K (.ref a) lo hi H Q :=
  ⟨a, xs, rfl, .inl (.inl e), nw, fun p np => h p _ (same_new np) upd_same⟩
theorem catT_of (e : H a = some (.tup xs)) (e2 : H b = some (.tup ys)) (n : xs ≠ []) (l : xs.length + ys.length ≤ 1000000) (h : ∀ p H', Same H H' → H' p = some (.tup (xs ++ ys)) → Q (.ref p) H') : rCatT K (.ref a) (.ref b) H Q := by
  refine ⟨a, b, xs, ys, rfl, rfl, .inl (.inl e), .inl (.inl e2), n, Nat.le_trans l (by decide), fun z => ?_, fun _ p np => h p _ (same_new np) upd_same⟩
  exact h a H (Same.refl H) (by rw [z, List.append_nil]; exact e)
theorem catTA_of (e : H a = some (.tup xs)) (e2 : H b = some (.tup ys)) (l : xs.length + ys.length ≤ 1000000) (h : ∀ p H', Same H H' → H' p = some (.tup (xs ++ ys)) → Q (.ref p) H') : X10.rCatTA K (.ref a) (.ref b) H Q := by
  by_cases n : xs = []
  · subst n
    exact .inl ⟨a, b, ys, rfl, rfl, .inl (.inl e), .inl (.inl e2), h b H (Same.refl H) e2⟩
  · exact .inr (catT_of e e2 n l h)
end
theorem All2.take {H : Hp} {ts : List Td} {vs : List V} (h : All2 H ts vs) (k : Nat) : All2 H (ts.take k) (vs.take k) := by
  refine ⟨by rw [List.length_take, List.length_take, h.1], fun i x v e1 e2 => ?_⟩
  rw [List.getElem?_take] at e1 e2
  by_cases hi : i < k
  · rw [if_pos hi] at e1 e2
    exact h.2 i x v e1 e2
  · rw [if_neg hi] at e1
    cases e1
theorem All2.drop {H : Hp} {ts : List Td} {vs : List V} (h : All2 H ts vs) (k : Nat) : All2 H (ts.drop k) (vs.drop k) := by
  refine ⟨by rw [List.length_drop, List.length_drop, h.1], fun i x v e1 e2 => ?_⟩
  rw [List.getElem?_drop] at e1 e2
  exact h.2 _ x v e1 e2
theorem All2.append {H : Hp} : ∀ {ts us : List Td} {vs ws : List V}, All2 H ts vs → All2 H us ws → All2 H (ts ++ us) (vs ++ ws)
  | [], _, _, _, h, h2 => by
    rw [h.inv_nil]
    exact h2
  | t :: ts, us, vs, ws, h, h2 => by
    obtain ⟨v, vs', rfl, h3, h4⟩ := h.inv_cons
    exact .cons h3 (All2.append h4 h2)
theorem lay_tup {n : Nat} : ∀ {ts : List Td}, (∀ t ∈ ts, (pd t).canLay0 = true ∧ (pd t).depth ≤ n) → PyData.canLayAll0 (pdL ts) = true ∧ PyData.depthAll (pdL ts) ≤ n
  | [], _ => by
    rw [pdL, PyData.canLayAll0, PyData.depthAll]
    exact ⟨rfl, Nat.zero_le _⟩
  | t :: ts, h => by
    obtain ⟨h1, h2⟩ := h t List.mem_cons_self
    obtain ⟨h3, h4⟩ := lay_tup (n := n) fun t ht => h t (List.mem_cons_of_mem _ ht)
    rw [pdL, PyData.canLayAll0, PyData.depthAll, h1, h3]
    exact ⟨rfl, Nat.max_le.mpr ⟨h2, h4⟩⟩
theorem lay_tupT {n : Nat} {ts : List Td} (h : ∀ t ∈ ts, (pd t).canLay0 = true ∧ (pd t).depth ≤ n) : (pd (.tup ts)).canLay0 = true ∧ (pd (.tup ts)).depth ≤ n + 1 := by
  obtain ⟨h1, h2⟩ := lay_tup h
  rw [pd, PyData.canLay0, PyData.depth]
  exact ⟨h1, by omega⟩
theorem lay_int (i : Int) : (pd (.int i)).canLay0 = true ∧ (pd (.int i)).depth ≤ 0 := ⟨int_cl i, by rw [int_dp]; exact Nat.le_refl _⟩
theorem lay_sh {t : Td} {n : Nat} (h : (pd t).canLay0 = true ∧ (pd t).depth ≤ n) (hn : n ≤ 64) : SeqAt.shaped (pd t) = true := by
  rw [SeqAt.shaped, h.1, Bool.true_and, decide_eq_true_eq]
  omega
theorem lay_cell (c : Int × Int) : (pd (cellT c)).canLay0 = true ∧ (pd (cellT c)).depth ≤ 1 := by
  unfold cellT
  refine lay_tupT fun t ht => ?_
  rcases List.mem_cons.mp ht with rfl | ht
  · exact lay_int _
  · rw [List.mem_singleton.mp ht]
    exact lay_int _
theorem lay_way (w : Way) : (pd (wayT w)).canLay0 = true ∧ (pd (wayT w)).depth ≤ 2 := by
  unfold wayT
  refine lay_tupT fun t ht => ?_
  obtain ⟨c, _, rfl⟩ := List.mem_map.mp ht
  exact lay_cell c
theorem lay_ws (ws : List Way) : (pd (wsT ws)).canLay0 = true ∧ (pd (wsT ws)).depth ≤ 3 := by
  unfold wsT
  refine lay_tupT fun t ht => ?_
  obtain ⟨c, _, rfl⟩ := List.mem_map.mp ht
  exact lay_way c
theorem emp_td {H : Hp} {p : Addr} (e : H p = some (.tup [])) : TdR H (.tup []) (.ref p) := .mk e .nil
theorem lay_emp : (pd (.tup [])).canLay0 = true ∧ (pd (.tup [])).depth ≤ 1 := lay_tupT (n := 0) fun t ht => by cases ht
theorem more_set {wl : List (List Way)} {k : Nat} {w w' : Way} {rest : List Way} (e : wl[k]? = some (w :: rest)) (l : w'.length = w.length + 2) (l2 : w'.length ≤ 1000) : More wl (wl.take k ++ (w' :: rest) :: wl.drop (k + 1)) k := by
  have hk := (List.getElem?_eq_some_iff.mp e).1
  have es : wl.take k ++ (w' :: rest) :: wl.drop (k + 1) = wl.set k (w' :: rest) := by rw [List.set_eq_take_append_cons_drop, if_pos hk]
  rw [es]
  refine ⟨List.length_set, fun j hj => List.getElem?_set_ne (Ne.symm hj), fun ws ew => ?_⟩
  rw [e] at ew
  cases ew
  exact ⟨w, w', rest, rfl, List.getElem?_set_self hk, l, l2⟩
theorem bkt {d c : Addr} {H H' : Hp} {t : Nat} (b : But d c H H') (k : Deck H d c t) : ∀ p vs, H p = some (.tup vs) → H' p = some (.tup vs) := fun p vs e => by
  obtain ⟨cs, sd, h1, h2, _⟩ := k.ex
  exact b p _ (ne_of e h1 (by intro z; cases z)) (ne_of e h2 (by intro z; cases z)) e
def spLonger : Sp := fun vs H Q _ => ∃ (d c Y : Addr) (t : Nat) (cs : List (Int × Int)) (wl : List (List Way)),
  vs = [.ref d, .ref Y] ∧ Deck H d c t ∧ t < 1000000 ∧ TdR H (layT cs wl) (.ref Y) ∧ wl.length ≤ 40 ∧ (∀ ws ∈ wl, ws.length ≤ 2) ∧ (∀ ws ∈ wl, ∀ w ∈ ws, w.length ≤ 40) ∧
  (∀ (H' : Hp) (t' : Nat), But d c H H' → Deck H' d c t' → t' ≤ t + 1 → Q .non H') ∧
  ∀ (Y' : Addr) (wl' : List (List Way)) (k0 : Nat) (H' : Hp) (t' : Nat), But d c H H' → Deck H' d c t' → t' ≤ t + 1 → TdR H' (layT cs wl') (.ref Y') → More wl wl' k0 → Q (.ref Y') H'
section
variable {P : Program} {w : World} {K : PySem.W.Frag} {mg : Str → Option Value} {base : Heap} {cF cD : Addr}
theorem ok_longer {f : Addr} {fd : FuncData} (D : DefAt K mg "_law_longer" ["_law_deck_here", "_law_laying_here"] s_l_longer f fd) (M : Bi mg)
    (C_l_pick : Cal P w K mg base L2.CX0 2 "_law_pick" ["_law_deck_here", "_law_some"] (spPick K)) :
    Cal P w K mg base L2.CX0 3 "_law_longer" ["_law_deck_here", "_law_laying_here"] spLonger := by
  have S := S_l_longer
  refine cal_of D.fn D.mgf D.bs D.kbs S (fun vs H Q E h => ?_) (fun cdv A outer s H vs Q E hq hr h => ?_)
  · obtain ⟨d, c, Y, t, cs, wl, rfl, _⟩ := h
    rfl
  · obtain ⟨d, c, Y, t, cs, wl, rfl, dk, ht, tl, lw, l2, l40, q0, q1⟩ := h
    refine ⟨_, (pss_cons (ps_asg (pv 1) (pg_tup (by rfl) (pgs_cons (pg_name (i := 2) S.nd rfl (.inl rfl)) (pgs_cons (pg_name (i := 3) S.nd rfl (.inr rfl)) pgs_nil))))
 (pss_cons (ps_setLc (i := 4) (own := [("_law_k", 5)]) (g := gName 5) (tt := (tAnd (tTest (tOp (rNeD K) (tOp (rIxT K) (tVar 3) (tVar 5)) (tTup tNil))) (tTest (tOp (rI0 fun i j => V.bl (decide (j < i))) (tCB (rLen1 K) (tCons (tOp (rIxT K) (tOp (rIxT K) (tVar 3) (tVar 5)) (tC (.int 0))) tNil)) (tC (.int 1)))))) rfl S.nd rfl rfl (sw_true rfl rfl rfl (by decide +kernel)) (pi_range1 (by rfl) M.range_ (pa_cons (pe_callB call_len_seq (by rfl) M.len_ (by decide +kernel) (pa_cons (pv 3) pa_nil)) pa_nil)) (blkOk_by (own := [("_law_k", 5)]) (N := N_l_longer) (sc := defScope s_l_longer) (by decide +kernel)) (fun _ _ _ _ _ => pg_name (i := 5) S.nd rfl (.inl rfl)) (fun _ _ _ _ _ => (pts_one (PW.pt (pw_and (pt_cmpR (op_neD hr.units) (pe_ix ix_tup (pv 3) (pv 5) (fun _ _ => rfl)) (pe_tup pa_nil) (nomark _)) (pw_and1 (pt_cmpR op_gt (pe_callB call_len_seq (by rfl) M.len_ (by decide +kernel) (pa_cons (pe_ix ix_tup (pe_ix ix_tup (pv 3) (pv 5) (fun _ _ => rfl)) pe_int (fun _ _ => rfl)) pa_nil)) pe_int (nomark _))))))) (fun _ _ _ _ _ => (pv 5)))
 (pss_cons (ps_if (pt_cmpR (op_eqNil (room200 hr)) (pv 4) (pe_lst pa_nil) (nomark _))
  (pss_one (ps_ret pe_non))
  pss_nil)
 (pss_cons (ps_set (i := 5) S.nd rfl (.inl rfl) (pe_c C_l_pick pass0 hq hr (by omega) (by rfl) (pa_cons (pv 0) (pa_cons (pv 4) pa_nil))))
 (pss_cons (ps_set (i := 6) S.nd rfl (.inl rfl) (pe_ix ix_tup (pe_ix ix_tup (pv 3) (pv 5) (fun _ _ => rfl)) pe_int (fun _ _ => rfl)))
 (pss_cons (ps_set (i := 7) S.nd rfl (.inl rfl) (pe_op op_catT (pe_op op_catT (pe_slice X9.sl_tupA (pv 6) po_none (po_some pe_int)) (pe_slice sl_tup (pv 6) po_none (po_some pe_int))) (pe_slice sl_tup (pv 6) (po_some pe_int) po_none)))
 (pss_one (ps_ret (pe_tup (pa_cons (pv 2) (pa_cons (pe_op op_catT (pe_op X10.op_catTA (pe_slice sl_tup (pv 3) po_none (po_some (pv 5))) (pe_tup (pa_cons (pe_op op_catT (pe_tup (pa_cons (pv 7) pa_nil)) (pe_slice sl_tup (pe_ix ix_tup (pv 3) (pv 5) (fun _ _ => rfl)) (po_some pe_int) po_none)) pa_nil))) (pe_slice sl_tup (pv 3) (po_some (pe_op op_add (pv 5) pe_int)) po_none)) pa_nil))))))))))), ?_⟩
    obtain ⟨Y', yvs, e', eY, yal⟩ := tl.inv_tup
    cases e'
    obtain ⟨vc, yvs, rfl, tc, yal⟩ := yal.inv_cons
    obtain ⟨vw, yvs, rfl, hw, yal⟩ := yal.inv_cons
    obtain rfl := yal.inv_nil
    obtain ⟨W, wvs, rfl, hW, wal⟩ := hw.inv_tup
    have lwv : wvs.length = wl.length := by rw [← wal.1, List.length_map]
    have big : 1000000 < sizeLine := by decide
    refine ⟨.ref Y, rfl, Y, _, rfl, .inl (.inl eY), rfl, _, _, rfl, _, _, rfl, rfl, ?_⟩
    refine ⟨.ref W, rfl, W, wvs, rfl, .inr (.inl (.inl hW)), _, rfl, by rw [lwv]; omega, by rw [lwv]; omega, fun D1 nD => ?_⟩
    refine lc_range (lo := 0) (n := wvs.length) (fun i G => Same H G ∧ ∃ ks : List Nat, G D1 = some (.lst (nats ks)) ∧ ks.length ≤ i ∧ ∀ k ∈ ks, ∃ w rest, wl[k]? = some (w :: rest) ∧ 2 ≤ w.length) ?_ ?_ ?_
    · exact ⟨same_new nD, [], upd_same, Nat.le_refl _, fun k hk => by cases hk⟩
    · rintro i G hi ⟨sm, ks, eD, lk, hk⟩
      rw [lwv] at hi
      obtain ⟨ws, ews⟩ : ∃ ws, wl[i]? = some ws := ⟨_, List.getElem?_eq_getElem hi⟩
      obtain ⟨v, ev, tv⟩ := all2_get wal (i := i) (t := wsT ws) (by rw [List.getElem?_map, ews]; rfl)
      obtain ⟨A1, avs, rfl, eA, aal⟩ := tv.inv_tup
      refine ⟨rfl, .ref W, rfl, .int (0 + (i : Int)), rfl, W, wvs, _, _, rfl, rfl, .inl (.inl (sm _ _ hW)), (by rw [Int.zero_add]; exact atI_nat ev), Nat.zero_le _, fun e0 n0 => ?_⟩
      have se := same_mut sm (sm.free n0) (o := .tup [])
      generalize hG1 : upd G e0 _ = G1 at se
      have sg : Same G G1 := hG1 ▸ same_new n0
      have ee : G1 e0 = some (.tup []) := hG1 ▸ upd_same
      have pass : ∀ G', Same G1 G' → Same H G' ∧ ∃ ks : List Nat, G' D1 = some (.lst (nats ks)) ∧ ks.length ≤ i + 1 ∧ ∀ k ∈ ks, ∃ w rest, wl[k]? = some (w :: rest) ∧ 2 ≤ w.length := fun G' sg' => ⟨se.trans sg', ks, sg' _ _ (sg _ _ eD), Nat.le_succ_of_le lk, hk⟩
      refine ⟨_, _, dp_of (tv.same se), dp_of (emp_td ee), lay_sh (lay_ws ws) (by decide), lay_sh lay_emp (by decide), _, rfl, ?_⟩
      cases hb : (!PyData.eqv (pd (wsT ws)) (pd (.tup []))) with
      | false => exact iteF (iteF (pass G1 (Same.refl G1)))
      | true =>
        have hne : ws ≠ [] := by
          rintro rfl
          have : PyData.eqv (pd (wsT [])) (pd (.tup [])) = true := SeqAt.eqv_refl _ lay_emp.1
          rw [this] at hb
          cases hb
        obtain ⟨w0, rest, rfl⟩ : ∃ w0 rest, ws = w0 :: rest := by
          match ws, hne with
          | w0 :: rest, _ => exact ⟨w0, rest, rfl⟩
        obtain ⟨v0, avs', rfl, t0, _⟩ := aal.inv_cons
        obtain ⟨A0, cvs, rfl, eA0, cal⟩ := t0.inv_tup
        have lc0 : cvs.length = w0.length := by rw [← cal.1, List.length_map]
        refine iteT ⟨.ref W, rfl, .int (0 + (i : Int)), rfl, W, wvs, _, _, rfl, rfl, .inl (.inl (se _ _ hW)), (by rw [Int.zero_add]; exact atI_nat ev), A1, _, _, _, rfl, rfl, .inl (.inl (se _ _ eA)), atI_nat (j := 0) rfl, A0, cvs, rfl, .inr (.inl (.inl (se _ _ eA0))), _, _, rfl, rfl, _, rfl, ?_⟩
        by_cases h1 : (1 : Int) < (cvs.length : Int)
        · rw [decide_eq_true h1]
          refine iteT ⟨.int (0 + (i : Int)), rfl, nats ks, sg _ _ eD, ?_, ?_⟩
          · unfold nats
            rw [List.length_map]
            omega
          · refine ⟨fun b o e => ?_, ks ++ [i], ?_, by rw [List.length_append]; exact Nat.succ_le_succ lk, fun k hk2 => ?_⟩
            · rw [upd_ne (fun z => by rw [z, nD] at e; cases e)]
              exact se b o e
            · rw [upd_same, Int.zero_add]
              unfold nats
              rw [List.map_append]
              rfl
            · rcases List.mem_append.mp hk2 with hk2 | hk2
              · exact hk k hk2
              · rw [List.mem_singleton.mp hk2]
                exact ⟨w0, rest, ews, by omega⟩
        · rw [decide_eq_false h1]
          exact iteF (pass G1 (Same.refl G1))
    rintro G ⟨sm, ks, eD, lk, hk⟩
    refine ⟨.ref D1, rfl, Nat.zero_le _, fun e0 n0 => ?_⟩
    have se := same_mut sm (sm.free n0) (o := .lst [])
    generalize hG1 : upd G e0 _ = G1 at se
    have sg : Same G G1 := hG1 ▸ same_new n0
    have ee : G1 e0 = some (.lst []) := hG1 ▸ upd_same
    have eD1 := sg _ _ eD
    refine ⟨D1, e0, _, rfl, rfl, .inl (.inl eD1), .inl (.inl ee), _, rfl, ?_⟩
    cases ks with
    | nil => exact iteT (q0 G1 t (But.of se) (dk.same se) (Nat.le_succ _))
    | cons k1 ks1 =>
      refine iteF ?_
      have fD := dk.free nD
      have lks : (nats (k1 :: ks1)).length = (k1 :: ks1).length := List.length_map _
      refine ⟨.ref d, rfl, .ref D1, rfl, d, c, t, .ref D1, nats (k1 :: ks1), rfl, ?_, by rw [lks]; exact Nat.succ_le_succ (Nat.zero_le _), by rw [lks]; omega, (fun z => fD.1 (by cases z; rfl)), (fun z => fD.2 (by cases z; rfl)), dk.same se, by omega, fun i x G2 ex b2 dk2 => ?_⟩
      · exact .lst (.inl (.inl eD1))
      obtain ⟨k, hkm, rfl⟩ : ∃ k, k ∈ k1 :: ks1 ∧ x = .int (k : Int) := by
        unfold nats at ex
        rw [List.getElem?_map] at ex
        obtain ⟨k, h1, h2⟩ := Option.map_eq_some_iff.mp ex
        exact ⟨k, List.mem_of_getElem? h1, h2.symm⟩
      obtain ⟨w0, rest, ews, hw2⟩ := hk k hkm
      have hkl := (List.getElem?_eq_some_iff.mp ews).1
      have hmem := List.mem_of_getElem? ews
      have hw40 := l40 _ hmem w0 List.mem_cons_self
      have hr2 := l2 _ hmem
      obtain ⟨v, ev, tv⟩ := all2_get wal (i := k) (t := wsT (w0 :: rest)) (by rw [List.getElem?_map, ews]; rfl)
      obtain ⟨A1, avs, rfl, eA, aal⟩ := tv.inv_tup
      obtain ⟨v0, avs', rfl, t0, ral⟩ := aal.inv_cons
      obtain ⟨A0, cvs, rfl, eA0, cal⟩ := t0.inv_tup
      have lc0 : cvs.length = w0.length := by rw [← cal.1, List.length_map]
      have lr : avs'.length = rest.length := by rw [← ral.1, List.length_map]
      have hr2 : rest.length ≤ 1 := Nat.le_of_succ_le_succ hr2
      have kt := bkt b2 (dk.same se)
      have kh : ∀ p vs, H p = some (.tup vs) → G2 p = some (.tup vs) := fun p vs e => kt p vs (se _ _ e)
      have hW2 := kh _ _ hW
      have eA2 := kh _ _ eA
      have eA02 := kh _ _ eA0
      refine ⟨.ref W, rfl, .int (k : Int), rfl, W, wvs, _, _, rfl, rfl, .inl (.inl hW2), atI_nat ev, A1, _, _, _, rfl, rfl, .inl (.inl eA2), atI_nat (j := 0) rfl, ?_⟩
      refine ⟨.ref A0, rfl, 2, rfl, slTA_of eA02 fun p1 G3 s3 ep1 => ?_⟩
      rw [show (2 : Int) = ((2 : Nat) : Int) from rfl, cut_to] at ep1
      refine ⟨.ref A0, rfl, 1, rfl, slT_of (s3 _ _ eA02) ?_ fun p2 G4 s4 ep2 => ?_⟩
      · exact not_to (k := 1) (by omega)
      rw [show (1 : Int) = ((1 : Nat) : Int) from rfl, cut_to] at ep2
      have s24 := s3.trans s4
      have ne1 : cvs.take 2 ≠ [] := fun z => by
        have := congrArg List.length z
        rw [List.length_take, List.length_nil] at this
        omega
      refine catT_of (s4 _ _ ep1) ep2 ne1 (by rw [List.length_take, List.length_take]; omega) fun p3 G5 s5 ep3 => ?_
      have s25 := s24.trans s5
      refine ⟨.ref A0, rfl, 1, rfl, ?_⟩
      dsimp only [tNoPart]
      refine slT_of (s25 _ _ eA02) ?_ fun p4 G6 s6 ep4 => ?_
      · exact not_from (k := 1) (by decide) (by omega)
      rw [show (1 : Int) = ((1 : Nat) : Int) from rfl, cut_from] at ep4
      refine catT_of (s6 _ _ ep3) ep4 (fun z => ne1 (List.append_eq_nil_iff.mp z).1) (by rw [List.length_append, List.length_take, List.length_take, List.length_drop]; omega) fun p5 G7 s7 ep5 => ?_
      have s27 := (s25.trans s6).trans s7
      have c5 : TdR G7 (wayT (w0.take 2 ++ w0.take 1 ++ w0.drop 1)) (.ref p5) := by
        refine .mk ep5 ?_
        have c7 : All2 G7 (w0.map cellT) cvs := (cal.keep kh).same s27
        rw [List.map_append, List.map_append, List.map_take, List.map_take, List.map_drop]
        exact ((c7.take 2).append (c7.take 1)).append (c7.drop 1)
      generalize hw' : w0.take 2 ++ w0.take 1 ++ w0.drop 1 = w' at c5
      have lw' : w'.length = w0.length + 2 := by
        rw [← hw', List.length_append, List.length_append, List.length_take, List.length_take, List.length_drop]
        omega
      -- what is told
      refine ⟨vc, rfl, .ref W, rfl, .int (k : Int), rfl, k, rfl, slT_of (s27 _ _ hW2) (not_to (by omega)) fun p6 G8 s8 ep6 => ?_⟩
      rw [cut_to] at ep6
      have c5' := c5.same s8
      have ep5' := s8 _ _ ep5
      have s28 := s27.trans s8
      refine ⟨.ref p5, rfl, (by decide : (1 : Nat) ≤ sizeLine), fun p7 n7 => ?_⟩
      generalize hG9 : upd G8 p7 _ = G9
      have s9 : Same G8 G9 := hG9 ▸ same_new n7
      have ep7 : G9 p7 = some (.tup [.ref p5]) := hG9 ▸ upd_same
      have s29 := s28.trans s9
      refine ⟨.ref W, rfl, .int (k : Int), rfl, W, wvs, _, _, rfl, rfl, .inl (.inl (s29 _ _ hW2)), atI_nat ev, 1, rfl, ?_⟩
      dsimp only [tNoPart]
      refine slT_of (s29 _ _ eA2) ?_ fun p8 G10 s10 ep8 => ?_
      · exact not_from (k := 1) (by decide) (Nat.succ_pos _)
      rw [show (1 : Int) = ((1 : Nat) : Int) from rfl, cut_from] at ep8
      have ep8 : G10 p8 = some (.tup avs') := ep8
      refine catT_of (s10 _ _ ep7) ep8 (by simp) (by rw [List.length_cons, List.length_nil]; omega) fun p9 G11 s11 ep9 => ?_
      have s8B := (s9.trans s10).trans s11
      have s2B := s28.trans s8B
      have c9 : TdR G11 (wsT (w' :: rest)) (.ref p9) := .mk ep9 (.cons (c5'.same s8B) ((ral.keep kh).same s2B))
      refine ⟨(by decide : (1 : Nat) ≤ sizeLine), fun p10 n10 => ?_⟩
      generalize hG12 : upd G11 p10 _ = G12
      have s12 : Same G11 G12 := hG12 ▸ same_new n10
      have ep10 : G12 p10 = some (.tup [.ref p9]) := hG12 ▸ upd_same
      have s8C := s8B.trans s12
      refine catTA_of (s8C _ _ ep6) ep10 (by rw [List.length_take, List.length_cons, List.length_nil]; omega) fun p11 G13 s13 ep11 => ?_
      have s2D := (s28.trans s8C).trans s13
      refine ⟨.ref W, rfl, .int (k : Int), rfl, _, _, rfl, rfl, ?_⟩
      refine ⟨(k : Int) + 1, rfl, ?_⟩
      dsimp only [tNoPart]
      refine slT_of (s2D _ _ hW2) ?_ fun p12 G14 s14 ep12 => ?_
      · exact not_from (k := k + 1) (Nat.succ_pos _) (by omega)
      rw [show (k : Int) + 1 = ((k + 1 : Nat) : Int) from rfl, cut_from] at ep12
      refine catT_of (s14 _ _ ep11) ep12 (by simp) (by rw [List.length_append, List.length_take, List.length_drop, List.length_cons, List.length_nil]; omega) fun p13 G15 s15 ep13 => ?_
      refine ⟨(by decide : (2 : Nat) ≤ sizeLine), fun p14 n14 => ?_⟩
      generalize hG16 : upd G15 p14 _ = G16
      have s16 : Same G15 G16 := hG16 ▸ same_new n14
      have ep14 : G16 p14 = some (.tup [vc, .ref p13]) := hG16 ▸ upd_same
      have s2G := ((s2D.trans s14).trans s15).trans s16
      have s10G := (((s12.trans s13).trans s14).trans s15).trans s16
      refine q1 p14 _ k G16 (t + 1) ((But.of se).trans (b2.same s2G)) (dk2.same s2G) (Nat.le_refl _) (.mk ep14 (.cons ((tc.keep kh).same s2G) (.cons (.mk (s16 _ _ ep13) ?_) .nil))) (more_set ews lw' (by omega))
      have wG : All2 G16 (wl.map fun ws => Td.tup (ws.map wayT)) wvs := (wal.keep kh).same s2G
      rw [List.map_append, List.map_cons, List.map_take, List.map_drop, List.append_assoc]
      exact (wG.take k).append (.cons (c9.same s10G) (wG.drop (k + 1)))
end
end K53

namespace K53
open PySem PySem.Spec PyProof.Rows L2 Kit X11
/-! ### put by other cells -/
abbrev Mv := Int × Int → Int × Int
def spLam (g : Mv) : Sp := fun vs H Q _ => ∃ (r : Addr) (z : Int × Int), vs = [.ref r] ∧ H r = some (.tup (cV z)) ∧ ∀ p, H p = none → Q (.ref p) (upd H p (.tup (cV (g z))))
def wlBy (g : Mv) (wl : List (List Way)) : List (List Way) := wl.map fun ws => ws.map fun w => w.map g
/-- tuple(l) -/
def rTupOf (K : PySem.W.Frag) : List V → Hp → VK → Prop := fun vs H Q => ∃ (l : Addr) (zs : List V), vs = [.ref l] ∧
  ((SqL K H l zs ∧ ∀ r, H r = none → Q (.ref r) (upd H r (.tup zs))) ∨ (SqT K H l zs ∧ Q (.ref l) H))
def spPut (P : Program) (w : World) (K : PySem.W.Frag) (mg : Str → Option Value) (base : Heap) : Sp := fun vs H Q _ => ∃ (Y f c : Addr) (F : LF) (o : Obj) (g : Mv) (cs : List (Int × Int)) (wl : List (List Way)),
  vs = [.ref Y, .ref f] ∧ LOk P w K mg base 1 f F (Lpre f F c o) (spLam g) ∧ Lpre f F c o H ∧ TdR H (layT cs wl) (.ref Y) ∧ cs.length ≤ 1000 ∧ wl.length ≤ 1000 ∧ (∀ ws ∈ wl, ws.length ≤ 2 ∧ ∀ w ∈ ws, w.length ≤ 1000) ∧
  ∀ p H', Same H H' → TdR H' (layT (cs.map g) (wlBy g wl)) (.ref p) → Q (.ref p) H'
section
variable {P : Program} {w : World} {K : PySem.W.Frag} {mg : Str → Option Value} {base : Heap} {cF cD : Addr}
theorem lpre_same {f c : Addr} {F : LF} {o : Obj} {H H' : Hp} (h : Lpre f F c o H) (s : Same H H') : Lpre f F c o H' := ⟨s _ _ h.1, s _ _ h.2.1, s _ _ h.2.2⟩
theorem all2_upd {H : Hp} {ts : List Td} {vs acc : List V} {D : Addr} {o : HO} (h : All2 H ts vs) (e : H D = some (.lst acc)) : All2 (upd H D o) ts vs := h.keep fun p xs e2 => by
  rw [upd_ne (ne_of e2 e fun z => by cases z)]
  exact e2
theorem put_way {σ : L2.St} {H : Hp} {Q : VK} {lf c A0 : Addr} {F : LF} {o : Obj} {g : Mv} {w : Way} {cvs : List V} {j : Nat} {x0 x2 x3 x4 x5 x6 x7 : Option V} (hσ : σ = [x0, some (.ref lf), x2, x3, x4, x5, x6, x7]) (hp : Lpre lf F c o H) (hj : σ[j]? = some (some (.ref A0)))
    (eA : H A0 = some (.tup cvs)) (al : All2 H (w.map cellT) cvs) (hl : w.length ≤ 1000) (q : ∀ (D : Addr) (H' : Hp) (dvs : List V), H D = none → Same H H' → H' D = some (.lst dvs) → All2 H' ((w.map g).map cellT) dvs → Q (.ref D) H') :
    tLc (iTup K (tVar j)) (gName 6) tYes (tLC 1 lf (Lpre lf F c o) (spLam g) (tCons (tVar 6) tNil)) [6] σ H Q := by
  subst hσ
  have lv : cvs.length = w.length := by rw [← al.1, List.length_map]
  refine ⟨.ref A0, hj, A0, rfl, ⟨_, .inl (.inl eA)⟩, fun D nD => ?_⟩
  refine lc_it (walk_tup (K := K) (a := A0) (xs := cvs)) (fun i H' => Same H H' ∧ ∃ dvs : List V, H' D = some (.lst dvs) ∧ All2 H' (((w.take i).map g).map cellT) dvs) ?_ ?_ ?_ ?_
  · exact ⟨same_new nD, [], upd_same, All2.nil⟩
  · rintro i H' _ ⟨sm, _⟩
    exact .inl (.inl (sm _ _ eA))
  · rintro i x H' H2 hi ⟨sm, dvs, eD, dal⟩ ⟨rfl, ex⟩
    rw [lv] at hi
    obtain ⟨z, ez⟩ : ∃ z, w[i]? = some z := ⟨_, List.getElem?_eq_getElem hi⟩
    obtain ⟨v, ev, tv⟩ := all2_get al (i := i) (t := cellT z) (by rw [List.getElem?_map, ez]; rfl)
    have ex : cvs[i]? = some x := ex
    rw [ev] at ex
    cases ex
    obtain ⟨r, rfl, er⟩ := cell_inv tv
    have hp' := lpre_same hp sm
    refine ⟨rfl, ?_⟩
    unfold tYes
    refine iteT ⟨rfl, hp', .ref r, rfl, hp', r, z, rfl, sm _ _ er, fun p np => ?_⟩
    have s2 := same_new (o := .tup (cV (g z))) np
    have ld : dvs.length ≤ 1000 := by
      rw [← dal.1, List.length_map, List.length_map, List.length_take]
      omega
    have eD2 := s2 _ _ eD
    refine ⟨dvs, eD2, Nat.lt_of_le_of_lt ld (by decide), fun b u e => ?_, dvs ++ [.ref p], upd_same, ?_⟩
    · rw [upd_ne (fun z => by rw [z, nD] at e; cases e)]
      exact s2 _ _ (sm _ _ e)
    · rw [List.take_add_one, ez, List.map_append, List.map_append]
      refine all2_upd ((dal.same s2).snoc (cell_td ?_)) eD2
      exact upd_same
  · rintro H' ⟨sm, dvs, eD, dal⟩
    rw [lv, List.take_of_length_le (Nat.le_refl _)] at dal
    exact q D H' dvs nD sm eD dal
theorem ok_put {f : Addr} {fd : FuncData} (D : DefAt K mg "_law_put" ["_law_laying_here", "_law_by"] s_l_put f fd) (M : Bi mg) :
    Cal P w K mg base L2.CX0 3 "_law_put" ["_law_laying_here", "_law_by"] (spPut P w K mg base) := by
  have S := S_l_put
  refine cal_of D.fn D.mgf D.bs D.kbs S (fun vs H Q E h => ?_) (fun cdv A outer s H vs Q E hq hr h => ?_)
  · obtain ⟨Y, f, c, F, o, g, cs, wl, rfl, _⟩ := h
    rfl
  · obtain ⟨Y, lf, c, F, o, g, cs, wl, rfl, LK, hp, tl, lc, lw, lws, q⟩ := h
    refine ⟨_, (pss_cons (ps_asg (pv 0) (pg_tup (by rfl) (pgs_cons (pg_name (i := 2) S.nd rfl (.inl rfl)) (pgs_cons (pg_name (i := 3) S.nd rfl (.inl rfl)) pgs_nil))))
 (pss_cons (ps_set (i := 4) S.nd rfl (.inl rfl) (pe_lst pa_nil))
 (pss_cons (ps_for PassesOwn.never rfl (pi_tup (pv 3)) (pg_name (i := 5) S.nd rfl (.inl rfl))
  (pss_one (ps_expr (pe_bm PySem.F.plainAttrs_list PySem.F.slot_list_append PySem.F.type_list_append mt_append (pv 4) (pa_cons (pe_callTy call_tuple_of (by rfl) M.tuple_ (by decide +kernel) (pa_cons (pe_lc (own := [("_law_way_here", 7)]) (g := gName 7) (tt := tYes) (te := (tCB (rTupOf K) (tCons (tLc (iTup K (tVar 7)) (gName 6) tYes (tLC 1 lf (Lpre lf F c o) (spLam g) (tCons (tVar 6) tNil)) [6]) tNil))) rfl S.nd (pi_tup (pv 5)) (blkOk_by (own := [("_law_way_here", 7)]) (N := N_l_put) (sc := defScope s_l_put) (by decide +kernel)) (fun _ _ _ _ _ => pg_name (i := 7) S.nd rfl (.inl rfl)) (fun _ _ _ _ _ => pts_nil) (fun _ _ _ _ _ => (pe_callTy call_tuple_of (by rfl) M.tuple_ (by decide +kernel) (pa_cons (pe_lc (own := [("_law_cell", 6)]) (g := gName 6) (tt := tYes) (te := (tLC 1 lf (Lpre lf F c o) (spLam g) (tCons (tVar 6) tNil))) rfl S.nd (pi_tup (pv 7)) (blkOk_by (own := [("_law_cell", 6)]) rfl) (fun _ _ _ _ _ => pg_name (i := 6) S.nd rfl (.inl rfl)) (fun _ _ _ _ _ => pts_nil) (fun _ _ _ _ _ => (X11.pe_lcall LK hq hr (by omega) (x := "_law_by") (i := 1) rfl (by first | exact Or.inl rfl | exact Or.inr (Or.inl rfl) | exact Or.inr (Or.inr rfl)) (pa_cons (pv 6) pa_nil)))) pa_nil)))) pa_nil)) pa_nil)))))
 (pss_one (ps_ret (pe_tup (pa_cons (pe_callTy call_tuple_of (by rfl) M.tuple_ (by decide +kernel) (pa_cons (pe_lc (own := [("_law_cell", 6)]) (g := gName 6) (tt := tYes) (te := (tLC 1 lf (Lpre lf F c o) (spLam g) (tCons (tVar 6) tNil))) rfl S.nd (pi_tup (pv 2)) (blkOk_by (own := [("_law_cell", 6)]) (N := N_l_put) (sc := defScope s_l_put) (by decide +kernel)) (fun _ _ _ _ _ => pg_name (i := 6) S.nd rfl (.inl rfl)) (fun _ _ _ _ _ => pts_nil) (fun _ _ _ _ _ => (X11.pe_lcall LK hq hr (by omega) (x := "_law_by") (i := 1) rfl (by first | exact Or.inl rfl | exact Or.inr (Or.inl rfl) | exact Or.inr (Or.inr rfl)) (pa_cons (pv 6) pa_nil)))) pa_nil)) (pa_cons (pe_callTy call_tuple_of (by rfl) M.tuple_ (by decide +kernel) (pa_cons (pv 4) pa_nil)) pa_nil)))))))), ?_⟩
    obtain ⟨Y', yvs, e', eY, yal⟩ := tl.inv_tup
    cases e'
    obtain ⟨vc, yvs, rfl, tc, yal⟩ := yal.inv_cons
    obtain ⟨vw, yvs, rfl, hw, yal⟩ := yal.inv_cons
    obtain rfl := yal.inv_nil
    obtain ⟨W, wvs, rfl, hW, wal⟩ := hw.inv_tup
    obtain ⟨C, cvs, rfl, hC, cal⟩ := tc.inv_tup
    have lwv : wvs.length = wl.length := by rw [← wal.1, List.length_map]
    have big : 1000000 < sizeLine := by decide
    refine ⟨.ref Y, rfl, Y, _, rfl, .inl (.inl eY), rfl, _, _, rfl, _, _, rfl, rfl, ?_⟩
    refine ⟨Nat.zero_le _, fun R nR => ?_⟩
    generalize hH1 : upd H R _ = H1
    have s1 : Same H H1 := hH1 ▸ same_new nR
    have eR : H1 R = some (.lst []) := hH1 ▸ upd_same
    refine ⟨.ref W, rfl, W, rfl, ⟨_, .inl (.inl (s1 _ _ hW))⟩, for_it (walk_tup (K := K) (a := W) (xs := wvs)) (fun i σ G => ∃ (x5 x6 x7 : Option V) (fv : List V),
      σ = [some (.ref Y), some (.ref lf), some (.ref C), some (.ref W), some (.ref R), x5, x6, x7] ∧ Same H G ∧ G R = some (.lst fv) ∧ All2 G ((wlBy g (wl.take i)).map wsT) fv) ?_ ?_ ?_ ?_⟩
    · exact ⟨_, _, _, [], rfl, s1, eR, All2.nil⟩
    · rintro i σ G _ ⟨x5, x6, x7, fv, rfl, sm, _⟩
      exact .inl (.inl (sm _ _ hW))
    · rintro i x σ G0 G hi ⟨x5, x6, x7, fv, rfl, sm, eRG, fal⟩ ⟨rfl, ex⟩
      rw [lwv] at hi
      obtain ⟨ws, ews⟩ : ∃ ws, wl[i]? = some ws := ⟨_, List.getElem?_eq_getElem hi⟩
      obtain ⟨v, ev, tv⟩ := all2_get wal (i := i) (t := wsT ws) (by rw [List.getElem?_map, ews]; rfl)
      have ex : wvs[i]? = some x := ex
      rw [ev] at ex
      cases ex
      obtain ⟨A1, avs, rfl, eA, aal⟩ := tv.inv_tup
      have lav : avs.length = ws.length := by rw [← aal.1, List.length_map]
      have hws := lws ws (List.mem_of_getElem? ews)
      refine ⟨.ref R, rfl, .inl ⟨rfl, _, .inl (.inl eRG)⟩, .ref A1, rfl, A1, rfl, ⟨_, .inl (.inl (sm _ _ eA))⟩, fun D nD => ?_⟩
      refine lc_it (walk_tup (K := K) (a := A1) (xs := avs)) (fun k H' => Same G H' ∧ ∃ dvs : List V, H' D = some (.lst dvs) ∧ All2 H' (((ws.take k).map fun w => w.map g).map wayT) dvs) ?_ ?_ ?_ ?_
      · exact ⟨same_new nD, [], upd_same, All2.nil⟩
      · rintro k H' _ ⟨sm', _⟩
        exact .inl (.inl (sm' _ _ (sm _ _ eA)))
      · rintro k x H' H2 hk ⟨sm', dvs, eD, dal⟩ ⟨rfl, ex⟩
        rw [lav] at hk
        obtain ⟨w0, ew0⟩ : ∃ w0, ws[k]? = some w0 := ⟨_, List.getElem?_eq_getElem hk⟩
        obtain ⟨v, ev, tv⟩ := all2_get aal (i := k) (t := wayT w0) (by rw [List.getElem?_map, ew0]; rfl)
        have ex : avs[k]? = some x := ex
        rw [ev] at ex
        cases ex
        obtain ⟨A0, cvs0, rfl, eA0, cal0⟩ := tv.inv_tup
        have sH := sm.trans sm'
        refine ⟨rfl, St.yes (St.cb (St.cons ?_))⟩
        refine put_way (K := K) (j := 7) rfl (lpre_same hp sH) rfl (sH _ _ eA0) (cal0.same sH) (hws.2 w0 (List.mem_of_getElem? ew0)) fun D2 H3 dv2 n2 s3 e2 al2 => ⟨D2, dv2, rfl, .inl ⟨.inl (.inl e2), fun p np => ?_⟩⟩
        have s4 := same_new (o := .tup dv2) np
        have s34 := s3.trans s4
        have eD4 := s34 _ _ eD
        have ld : dvs.length ≤ 2 := by
          rw [← dal.1, List.length_map, List.length_map, List.length_take]
          have := hws.1
          omega
        refine ⟨dvs, eD4, Nat.lt_of_le_of_lt ld (by decide), fun b u e => ?_, dvs ++ [.ref p], upd_same, ?_⟩
        · rw [upd_ne (fun z => by rw [z, nD] at e; cases e)]
          exact s34 _ _ (sm' _ _ e)
        · rw [List.take_add_one, ew0, List.map_append, List.map_append]
          exact all2_upd ((dal.same s34).snoc (.mk upd_same (al2.same s4))) eD4
      · rintro H' ⟨sm', dvs, eD, dal⟩
        rw [lav, List.take_of_length_le (Nat.le_refl _)] at dal
        refine ⟨D, dvs, rfl, .inl ⟨.inl (.inl eD), fun p np => ?_⟩⟩
        have s4 := same_new (o := .tup dvs) np
        have s34 := sm'.trans s4
        have eR4 := s34 _ _ eRG
        have lf' : fv.length ≤ 1000 := by
          rw [← fal.1, List.length_map]
          unfold wlBy
          rw [List.length_map, List.length_take]
          omega
        refine ⟨R, _, _, rfl, rfl, eR4, Nat.lt_of_le_of_lt lf' (by decide), _, _, _, fv ++ [.ref p], rfl, fun b u e => ?_, upd_same, ?_⟩
        · rw [upd_ne (fun z => by rw [z, nR] at e; cases e)]
          exact s34 _ _ (sm _ _ e)
        · unfold wlBy at fal ⊢
          rw [List.take_add_one, ews, List.map_append, List.map_append]
          exact all2_upd ((fal.same s34).snoc (.mk upd_same (dal.same s4))) eR4
    · rintro σ G ⟨x5, x6, x7, fv, rfl, sm, eRG, fal⟩
      rw [lwv, List.take_of_length_le (Nat.le_refl _)] at fal
      dsimp only
      refine St.ret (St.tup (St.cons (St.cb (St.cons ?_))))
      refine put_way (K := K) (j := 2) rfl (lpre_same hp sm) rfl (sm _ _ hC) (cal.same sm) lc fun D H2 dvs nD s2 eD dal => ⟨D, dvs, rfl, .inl ⟨.inl (.inl eD), fun p1 n1 => ?_⟩⟩
      generalize hG1 : upd H2 p1 _ = G1
      have s3 : Same H2 G1 := hG1 ▸ same_new n1
      have e1 : G1 p1 = some (.tup dvs) := hG1 ▸ upd_same
      have s23 := s2.trans s3
      refine ⟨.ref R, rfl, R, fv, rfl, .inl ⟨.inl (.inl (s23 _ _ eRG)), fun p2 n2 => ?_⟩⟩
      generalize hG2 : upd G1 p2 _ = G2
      have s4 : Same G1 G2 := hG2 ▸ same_new n2
      have e2 : G2 p2 = some (.tup fv) := hG2 ▸ upd_same
      refine ⟨(by decide : (2 : Nat) ≤ sizeLine), fun p3 n3 => ?_⟩
      generalize hG3 : upd G2 p3 _ = G3
      have s5 : Same G2 G3 := hG3 ▸ same_new n3
      have e3 : G3 p3 = some (.tup [.ref p1, .ref p2]) := hG3 ▸ upd_same
      have s35 := (s3.trans s4).trans s5
      have s25 := s2.trans s35
      exact q p3 G3 (sm.trans s25) (.mk e3 (.cons (.mk ((s4.trans s5) _ _ e1) (dal.same s35)) (.cons (.mk (s5 _ _ e2) (fal.same s25)) .nil)))
end
end K53

namespace K53
open PySem PySem.Spec PyProof.Rows L2 Kit X11 NdefX
/-! ### the law's lambdas -/
def lamOf : Stmt → Option (Arguments × Expr × Scope)
  | .Assign _ (.List [.Lambda p b s _] _) _ => some (p, b, s)
  | .Expr (.Call _ [.Lambda p b s _] _ _) _ => some (p, b, s)
  | _ => none
def turnOf : List Stmt := match defBody s_law with
  | [_, .For _ _ b _ _, _] => b
  | _ => []
def lams : List (Arguments × Expr × Scope) := turnOf.filterMap lamOf
def lamP (i : Nat) : Arguments := match lams[i]? with
  | some z => z.1
  | none => defArgs s_law
def lamB (i : Nat) : Expr := match lams[i]? with
  | some z => z.2.1
  | none => .Tuple [] 0 ⟨0, 0, 0, 0⟩
def lamS (i : Nat) : Scope := match lams[i]? with
  | some z => z.2.2
  | none => defScope s_law
def lf1 (q : Str) (cl : List (Str × Addr)) (c' : Addr) : LF := ⟨q, lamP 0, lamB 0, lamS 0, cl, c'⟩
def lf2 (q : Str) (cl : List (Str × Addr)) (c' : Addr) : LF := ⟨q, lamP 1, lamB 1, lamS 1, cl, c'⟩
theorem upd_comm {H : Hp} {p c : Addr} {x y : HO} (h : p ≠ c) : upd (upd H p x) c y = upd (upd H c y) p x := by
  funext b
  by_cases h1 : b = c
  · subst h1
    rw [upd_same, upd_ne (Ne.symm h), upd_same]
  · by_cases h2 : b = p
    · subst h2
      rw [upd_ne h1, upd_same, upd_same]
    · rw [upd_ne h1, upd_ne h2, upd_ne h2, upd_ne h1]
theorem not_c {H : Hp} {p c : Addr} {x : HO} (h : upd H p x c = none) : p ≠ c := by
  rintro rfl
  rw [upd_same] at h
  cases h
theorem off_c {H : Hp} {r c : Addr} {o : Obj} {xs : List V} (h : upd H c (ex c o) r = some (.tup xs)) : H r = some (.tup xs) := by
  by_cases e : r = c
  · subst e
    rw [upd_same] at h
    cases h
  · rw [upd_ne e] at h
    exact h
section
variable {P : Program} {w : World} {K : PySem.W.Frag} {mg : Str → Option Value} {base : Heap}
theorem lok1 {q : Str} {c' f c : Addr} {o : Obj} {far : Int} {tk : Tok} (hd : o.data = .cell (some (.int far tk))) :
    LOk P w K mg base 1 f (lf1 q [("_law_far", c)] c') (Lpre f (lf1 q [("_law_far", c)] c') c o) (spLam fun z => (z.1 + far, z.2 + 3)) := by
  have S : NScope ["_law_cell", "_law_far"] ["_law_cell"] ["_law_far"] (lf1 q [("_law_far", c)] c').scope := nscope_by (by
    show nscB ["_law_cell", "_law_far"] ["_law_cell"] ["_law_far"] (lamS 0) = true
    decide +kernel)
  refine lok_of (y := "_law_cell") (ws := [some (.int far)]) S (fun pm ctv u => ?_) (fun vs H Q E h => ?_) (fun h ho H hn => ?_) fun A outer s H vs Q E hq hr hsp hn => ?_
  · rfl
  · obtain ⟨r, z, rfl, _⟩ := h
    rfl
  · refine ⟨rfl, fun y d e => ?_, fun x y d e1 e2 => ?_, fun i y e => ?_⟩
    · by_cases hy : (y == ("_law_far" : Str)) = true
      · have e : (match (y == ("_law_far" : Str)) with | true => some c | false => none) = some d := e
        rw [hy] at e
        cases e
        exact ⟨hn, _, o, ho, hd⟩
      · have e : (match (y == ("_law_far" : Str)) with | true => some c | false => none) = some d := e
        rw [eq_false_of_ne_true hy] at e
        cases e
    · have go : ∀ {y : Str}, ([(("_law_far" : Str), c)] : List (Str × Addr)).lookup y = some d → y = "_law_far" := fun {y} e => by
        cases hy : (y == ("_law_far" : Str)) with
        | true => exact beq_iff_eq.mp hy
        | false =>
          have e : (match (y == ("_law_far" : Str)) with | true => some c | false => none) = some d := e
          rw [hy] at e
          cases e
      rw [go e1, go e2]
    · match i, e with
      | 0, e =>
        cases e
        refine ⟨c, rfl, fun v hv => ?_⟩
        cases hv
        exact ⟨_, ⟨tk, rfl⟩, o, ho, hd⟩
  · obtain ⟨r, z, rfl, er, q⟩ := hsp
    have er := off_c er
    show ∃ t, PE (ncx L2.CX0 P w K mg base ["_law_cell", "_law_far"] (lf1 _ [("_law_far", c)] c').nf f A outer s H E) (lamB 0) t ∧ _
    refine ⟨_, (pe_tup (pa_cons (pe_op op_add (pe_ix ix_tup (pv 0) pe_int (fun _ _ => rfl)) (pv 1)) (pa_cons (pe_op op_add (pe_ix ix_tup (pv 0) pe_int (fun _ _ => rfl)) pe_int) pa_nil))), ?_⟩
    refine ⟨.ref r, rfl, r, _, _, _, rfl, rfl, .inl (.inl er), atI_nat (j := 0) rfl, .int far, rfl, _, _, rfl, rfl, .ref r, rfl, r, _, _, _, rfl, rfl, .inl (.inl er), atI_nat (j := 1) rfl, _, _, rfl, rfl, (by decide : (2 : Nat) ≤ sizeLine), fun p np hc => ?_⟩
    have n := not_c hc
    rw [upd_comm n]
    refine q p ?_
    rw [upd_ne n]
    exact np
theorem lok2 {q : Str} {c' f c : Addr} {o : Obj} :
    LOk P w K mg base 1 f (lf2 q [] c') (Lpre f (lf2 q [] c') c o) (spLam fun z => (z.2, z.1)) := by
  have S : NScope ["_law_cell"] ["_law_cell"] [] (lf2 q [] c').scope := nscope_by (by
    show nscB ["_law_cell"] ["_law_cell"] [] (lamS 1) = true
    decide +kernel)
  refine lok_of (y := "_law_cell") (ws := []) S (fun pm ctv u => ?_) (fun vs H Q E h => ?_) (fun h ho H hn => ?_) fun A outer s H vs Q E hq hr hsp hn => ?_
  · rfl
  · obtain ⟨r, z, rfl, _⟩ := h
    rfl
  · exact ⟨rfl, fun y d e => (by cases e), fun x y d e1 e2 => (by cases e1), fun i y e => (by cases e)⟩
  · obtain ⟨r, z, rfl, er, q⟩ := hsp
    have er := off_c er
    show ∃ t, PE (ncx L2.CX0 P w K mg base ["_law_cell"] (lf2 _ [] c').nf f A outer s H E) (lamB 1) t ∧ _
    refine ⟨_, (pe_tup (pa_cons (pe_ix ix_tup (pv 0) pe_int (fun _ _ => rfl)) (pa_cons (pe_ix ix_tup (pv 0) pe_int (fun _ _ => rfl)) pa_nil))), ?_⟩
    refine ⟨.ref r, rfl, r, _, _, _, rfl, rfl, .inl (.inl er), atI_nat (j := 1) rfl, .ref r, rfl, r, _, _, _, rfl, rfl, .inl (.inl er), atI_nat (j := 0) rfl, (by decide : (2 : Nat) ≤ sizeLine), fun p np hc => ?_⟩
    have n := not_c hc
    rw [upd_comm n]
    refine q p ?_
    rw [upd_ne n]
    exact np
end
end K53

set_option maxHeartbeats 8000000
namespace K53
open PySem PySem.Spec PyProof.Rows L2 Kit X11 NdefX LamX
/-! ### the law -/
def lamQ : Str := Str.ofString "law" ++ ".<locals>." ++ "<lambda>"
theorem lam_hu {Tb : Addr} {q : Str} (e : q = lamQ := by rfl) : ∀ p ∈ ([(Tb, lamQ)] : List (Addr × Str)), p.1 = Tb → p.2 = q := fun p hp _ => by
  rw [List.mem_singleton.mp hp, e]
theorem lam_free1 : ∀ y ∈ (lamS 0).names, y.2 = .free → (defScope s_law).names.lookup y.1 = some .cell ∨ (defScope s_law).names.lookup y.1 = some .free := by decide +kernel
theorem lam_free2 : ∀ y ∈ (lamS 1).names, y.2 = .free → (defScope s_law).names.lookup y.1 = some .cell ∨ (defScope s_law).names.lookup y.1 = some .free := by decide +kernel
/-- all that is no table and not the deck stays -/
def Kp (d c : Addr) (H H' : Hp) : Prop := ∀ b o, b ≠ d → b ≠ c → (∀ ps, o ≠ .tbl ps) → H b = some o → H' b = some o
section
variable {d c Tb : Addr} {H H1 H' : Hp} {t t' : Nat}
theorem Kp.refl : Kp d c H H := fun _ _ _ _ _ e => e
theorem Kp.trans (a : Kp d c H H1) (b : Kp d c H1 H') : Kp d c H H' := fun x o h1 h2 h3 e => b x o h1 h2 h3 (a x o h1 h2 h3 e)
theorem Kp.same (s : Same H H') : Kp d c H H' := fun x o _ _ _ e => s x o e
theorem Kp.but (b : But d c H H') : Kp d c H H' := fun x o h1 h2 _ e => b x o h1 h2 e
theorem Kp.ext (b : ExtN H H') : Kp d c H H' := fun x o _ _ h e => b x o e h
theorem Kp.tup (k : Kp d c H H') (dk : Deck H d c t) : ∀ p vs, H p = some (.tup vs) → H' p = some (.tup vs) := fun p vs e => by
  obtain ⟨cs, sd, h1, h2, _⟩ := dk.ex
  exact k p _ (ne_of e h1 fun z => by cases z) (ne_of e h2 fun z => by cases z) (fun ps z => by cases z) e
theorem Deck.extN (dk : Deck H d c t) (x : ExtN H H') : Deck H' d c t := by
  obtain ⟨cs, sd, h1, h2, _⟩ := dk.ex
  refine dk.keep (fun o e => x d o e fun ps z => ?_) (fun o e => x c o e fun ps z => ?_)
  · rw [h1, z] at e
    cases e
  · rw [h2, z] at e
    cases e
structure Cx1 (d c Tb : Addr) (H : Hp) (t : Nat) : Prop where
  dk : Deck H d c t
  tb : Tabs [(Tb, lamQ)] H
theorem Cx1.same (x : Cx1 d c Tb H t) (s : Same H H') : Cx1 d c Tb H' t := ⟨x.dk.same s, x.tb.ext fun b o e => s b o e⟩
theorem Cx1.but (x : Cx1 d c Tb H t) (b : But d c H H') (dk : Deck H' d c t') : Cx1 d c Tb H' t' := by
  refine ⟨dk, fun p hp => ?_⟩
  obtain ⟨ps, h1, h2, h3⟩ := x.tb p hp
  obtain ⟨cs, sd, e1, e2, _⟩ := x.dk.ex
  refine ⟨ps, b _ _ (ne_of h1 e1 fun z => by cases z) (ne_of h1 e2 fun z => by cases z) h1, h2, fun pos cv h => ?_⟩
  obtain ⟨c', g1, g2⟩ := h3 pos cv h
  exact ⟨c', g1, b _ _ (ne_of g2 e1 fun z => by unfold CodeO at z; cases z) (ne_of g2 e2 fun z => by unfold CodeO at z; cases z) g2⟩
theorem Cx1.mut {D : Addr} {xs : List V} {o : HO} (x : Cx1 d c Tb H t) (e : H D = some (.lst xs)) (n : D ≠ d ∧ D ≠ c) : Cx1 d c Tb (upd H D o) t := by
  refine ⟨x.dk.mut n.1.symm n.2.symm, fun p hp => ?_⟩
  obtain ⟨ps, h1, h2, h3⟩ := x.tb p hp
  refine ⟨ps, by rw [upd_ne (ne_of h1 e fun z => by cases z)]; exact h1, h2, fun pos cv h => ?_⟩
  obtain ⟨c', g1, g2⟩ := h3 pos cv h
  exact ⟨c', g1, by rw [upd_ne (ne_of g2 e fun z => by unfold CodeO at z; cases z)]; exact g2⟩
theorem Kp.mut {D : Addr} {o : HO} (k : Kp d c H H') (n : H D = none) : Kp d c H (upd H' D o) := fun b x h1 h2 h3 e => by
  rw [upd_ne (ne_of_none e n)]
  exact k b x h1 h2 h3 e
theorem Tms.kp {R : Addr} {t1 t2 : Int} {arr : List Int} (h : Tms H R t1 t2 arr) (k : Kp d c H H') (dk : Deck H d c t) (n : R ≠ d ∧ R ≠ c) : Tms H' R t1 t2 arr := by
  obtain ⟨p1, p2, e, h1, h2⟩ := h.ex
  exact ⟨p1, p2, k R _ n.1 n.2 (fun ps z => by cases z) e, h1.kt (k.tup dk), h2.kt (k.tup dk)⟩
end
/-- times as data -/
def tmsD (t1 t2 : Int) (arr : List Int) : PyData := .list (pdL [tmT t1 arr, tmT t2 arr])
theorem lay_tm (t : Int) (arr : List Int) : (pd (tmT t arr)).canLay0 = true ∧ (pd (tmT t arr)).depth ≤ 2 := by
  unfold tmT
  refine lay_tupT fun x hx => ?_
  rcases List.mem_cons.mp hx with rfl | hx
  · exact ⟨(lay_int _).1, Nat.le_trans (lay_int _).2 (by decide)⟩
  · rw [List.mem_singleton.mp hx]
    refine lay_tupT fun x hx => ?_
    obtain ⟨i, _, rfl⟩ := List.mem_map.mp hx
    exact lay_int i
theorem tmsD_cl (t1 t2 : Int) (arr : List Int) : (tmsD t1 t2 arr).canLay0 = true ∧ (tmsD t1 t2 arr).depth ≤ 3 := by
  obtain ⟨h1, h2⟩ := lay_tup (n := 2) (ts := [tmT t1 arr, tmT t2 arr]) fun x hx => by
    rcases List.mem_cons.mp hx with rfl | hx
    · exact lay_tm _ _
    · rw [List.mem_singleton.mp hx]
      exact lay_tm _ _
  unfold tmsD
  rw [PyData.canLay0, PyData.depth]
  exact ⟨h1, by omega⟩
theorem tmsD_sh (t1 t2 : Int) (arr : List Int) : SeqAt.shaped (tmsD t1 t2 arr) = true := by
  obtain ⟨h1, h2⟩ := tmsD_cl t1 t2 arr
  rw [SeqAt.shaped, h1, Bool.true_and, decide_eq_true_eq]
  omega
theorem tmsD_eq (t1 t2 : Int) (arr : List Int) : (!PyData.eqv (tmsD t1 t2 arr) (tmsD t1 t2 arr)) = false := by
  rw [SeqAt.eqv_refl _ (tmsD_cl t1 t2 arr).1]
  rfl
theorem ints_all2 {H : Hp} : ∀ ns : List Int, All2 H (ns.map Td.int) (ns.map V.int)
  | [] => .nil
  | n :: ns => .cons (.int n) (ints_all2 ns)
theorem Tm.td {H : Hp} {p : Addr} {t : Int} {arr : List Int} (h : Tm H p t arr) : TdR H (tmT t arr) (.ref p) := by
  obtain ⟨A, e1, e2⟩ := h.ex
  exact .mk e1 (.cons (.int _) (.cons (.mk e2 (ints_all2 arr)) .nil))
theorem Tms.dp {K : PySem.W.Frag} {H : Hp} {R : Addr} {t1 t2 : Int} {arr : List Int} (h : Tms H R t1 t2 arr) : Dp K H (.ref R) (tmsD t1 t2 arr) := by
  obtain ⟨p1, p2, e, h1, h2⟩ := h.ex
  refine .lst (.inl (.inl e)) ?_
  rw [pdL, pdL, pdL]
  exact .cons (dp_of h1.td) (.cons (dp_of h2.td) .nil)
theorem three_cl {a b c : PyData} (ha : a.canLay0 = true ∧ a.depth ≤ 3) (hb : b.canLay0 = true ∧ b.depth ≤ 3) (hc : c.canLay0 = true ∧ c.depth ≤ 3) : SeqAt.shaped (.tuple [a, b, c]) = true := by
  rw [SeqAt.shaped, PyData.canLay0, PyData.depth, PyData.canLayAll0, PyData.canLayAll0, PyData.canLayAll0, PyData.canLayAll0, PyData.depthAll, PyData.depthAll, PyData.depthAll, PyData.depthAll, ha.1, hb.1, hc.1, decide_eq_true (by omega)]
  rfl
theorem none_no (t1 t2 : Int) (arr : List Int) : PyData.eqv (tmsD t1 t2 arr) .none = false := by
  unfold tmsD
  rw [PyData.eqv]
  all_goals (first | rfl | (intros; contradiction))
/-- less than a hundred -/
structure Own.lt (d : Own) : Prop where
  s : 0 ≤ d.s ∧ d.s < 100
  o : 0 ≤ d.o ∧ d.o < 100
  t : 0 ≤ d.t ∧ d.t < 100
def Own.md (d : Own) : Own := ⟨d.s % 100, d.o % 100, d.t % 100⟩
theorem Own.md_lt (d : Own) : d.md.lt := ⟨⟨Int.emod_nonneg _ (by decide), Int.emod_lt_of_pos _ (by decide)⟩, ⟨Int.emod_nonneg _ (by decide), Int.emod_lt_of_pos _ (by decide)⟩, ⟨Int.emod_nonneg _ (by decide), Int.emod_lt_of_pos _ (by decide)⟩⟩
theorem Own.lt.ok {d : Own} (h : d.lt) : d.ok := ⟨h.s.1, by have := h.s.2; omega⟩
theorem Own.lt.nn {d : Own} (h : d.lt) : d.nn := ⟨h.s.1, h.o.1, h.t.1⟩
theorem Own.lt.add_ok {d e : Own} (h : d.lt) (h2 : e.lt) : (d.add e).ok := by
  have a := h.s
  have b := h2.s
  refine ⟨?_, ?_⟩
  · show 0 ≤ d.s + e.s
    omega
  · show d.s + e.s ≤ 100000
    omega
theorem Own.lt.by_ok {d : Own} (h : d.lt) {m : Int} (h1 : 0 ≤ m) (h5 : m ≤ 5) : (d.by m).ok := by
  have a := h.s
  refine ⟨Int.mul_nonneg h1 a.1, ?_⟩
  show m * d.s ≤ 100000
  have : m * d.s ≤ 5 * d.s := Int.mul_le_mul_of_nonneg_right h5 a.1
  omega
theorem arrs_by {gs : List Gt} {wl : List (List Way)} {d : Own} (ok : Okl gs wl) {m : Int} (hm : 1 ≤ m) : arrs gs wl (d.by m) = (arrs gs wl d).map (fun x => m * x) := by
  refine getD_eq_ext (by rw [List.length_map, arrs_len, arrs_len]) fun k hk => ?_
  rw [arrs_len] at hk
  have h := arr_by (d := d) ok hm hk
  unfold AR at h
  rw [h, List.getD_eq_getElem?_getD, List.getD_eq_getElem?_getD, List.getElem?_map, List.getElem?_eq_getElem (by rw [arrs_len]; exact hk)]
  rfl
theorem like_by (g : Mv) (wl : List (List Way)) : Like wl (wlBy g wl) := by
  unfold wlBy
  refine ⟨List.length_map _, fun k ws e => ⟨ws.map fun w => w.map g, by rw [List.getElem?_map, e]; rfl, ?_⟩⟩
  unfold lens
  rw [List.map_map]
  exact List.map_congr_left fun w _ => List.length_map _
theorem zero_flat (n : Nat) : (List.replicate n [V.int 0]).flatten = (List.replicate n (0 : Int)).map V.int := by
  induction n with
  | zero => rfl
  | succ n ih =>
    rw [List.replicate_succ, List.replicate_succ, List.flatten_cons, List.map_cons, ih]
    rfl
theorem Tms.at {H : Hp} {R : Addr} {t1 t2 : Int} {arr : List Int} (h : Tms H R t1 t2 arr) {j : Nat} (hj : j < 2) : ∃ p xs A, H R = some (.lst xs) ∧ xs[j]? = some (.ref p) ∧ H p = some (.tup [.int (if j = 0 then t1 else t2), .ref A]) ∧ H A = some (.tup (arr.map V.int)) := by
  obtain ⟨p1, p2, e, ⟨A1, a1, b1⟩, ⟨A2, a2, b2⟩⟩ := h.ex
  match j, hj with
  | 0, _ => exact ⟨p1, _, A1, e, rfl, a1, b1⟩
  | 1, _ => exact ⟨p2, _, A2, e, rfl, a2, b2⟩
theorem mul_ints {K : PySem.W.Frag} {σ : L2.St} {H : Hp} {Q : VK} {A : Addr} {many : Int} {j : Nat} {zs : List Int} (hj : σ[j]? = some (some (.ref A))) (eA : H A = some (.tup (zs.map V.int))) (hl : zs.length ≤ 1000) (hm : 1 ≤ many ∧ many ≤ 5)
    (hw : ∀ x : V, wipe ((wipe σ [7]).set 7 (some x)) [7] = wipe σ [7]) (h13 : ∀ x : V, ((wipe σ [7]).set 7 (some x))[13]? = some (some (.int many))) (h7 : ∀ x : V, ((wipe σ [7]).set 7 (some x))[7]? = some (some x))
    (q : ∀ (D : Addr) (H' : Hp), H D = none → Same H H' → H' D = some (.lst ((zs.map fun x => many * x).map V.int)) → Q (.ref D) H') :
    tLc (iTup K (tVar j)) (gName 7) tYes (tOp (rI IntMulOk fun i j => .int (i * j)) (tVar 13) (tVar 7)) [7] σ H Q := by
  have lz : (zs.map V.int).length = zs.length := List.length_map _
  refine ⟨.ref A, hj, A, rfl, ⟨_, .inl (.inl eA)⟩, fun D nD => ?_⟩
  refine lc_it (walk_tup (K := K) (a := A) (xs := zs.map V.int)) (fun m H' => Same H H' ∧ H' D = some (.lst (((zs.take m).map fun x => many * x).map V.int))) ?_ ?_ ?_ ?_
  · exact ⟨same_new nD, upd_same⟩
  · rintro m H' _ ⟨sm, _⟩
    exact .inl (.inl (sm _ _ eA))
  · rintro m x H' H2 hm2 ⟨sm, eD⟩ ⟨rfl, ex⟩
    have ex : (zs.map V.int)[m]? = some x := ex
    rw [List.getElem?_map] at ex
    obtain ⟨z, ez, rfl⟩ := Option.map_eq_some_iff.mp ex
    refine ⟨hw _, St.yes ⟨.int many, h13 _, .int z, h7 _, many, z, rfl, rfl, .of_left (intBits_le_64 (by omega) (by omega)), _, eD, ?_, same_mut sm nD, ?_⟩⟩
    · rw [List.length_map, List.length_map, List.length_take]
      have : 1000 < sizeLine := by decide
      omega
    · rw [upd_same, List.take_add_one, ez, List.map_append, List.map_append]
      rfl
  · rintro H' ⟨sm, eD⟩
    rw [lz, List.take_of_length_le (Nat.le_refl _)] at eD
    exact q D H' nD sm eD
structure TurnC (d c Tb N Y o1 : Addr) (gs : List Gt) (cs : List (Int × Int)) (wl : List (List Way)) (u : Own) (H : Hp) (t : Nat) : Prop where
  tn : TdR H (netT gs) (.ref N)
  tl : TdR H (layT cs wl) (.ref Y)
  e1 : H o1 = some (.tup (ownV u))
  cx : Cx1 d c Tb H t
theorem TurnC.kp {d c Tb N Y o1 : Addr} {gs : List Gt} {cs : List (Int × Int)} {wl : List (List Way)} {u : Own} {H H' : Hp} {t t' : Nat} (h : TurnC d c Tb N Y o1 gs cs wl u H t) (k : Kp d c H H') (cx : Cx1 d c Tb H' t') : TurnC d c Tb N Y o1 gs cs wl u H' t' :=
  ⟨h.tn.keep (k.tup h.cx.dk), h.tl.keep (k.tup h.cx.dk), k.tup h.cx.dk _ _ h.e1, cx⟩
theorem TurnC.same {d c Tb N Y o1 : Addr} {gs : List Gt} {cs : List (Int × Int)} {wl : List (List Way)} {u : Own} {H H' : Hp} {t : Nat} (h : TurnC d c Tb N Y o1 gs cs wl u H t) (s : Same H H') : TurnC d c Tb N Y o1 gs cs wl u H' t := h.kp (.same s) (h.cx.same s)
def spLaw (K : PySem.W.Frag) (Tb : Addr) : Sp := fun vs H Q _ => ∃ (a : Addr) (ns : List Int), vs = [.ref a] ∧ H Tb = some (.tbl #[]) ∧ SqL K H a (ns.map V.int) ∧ ns.length ≤ 63 ∧
  (∀ z ∈ ns, Builtin.Int.intBits z ≤ 1048576) ∧ ∀ H', Q (.bl true) H'
section
variable {P : Program} {w : World} {K : PySem.W.Frag} {mg : Str → Option Value} {base : Heap} {cF cD : Addr}
theorem ok_law {f cd Tb : Addr} {oc dV kV doc pm ct : Value} {an od : Option Addr} {osl : Array (Option Value)} (M : Bi mg) (TB : TabB base mg cd Tb)
    (lk : K.lookup f = some ⟨oc, od, .func (PySem.W.fnOf "law" "law" (defArgs s_law) (defBody s_law) (defScope s_law) dV kV doc pm an (.ref cd) ct), osl⟩) (hcd : PySem.W.codeIn K (.ref cd) "law" = true)
    (C_l_deck : Cal P w K mg base L2.CX0 1 "_law_deck" ["_law_script"] (spDeck K))
    (C_l_draw : Cal P w K mg base L2.CX0 1 "_law_draw" ["_law_deck_here", "_law_sides"] spDraw)
    (C_l_net : Cal P w K mg base L2.CX0 3 "_law_net" ["_law_deck_here"] spNet)
    (C_l_laying : Cal P w K mg base L2.CX0 3 "_law_laying" ["_law_deck_here", "_law_net_here"] spLay)
    (C_l_delays : Cal P w K mg base L2.CX0 2 "_law_delays" ["_law_deck_here"] (spDel K))
    (C_l_times : Cal P w K mg base L2.CX0 5 "_law_times" ["_law_net_here", "_law_laying_here", "_law_own"] (spTimes K))
    (C_l_put : Cal P w K mg base L2.CX0 3 "_law_put" ["_law_laying_here", "_law_by"] (spPut P w K mg base))
    (C_l_longer : Cal P w K mg base L2.CX0 3 "_law_longer" ["_law_deck_here", "_law_laying_here"] spLonger)
    (C_l_grown : Cal P w K mg base L2.CX0 1 "_law_grown" ["_law_first", "_law_later", "_law_most"] spGrown) :
    FnG P w K mg base L2.CX0 20 f (PySem.W.fnOf "law" "law" (defArgs s_law) (defBody s_law) (defScope s_law) dV kV doc pm an (.ref cd) ct) ["_law_script"] (spLaw K Tb) := by
  have S := S_law
  refine fn_ofG lk hcd S (fun vs H Q E h => ?_) (fun A outer s H vs Q E hq hr h => ?_)
  · obtain ⟨a, ns, rfl, _⟩ := h
    rfl
  · obtain ⟨a, ns, rfl, hT, hs, hl, hb, q⟩ := h
    suffices z : ∃ t, PSs (cxOf L2.CX0 P w K mg base N_law "law" (defScope s_law) f (.ref cd) A outer s H E).nox (defBody s_law) t ∧ t { nx := fun _ H' => Q .non H', rt := Q } (L2.start N_law [.ref a]) H by
      obtain ⟨t, h1, h2⟩ := z
      exact ⟨t, h1.nox, h2⟩
    refine ⟨_, (pss_cons (ps_set (i := 1) S.nd rfl (.inr rfl) (pe_c C_l_deck pass0 hq hr (by omega) (by rfl) (pa_cons (pv 0) pa_nil)))
 (pss_cons (ps_for PassesOwn.never rfl (pi_range1 (by rfl) M.range_ (pa_cons pe_int pa_nil)) (pg_name (i := 2) S.nd rfl (.inl rfl))
  (pss_cons (ps_set (i := 3) S.nd rfl (.inl rfl) (pe_c C_l_net pass0 hq hr (by omega) (by rfl) (pa_cons (pv 1) pa_nil)))
 (pss_cons (ps_set (i := 4) S.nd rfl (.inl rfl) (pe_c C_l_laying pass0 hq hr (by omega) (by rfl) (pa_cons (pv 1) (pa_cons (pv 3) pa_nil))))
 (pss_cons (ps_asg (pe_lc (own := [("_law_k", 8)]) (g := gName 8) (tt := tYes) (te := (tCB (rTupOf K) (tCons (tLc (iTup K (tCall (spDel K) [] E0 (tCons (tVar 1) tNil))) (gName 7) tYes (tOp (rI (fun _ j => 0 < j) fun i j => .int (i % j)) (tVar 7) (tC (.int 100))) [7]) tNil))) rfl S.nd (pi_range1 (by rfl) M.range_ (pa_cons pe_int pa_nil)) (blkOk_by (own := [("_law_k", 8)]) (N := N_law) (sc := defScope s_law) (by decide +kernel)) (fun _ _ _ _ _ => pg_name (i := 8) S.nd rfl (.inl rfl)) (fun _ _ _ _ _ => pts_nil) (fun _ _ _ _ _ => (pe_callTy call_tuple_of (by rfl) M.tuple_ (by decide +kernel) (pa_cons (pe_lc (own := [("_law_a", 7)]) (g := gName 7) (tt := tYes) rfl S.nd (pi_tup (pe_c C_l_delays pass0 hq hr (by omega) (by rfl) (pa_cons (pv 1) pa_nil))) (blkOk_by (own := [("_law_a", 7)]) rfl) (fun _ _ _ _ _ => pg_name (i := 7) S.nd rfl (.inl rfl)) (fun _ _ _ _ _ => pts_nil) (fun _ _ _ _ _ => (pe_op op_mod (pv 7) pe_int))) pa_nil)))) (pg_unl (by rfl) (pgs_cons (pg_name (i := 5) S.nd rfl (.inl rfl)) (pgs_cons (pg_name (i := 6) S.nd rfl (.inl rfl)) pgs_nil))))
 (pss_cons (ps_par (i := 9) (j := 10) rfl S.nd rfl rfl (by decide) rfl rfl (pa_cons (pe_c C_l_times pass0 hq hr (by omega) (by rfl) (pa_cons (pv 3) (pa_cons (pv 4) (pa_cons (pv 5) pa_nil)))) (pa_cons (pe_c C_l_times pass0 hq hr (by omega) (by rfl) (pa_cons (pv 3) (pa_cons (pv 4) (pa_cons (pv 6) pa_nil)))) pa_nil)) (by rfl))
 (pss_cons (ps_set (i := 11) S.nd rfl (.inl rfl) (pe_c C_l_times pass0 hq hr (by omega) (by rfl) (pa_cons (pv 3) (pa_cons (pv 4) (pa_cons (pe_callTy call_tuple_of (by rfl) M.tuple_ (by decide +kernel) (pa_cons (pe_lc (own := [("_law_a", 7), ("_law_b", 12)]) (g := (gTup K 2 (gCons (gName 7) (gCons (gName 12) gNil)))) (tt := tYes) rfl S.nd (RZ.pi_zipA (by rfl) M.zip_ (pa_cons (pv 5) (pa_cons (pv 6) pa_nil))) (blkOk_by (own := [("_law_a", 7), ("_law_b", 12)]) (N := N_law) (sc := defScope s_law) (by decide +kernel)) (fun _ _ _ _ _ => (pg_tup (by rfl) (pgs_cons (pg_name (i := 7) S.nd rfl (.inl rfl)) (pgs_cons (pg_name (i := 12) S.nd rfl (.inl rfl)) pgs_nil)))) (fun _ _ _ _ _ => pts_nil) (fun _ _ _ _ _ => (pe_op op_add (pv 7) (pv 12)))) pa_nil)) pa_nil)))))
 (pss_cons (ps_if (PW.pt (pw_or (pt_cmpR (X13.op_inTD (Nat.lt_of_le_of_lt (Nat.add_le_add_left (by decide) _) (room200 hr))) pe_non (pe_tup (pa_cons (pv 9) (pa_cons (pv 10) (pa_cons (pv 11) pa_nil)))) rfl) (pw_or1 (pt_cmpR (op_neD hr.units) (pe_c C_l_times pass0 hq hr (by omega) (by rfl) (pa_cons (pv 3) (pa_cons (pv 4) (pa_cons (pe_tup (pa_cons pe_int (pa_cons pe_int (pa_cons pe_int pa_nil)))) pa_nil)))) (pe_op op_rep (pe_lst (pa_cons (pe_tup (pa_cons pe_int (pa_cons (pe_op op_repT (pe_tup (pa_cons pe_int pa_nil)) (pe_callB call_len_seq (by rfl) M.len_ (by decide +kernel) (pa_cons (pe_ix ix_tup (pv 3) pe_int (fun _ _ => rfl)) pa_nil))) pa_nil))) pa_nil)) pe_int) (nomark _)))))
  (pss_one (ps_ret pe_bl))
  pss_nil)
 (pss_cons (ps_for PassesOwn.never rfl (pi_range1 (by rfl) M.range_ (pa_cons pe_int pa_nil)) (pg_name (i := 8) S.nd rfl (.inl rfl))
  (pss_one (ps_if (pt_not (pt_chain op_le op_le (pe_callB (call_max2 rfl) (by rfl) M.max_ (by decide +kernel) (pa_cons (pe_ix ix_tup (pe_ix ix_list (pv 9) (pv 8) (fun _ _ => rfl)) pe_int (fun _ _ => rfl)) (pa_cons (pe_ix ix_tup (pe_ix ix_list (pv 10) (pv 8) (fun _ _ => rfl)) pe_int (fun _ _ => rfl)) pa_nil))) (pe_ix ix_tup (pe_ix ix_list (pv 11) (pv 8) (fun _ _ => rfl)) pe_int (fun _ _ => rfl)) (pe_op op_add (pe_ix ix_tup (pe_ix ix_list (pv 9) (pv 8) (fun _ _ => rfl)) pe_int (fun _ _ => rfl)) (pe_ix ix_tup (pe_ix ix_list (pv 10) (pv 8) (fun _ _ => rfl)) pe_int (fun _ _ => rfl)))))
  (pss_one (ps_ret pe_bl))
  pss_nil)))
 (pss_cons (ps_set (i := 13) S.nd rfl (.inr rfl) (pe_op op_add pe_int (pe_c C_l_draw pass0 hq hr (by omega) (by rfl) (pa_cons (pv 1) (pa_cons pe_int pa_nil)))))
 (pss_cons (ps_setLc (i := 14) (own := [("_law_time", 15), ("_law_said", 16)]) (g := (gTup K 2 (gCons (gName 15) (gCons (gName 16) gNil)))) (tt := tYes) (te := (tTup (tCons (tOp (rI IntMulOk fun i j => .int (i * j)) (tVar 13) (tVar 15)) (tCons (tCB (rTupOf K) (tCons (tLc (iTup K (tVar 16)) (gName 7) tYes (tOp (rI IntMulOk fun i j => .int (i * j)) (tVar 13) (tVar 7)) [7]) tNil)) tNil)))) rfl S.nd rfl rfl (sw_true rfl rfl rfl (by decide +kernel)) (pi_list (pv 9)) (blkOk_by (own := [("_law_time", 15), ("_law_said", 16)]) (N := N_law) (sc := defScope s_law) (by decide +kernel)) (fun _ _ _ _ _ => (pg_tup (by rfl) (pgs_cons (pg_name (i := 15) S.nd rfl (.inl rfl)) (pgs_cons (pg_name (i := 16) S.nd rfl (.inl rfl)) pgs_nil)))) (fun _ _ _ _ _ => pts_nil) (fun _ _ _ _ _ => (pe_tup (pa_cons (pe_op op_mulB (pv 13) (pv 15)) (pa_cons (pe_callTy call_tuple_of (by rfl) M.tuple_ (by decide +kernel) (pa_cons (pe_lc (own := [("_law_a", 7)]) (g := gName 7) (tt := tYes) rfl S.nd (pi_tup (pv 16)) (blkOk_by (own := [("_law_a", 7)]) rfl) (fun _ _ _ _ _ => pg_name (i := 7) S.nd rfl (.inl rfl)) (fun _ _ _ _ _ => pts_nil) (fun _ _ _ _ _ => (pe_op op_mulB (pv 13) (pv 7)))) pa_nil)) pa_nil)))))
 (pss_cons (ps_if (pt_cmpR (op_neD hr.units) (pe_c C_l_times pass0 hq hr (by omega) (by rfl) (pa_cons (pv 3) (pa_cons (pv 4) (pa_cons (pe_callTy call_tuple_of (by rfl) M.tuple_ (by decide +kernel) (pa_cons (pe_lc (own := [("_law_a", 7)]) (g := gName 7) (tt := tYes) rfl S.nd (pi_tup (pv 5)) (blkOk_by (own := [("_law_a", 7)]) (N := N_law) (sc := defScope s_law) (by decide +kernel)) (fun _ _ _ _ _ => pg_name (i := 7) S.nd rfl (.inl rfl)) (fun _ _ _ _ _ => pts_nil) (fun _ _ _ _ _ => (pe_op op_mulB (pv 13) (pv 7)))) pa_nil)) pa_nil)))) (pv 14) (nomark _))
  (pss_one (ps_ret pe_bl))
  pss_nil)
 (pss_cons (ps_set (i := 17) S.nd rfl (.inr rfl) (pe_c C_l_draw pass0 hq hr (by omega) (by rfl) (pa_cons (pv 1) (pa_cons pe_int pa_nil))))
 (pss_cons (ps_set (i := 18) S.nd rfl (.inl rfl) (pe_lst (pa_cons (X11.pe_lam (T := [(Tb, lamQ)]) TB rfl (.head _) lam_hu rfl lam_free1) pa_nil)))
 (pss_cons (ps_expr (pe_bm PySem.F.plainAttrs_list PySem.F.slot_list_append PySem.F.type_list_append mt_append (pv 18) (pa_cons (X11.pe_lam (T := [(Tb, lamQ)]) TB rfl (.head _) lam_hu rfl lam_free2) pa_nil)))
 (pss_cons (ps_for PassesOwn.never rfl (pi_list (pv 18)) (pg_name (i := 19) S.nd rfl (.inl rfl))
  (pss_one (ps_if (pt_cmpR (op_neD hr.units) (pe_c C_l_times pass0 hq hr (by omega) (by rfl) (pa_cons (pv 3) (pa_cons (X11.pe_cT C_l_put rfl (y := "_law_far") (jf := 17) rfl rfl hq hr (by omega) (by rfl) (pa_cons (pv 4) (pa_cons (pv 19) pa_nil))) (pa_cons (pv 5) pa_nil)))) (pv 9) (nomark _))
  (pss_one (ps_ret pe_bl))
  pss_nil)))
 (pss_cons (ps_set (i := 20) S.nd rfl (.inl rfl) (pe_c C_l_longer pass0 hq hr (by omega) (by rfl) (pa_cons (pv 1) (pa_cons (pv 4) pa_nil))))
 (pss_cons (ps_set (i := 21) S.nd rfl (.inl rfl) (pe_ifExp (pt_cmpR op_isN (pv 20) pe_non (nomark _)) (pv 9) (pe_c C_l_times pass0 hq hr (by omega) (by rfl) (pa_cons (pv 3) (pa_cons (pv 20) (pa_cons (pv 5) pa_nil))))))
 (pss_one (ps_if (PW.pt (pw_or (pt_cmpR op_isN (pv 21) pe_non (nomark _)) (pw_or1 (pt_not (pt_val (pe_c C_l_grown pass0 hq hr (by omega) (by rfl) (pa_cons (pv 9) (pa_cons (pv 21) (pa_cons (pe_op op_mulB pe_int (pe_ix ix_tup (pv 5) pe_int (fun _ _ => rfl))) pa_nil)))))))))
  (pss_one (ps_ret pe_bl))
  pss_nil)))))))))))))))))))
 (pss_one (ps_ret pe_bl)))), ?_⟩
    have big : 1000000 < sizeLine := by decide
    refine ⟨.ref a, rfl, a, ns, rfl, hs, hl, hb, fun d c H1 s1 nd nc dk => ?_⟩
    have cx0 : Cx1 d c Tb H1 0 := ⟨dk, fun p hp => by
      rw [List.mem_singleton.mp hp]
      exact TabS.nil (s1 _ _ hT)⟩
    refine ⟨3, rfl, by decide, by decide, for_range (lo := 0) (n := 3) (fun i σ G => ∃ (t : Nat) (x2 x3 x4 x5 x6 x7 x8 x9 x10 x11 x12 x13 x14 x15 x16 x17 x18 x19 x20 x21 : Option V),
      σ = [some (.ref a), some (.ref d), x2, x3, x4, x5, x6, x7, x8, x9, x10, x11, x12, x13, x14, x15, x16, x17, x18, x19, x20, x21] ∧ Cx1 d c Tb G t ∧ t ≤ 11000 * i) ?_ ?_ ?_⟩
    · exact ⟨0, _, _, _, _, _, _, _, _, _, _, _, _, _, _, _, _, _, _, _, _, rfl, cx0, Nat.le_refl _⟩
    · rintro i σ G hi ⟨t, x2, x3, x4, x5, x6, x7, x8, x9, x10, x11, x12, x13, x14, x15, x16, x17, x18, x19, x20, x21, rfl, cx, lt⟩
      have hi3 : i < 3 := hi
      refine ⟨.ref d, rfl, d, c, t, rfl, cx.dk, by omega, fun v gs t1 G1 b1 dk1 l1 tn no gl g2 => ?_⟩
      obtain ⟨N, Ga, gvs, nr, rfl, eN, hg, hG, gal, lg⟩ := net_inv tn
      have cx1 := cx.but b1 dk1
      refine ⟨.ref d, rfl, .ref N, rfl, d, c, t1, .ref N, gs, rfl, dk1, by omega, tn, no, gl, fun u cs wl t2 G2 b2 dk2 l2 tl ok sm w40 => ?_⟩
      obtain ⟨Y, vc, Wa, wvs, rfl, eY, hw, hW, wal⟩ := lay_inv tl
      have cx2 := cx1.but b2 dk2
      have tn2 := tn.keep (bkt b2 dk1)
      have gl1 : gs.length ≤ 1000 := Nat.le_trans gl (by decide)
      -- both delays
      refine ⟨2, rfl, by decide, by decide, fun D nD => ?_⟩
      have fD := dk2.free nD
      refine lc_range (lo := 0) (n := 2) (fun j X => Kp d c G2 X ∧ ∃ (tt : Nat) (os : List (Addr × Own)), Cx1 d c Tb X tt ∧ tt ≤ t2 + 40 * j ∧ os.length = j ∧ X D = some (.lst (os.map fun p => V.ref p.1)) ∧ ∀ p ∈ os, X p.1 = some (.tup (ownV p.2)) ∧ p.2.lt) ?_ ?_ ?_
      · exact ⟨.same (same_new nD), t2, [], cx2.same (same_new nD), Nat.le_refl _, rfl, upd_same, fun p hp => by cases hp⟩
      · rintro j X hj ⟨kp, tt, os, cxj, ltt, los, eD, hos⟩
        have hj2 : j < 2 := hj
        refine ⟨rfl, St.yes (St.cb (St.cons ?_))⟩
        refine ⟨.ref d, rfl, d, c, tt, rfl, cxj.dk, by omega, fun oa own t3 X3 b3 dk3 l3 eo few => ?_⟩
        have cx3 := cxj.but b3 dk3
        have eD3 := b3 _ _ fD.1 fD.2 eD
        refine ⟨oa, rfl, ⟨_, .inl (.inl eo)⟩, fun D2 nD2 => ?_⟩
        refine lc_it (walk_tup (K := K) (a := oa) (xs := ownV own)) (fun m H' => Same X3 H' ∧ H' D2 = some (.lst ((ownV own.md).take m))) ?_ ?_ ?_ ?_
        · exact ⟨same_new nD2, upd_same⟩
        · rintro m H' _ ⟨sm', _⟩
          exact .inl (.inl (sm' _ _ eo))
        · rintro m x H' H2 hm ⟨sm', eD2⟩ ⟨rfl, ex⟩
          obtain ⟨z, rfl, ez⟩ : ∃ z : Int, x = .int z ∧ (ownV own.md)[m]? = some (.int (z % 100)) := by
            match m, ex with
            | 0, ex =>
              cases ex
              exact ⟨_, rfl, rfl⟩
            | 1, ex =>
              cases ex
              exact ⟨_, rfl, rfl⟩
            | 2, ex =>
              cases ex
              exact ⟨_, rfl, rfl⟩
          refine ⟨rfl, St.yes ⟨.int z, rfl, z, 100, rfl, rfl, (by show (0 : Int) < 100; decide), _, eD2, ?_, same_mut sm' nD2, ?_⟩⟩
          · rw [List.length_take]
            have : (ownV own.md).length = 3 := rfl
            omega
          · rw [upd_same, List.take_add_one, ez]
            rfl
        · rintro H' ⟨sm', eD2⟩
          have eD2 : H' D2 = some (.lst (ownV own.md)) := eD2
          refine ⟨D2, ownV own.md, rfl, .inl ⟨.inl (.inl eD2), fun p np => ?_⟩⟩
          have s4 := same_new (o := .tup (ownV own.md)) np
          have s34 := sm'.trans s4
          have eD4 := s34 _ _ eD3
          have cx4 := cx3.same s34
          have k4 : Kp d c X (upd H' p (.tup (ownV own.md))) := (Kp.but b3).trans (.same s34)
          refine ⟨_, eD4, (by rw [List.length_map]; omega), ?_⟩
          refine ⟨(kp.trans k4).mut nD, t3, os ++ [(p, own.md)], cx4.mut eD4 fD, by omega, by rw [List.length_append, los]; rfl, ?_, fun z hz => ?_⟩
          · rw [upd_same, List.map_append]
            rfl
          · have at_ : ∀ q vs, (upd H' p (.tup (ownV own.md))) q = some (.tup vs) → upd (upd H' p (.tup (ownV own.md))) D (.lst (os.map (fun p => V.ref p.1) ++ [V.ref p])) q = some (.tup vs) := fun q vs e => by
              rw [upd_ne (ne_of e eD4 fun z => by cases z)]
              exact e
            rcases List.mem_append.mp hz with hz | hz
            · obtain ⟨g1, g2⟩ := hos z hz
              exact ⟨at_ _ _ (k4.tup cxj.dk _ _ g1), g2⟩
            · rw [List.mem_singleton.mp hz]
              exact ⟨at_ _ _ upd_same, own.md_lt⟩
      rintro G3 ⟨kp3, t3, os, cx3, lt3, los, eD, hos⟩
      obtain ⟨⟨o1, u1⟩, ⟨o2, u2⟩, rfl⟩ : ∃ x y, os = [x, y] := by
        match os, los with
        | [x, y], _ => exact ⟨x, y, rfl⟩
      obtain ⟨eo1, lu1⟩ := hos (o1, u1) (.head _)
      obtain ⟨eo2, lu2⟩ := hos (o2, u2) (.tail _ (.head _))
      have eo1 : G3 o1 = some (.tup (ownV u1)) := eo1
      have eo2 : G3 o2 = some (.tup (ownV u2)) := eo2
      have kt3 := kp3.tup dk2
      have tc3 : TurnC d c Tb N Y o1 gs cs wl u1 G3 t3 := ⟨tn2.keep kt3, tl.keep kt3, eo1, cx3⟩
      refine ⟨D, _, rfl, .inl (.inl eD), rfl, _, _, rfl, _, _, rfl, rfl, ?_⟩
      -- the times by each
      refine ⟨.ref N, rfl, .ref Y, rfl, .ref o1, rfl, N, Y, o1, gs, cs, wl, u1, rfl, tc3.tn, tc3.tl, .inl (.inl tc3.e1), ok, lu1.ok, lu1.nn, gl1, sm.g, fun R1 k1 m1 G4 s4 nR1 tm1 hk1 hm1 => ?_⟩
      have tc4 := tc3.same s4
      have fR1 := cx3.dk.free nR1
      refine ⟨.ref N, rfl, .ref Y, rfl, .ref o2, rfl, N, Y, o2, gs, cs, wl, u2, rfl, tc4.tn, tc4.tl, .inl (.inl (s4 _ _ eo2)), ok, lu2.ok, lu2.nn, gl1, sm.g, fun R2 k2 m2 G5 s5 nR2 tm2 hk2 hm2 => ?_⟩
      have tc5 := tc4.same s5
      have fR2 := tc4.cx.dk.free nR2
      have s35 := s4.trans s5
      refine ⟨_, _, rfl, ?_⟩
      -- by both together
      refine ⟨.ref N, rfl, .ref Y, rfl, .ref o1, rfl, .ref o2, rfl, o1, o2, _, _, rfl, .inr ⟨.inl (.inl (s35 _ _ eo1)), .inl (.inl (s35 _ _ eo2)), fun D3 nD3 => ?_⟩⟩
      refine lc_it (walk_zipT (K := K) (a := o1) (b := o2) (xs := ownV u1) (ys := ownV u2) (n := 3) rfl rfl) (fun m H' => Same G5 H' ∧ H' D3 = some (.lst ((ownV (u1.add u2)).take m))) ?_ ?_ ?_ ?_
      · exact ⟨same_new nD3, upd_same⟩
      · rintro m H' _ ⟨sm', _⟩
        exact ⟨.inl (.inl (sm' _ _ (s35 _ _ eo1))), .inl (.inl (sm' _ _ (s35 _ _ eo2)))⟩
      · rintro m x H' H2 hm ⟨sm', eD3⟩ ⟨T2, xa, xb, rfl, nT2, rfl, ea, eb⟩
        obtain ⟨za, zb, rfl, rfl, ez⟩ : ∃ za zb : Int, xa = .int za ∧ xb = .int zb ∧ (ownV (u1.add u2))[m]? = some (.int (za + zb)) := by
          match m, ea, eb with
          | 0, ea, eb =>
            cases ea
            cases eb
            exact ⟨_, _, rfl, rfl, rfl⟩
          | 1, ea, eb =>
            cases ea
            cases eb
            exact ⟨_, _, rfl, rfl, rfl⟩
          | 2, ea, eb =>
            cases ea
            cases eb
            exact ⟨_, _, rfl, rfl, rfl⟩
        have sT := same_new (o := .tup [.int za, .int zb]) nT2
        have eD3' := sT _ _ eD3
        refine ⟨T2, _, rfl, .inl (.inl upd_same), rfl, _, _, rfl, _, _, rfl, rfl, rfl, St.yes ⟨.int za, rfl, .int zb, rfl, za, zb, rfl, rfl, _, eD3', ?_, same_mut (sm'.trans sT) nD3, ?_⟩⟩
        · rw [List.length_take]
          have : (ownV (u1.add u2)).length = 3 := rfl
          omega
        · rw [upd_same, List.take_add_one, ez]
          rfl
      rintro G6 ⟨s6, eD3⟩
      have eD3 : G6 D3 = some (.lst (ownV (u1.add u2))) := eD3
      refine ⟨D3, _, rfl, .inl ⟨.inl (.inl eD3), fun o3 n3 => ?_⟩⟩
      generalize hG7 : upd G6 o3 _ = G7
      have s7 : Same G6 G7 := hG7 ▸ same_new n3
      have eo3 : G7 o3 = some (.tup (ownV (u1.add u2))) := hG7 ▸ upd_same
      have s57 := s6.trans s7
      have tc7 := tc5.same s57
      refine ⟨N, Y, o3, gs, cs, wl, u1.add u2, rfl, tc7.tn, tc7.tl, .inl (.inl eo3), ok, lu1.add_ok lu2, lu1.nn.add lu2.nn, gl1, sm.g, fun R3 k3 m3 G8 s8 nR3 tm3 hk3 hm3 => ?_⟩
      have tc8 := tc7.same s8
      have s58 := s57.trans s8
      have s48 := s5.trans s58
      have tm1' := tm1.same s48
      have tm2' := tm2.same s58
      -- none of them is None
      refine ⟨.ref R1, rfl, .ref R2, rfl, .ref R3, rfl, (by decide : (3 : Nat) ≤ sizeLine), fun p3 np3 => ?_⟩
      have sp3 := same_new (o := .tup [.ref R1, .ref R2, .ref R3]) np3
      refine ⟨.none, [tmsD k1 m1 (arrs gs wl u1), tmsD k2 m2 (arrs gs wl u2), tmsD k3 m3 (arrs gs wl (u1.add u2))], .non, .tup (.inl (.inl upd_same)) (.cons (tm1'.same sp3).dp (.cons (tm2'.same sp3).dp (.cons (tm3.same sp3).dp .nil))), rfl, three_cl (tmsD_cl _ _ _) (tmsD_cl _ _ _) (tmsD_cl _ _ _), _, rfl, ?_⟩
      rw [List.any_cons, List.any_cons, List.any_cons, List.any_nil, none_no, none_no, none_no]
      refine iteF ?_
      generalize hG9 : upd G8 p3 _ = G9 at sp3
      have tc9 := tc8.same sp3
      have s59 := s58.trans sp3
      -- nought by noughts
      refine ⟨.ref N, rfl, .ref Y, rfl, (by decide : (3 : Nat) ≤ sizeLine), fun o4 n4 => ?_⟩
      generalize hGA : upd G9 o4 _ = GA
      have sA : Same G9 GA := hGA ▸ same_new n4
      have eo4 : GA o4 = some (.tup (ownV ⟨0, 0, 0⟩)) := hGA ▸ upd_same
      have tcA := tc9.same sA
      refine ⟨N, Y, o4, gs, cs, wl, ⟨0, 0, 0⟩, rfl, tcA.tn, tcA.tl, .inl (.inl eo4), ok, ⟨by decide, by decide⟩, ⟨by decide, by decide, by decide⟩, gl1, sm.g, fun R4 k4 m4 GB sB nR4 tm4 hk4 hm4 => ?_⟩
      rw [arrs_zero ok, time_zero ok hk4, time_zero ok hm4] at tm4
      have tcB := tcA.same sB
      have kt2B : ∀ p vs, G2 p = some (.tup vs) → GB p = some (.tup vs) := fun p vs e => sB _ _ (sA _ _ (sp3 _ _ (s8 _ _ (s57 _ _ (s35 _ _ (kt3 _ _ e))))))
      have eNB := kt2B _ _ (bkt b2 dk1 _ _ eN)
      have hGB := kt2B _ _ (bkt b2 dk1 _ _ hG)
      refine ⟨(by decide : (1 : Nat) ≤ sizeLine), fun z1 nz1 => ?_⟩
      generalize hC1 : upd GB z1 _ = C1
      have y1 : Same GB C1 := hC1 ▸ same_new nz1
      have ez1 : C1 z1 = some (.tup [.int 0]) := hC1 ▸ upd_same
      refine ⟨.ref N, rfl, N, _, _, _, rfl, rfl, .inl (.inl (y1 _ _ eNB)), atI_nat (j := 0) rfl, Ga, gvs, rfl, .inr (.inl (.inl (y1 _ _ hGB))), z1, _, [.int 0], rfl, rfl, .inl (.inl ez1), (by simp), by omega, by omega, by decide, fun z2 nz2 => ?_⟩
      generalize hC2 : upd C1 z2 _ = C2
      have y2 : Same C1 C2 := hC2 ▸ same_new nz2
      have ez2 : C2 z2 = some (.tup ((List.replicate gs.length (0 : Int)).map V.int)) := by
        rw [← zero_flat, ← lg]
        exact hC2 ▸ upd_same
      refine ⟨(by decide : (2 : Nat) ≤ sizeLine), fun z3 nz3 => ?_⟩
      generalize hC3 : upd C2 z3 _ = C3
      have y3 : Same C2 C3 := hC3 ▸ same_new nz3
      have ez3 : C3 z3 = some (.tup [.int 0, .ref z2]) := hC3 ▸ upd_same
      refine ⟨(by decide : (1 : Nat) ≤ sizeLine), fun z4 nz4 => ?_⟩
      generalize hC4 : upd C3 z4 _ = C4
      have y4 : Same C3 C4 := hC4 ▸ same_new nz4
      have ez4 : C4 z4 = some (.lst [.ref z3]) := hC4 ▸ upd_same
      refine ⟨z4, 2, [.ref z3], rfl, rfl, ez4, by decide, by decide, (by show 1 * 2 ≤ sizeLine; decide), fun z5 nz5 => ?_⟩
      generalize hC5 : upd C4 z5 _ = C5
      have y5 : Same C4 C5 := hC5 ▸ same_new nz5
      have ez5 : C5 z5 = some (.lst [.ref z3, .ref z3]) := hC5 ▸ upd_same
      have y25 := (y3.trans y4).trans y5
      have yB5 := (y1.trans y2).trans y25
      have tz : Tm C5 z3 0 (List.replicate gs.length (0 : Int)) := ⟨z2, y5 _ _ (y4 _ _ ez3), y25 _ _ ez2⟩
      have tms0 : Tms C5 z5 0 0 (List.replicate gs.length (0 : Int)) := ⟨z3, z3, ez5, tz, tz⟩
      refine ⟨_, _, (tm4.same yB5).dp, tms0.dp, tmsD_sh _ _ _, tmsD_sh _ _ _, _, rfl, ?_⟩
      rw [tmsD_eq]
      refine iteF ?_
      have s5C := ((s59.trans sA).trans sB).trans yB5
      have s8C := ((sp3.trans sA).trans sB).trans yB5
      have tcC := tc5.same s5C
      have tm1C := tm1.same (s5.trans s5C)
      have tm2C := tm2.same s5C
      have tm3C := tm3.same s8C
      -- no less than either, no greater than both
      have q1 := time_add1 (d := u1) ok lu2.nn hk1 hk3
      have q2 := time_add1 (d := u1) ok lu2.nn hm1 hm3
      have q3 := time_add1 (d := u2) ok lu1.nn hk2 (own_addC ▸ hk3)
      have q4 := time_add1 (d := u2) ok lu1.nn hm2 (own_addC ▸ hm3)
      have q5 := time_addU ok hk1 hk2 hk3
      have q6 := time_addU ok hm1 hm2 hm3
      refine ⟨2, rfl, by decide, by decide, for_range (lo := 0) (n := 2) (fun j σ X => ∃ (x8 : Option V),
        σ = [some (.ref a), some (.ref d), some (.int (0 + (i : Int))), some (.ref N), some (.ref Y), some (.ref o1), some (.ref o2), x7, x8, some (.ref R1), some (.ref R2), some (.ref R3), x12, x13, x14, x15, x16, x17, x18, x19, x20, x21] ∧ X = C5) ?_ ?_ ?_⟩
      · exact ⟨_, rfl, rfl⟩
      · rintro j σ X hj ⟨x8', rfl, rfl⟩
        have hj2 : j < 2 := hj
        obtain ⟨pa, xa, Aa, ea1, ea2, ea3, _⟩ := tm1C.at hj2
        obtain ⟨pb, xb, Ab, eb1, eb2, eb3, _⟩ := tm2C.at hj2
        obtain ⟨pc, xc, Ac, ec1, ec2, ec3, _⟩ := tm3C.at hj2
        obtain ⟨w1, w2⟩ : (if (if j = 0 then k2 else m2) > (if j = 0 then k1 else m1) then (if j = 0 then k2 else m2) else (if j = 0 then k1 else m1)) ≤ (if j = 0 then k3 else m3) ∧ (if j = 0 then k3 else m3) ≤ (if j = 0 then k1 else m1) + (if j = 0 then k2 else m2) := by
          match j, hj2 with
          | 0, _ =>
            show (if k2 > k1 then k2 else k1) ≤ k3 ∧ k3 ≤ k1 + k2
            exact ⟨by split <;> assumption, q5⟩
          | 1, _ =>
            show (if m2 > m1 then m2 else m1) ≤ m3 ∧ m3 ≤ m1 + m2
            exact ⟨by split <;> assumption, q6⟩
        refine ⟨.ref R1, rfl, .int (0 + (j : Int)), rfl, R1, xa, _, _, rfl, rfl, .inl (.inl ea1), by rw [Int.zero_add]; exact atI_nat ea2, pa, _, _, _, rfl, rfl, .inl (.inl ea3), atI_nat (j := 0) rfl, ?_⟩
        refine ⟨.ref R2, rfl, .int (0 + (j : Int)), rfl, R2, xb, _, _, rfl, rfl, .inl (.inl eb1), by rw [Int.zero_add]; exact atI_nat eb2, pb, _, _, _, rfl, rfl, .inl (.inl eb3), atI_nat (j := 0) rfl, _, _, rfl, ?_⟩
        refine ⟨.ref R3, rfl, .int (0 + (j : Int)), rfl, R3, xc, _, _, rfl, rfl, .inl (.inl ec1), by rw [Int.zero_add]; exact atI_nat ec2, pc, _, _, _, rfl, rfl, .inl (.inl ec3), atI_nat (j := 0) rfl, _, _, rfl, rfl, _, rfl, ?_⟩
        rw [decide_eq_true w1]
        refine iteT ?_
        refine ⟨.ref R1, rfl, .int (0 + (j : Int)), rfl, R1, xa, _, _, rfl, rfl, .inl (.inl ea1), by rw [Int.zero_add]; exact atI_nat ea2, pa, _, _, _, rfl, rfl, .inl (.inl ea3), atI_nat (j := 0) rfl, ?_⟩
        refine ⟨.ref R2, rfl, .int (0 + (j : Int)), rfl, R2, xb, _, _, rfl, rfl, .inl (.inl eb1), by rw [Int.zero_add]; exact atI_nat eb2, pb, _, _, _, rfl, rfl, .inl (.inl eb3), atI_nat (j := 0) rfl, _, _, rfl, rfl, _, _, rfl, rfl, _, rfl, ?_⟩
        rw [decide_eq_true w2]
        refine iteF ?_
        exact ⟨_, rfl, rfl⟩
      rintro σ C5 ⟨x8', rfl, rfl⟩
      dsimp only
      -- so many times greater
      refine ⟨.ref d, rfl, d, c, 5, t3, rfl, by decide, by decide, tcC.cx.dk, by omega, fun r C6 r0 r5 bC6 dk6 => ⟨1, r, rfl, rfl, ?_⟩⟩
      obtain ⟨many, hmany⟩ : ∃ many : Int, many = 1 + r := ⟨_, rfl⟩
      have hm5 : 1 ≤ many ∧ many ≤ 5 := by omega
      dsimp only
      rw [← hmany]
      have kC6 : Kp d c C5 C6 := .but bC6
      have tc6 := tcC.kp kC6 (tcC.cx.but bC6 dk6)
      have tm16 := tm1C.kp kC6 tcC.cx.dk fR1
      refine ⟨.ref R1, rfl, R1, rfl, ?_⟩
      obtain ⟨pa, pb, eR1, ⟨Aa, ea1, ea2⟩, ⟨Ab, eb1, eb2⟩⟩ := tm16.ex
      have lar : (arrs gs wl u1).length ≤ 1000 := by
        rw [arrs_len]
        exact gl1
      refine ⟨⟨_, .inl (.inl eR1)⟩, fun D5 nD5 => ?_⟩
      refine lc_list (K := K) (a := R1) (xs := [.ref pa, .ref pb]) (fun j H' => Same C6 H' ∧ ∃ qs : List Addr, qs.length = j ∧ H' D5 = some (.lst (qs.map V.ref)) ∧ ∀ m q, qs[m]? = some q → Tm H' q (many * (if m = 0 then k1 else m1)) ((arrs gs wl u1).map fun x => many * x)) ?_ ?_ ?_ ?_
      · exact ⟨same_new nD5, [], rfl, upd_same, fun m q h => by cases h⟩
      · rintro j H' _ ⟨sm', _⟩
        exact .inl (.inl (sm' _ _ eR1))
      · rintro j x H' hx ⟨sm', qs, lqs, eD5, hqs⟩
        have hj2 : j < 2 := (List.getElem?_eq_some_iff.mp hx).1
        obtain ⟨p, A1, rfl, ep, eA1⟩ : ∃ p A1, x = .ref p ∧ C6 p = some (.tup [.int (if j = 0 then k1 else m1), .ref A1]) ∧ C6 A1 = some (.tup ((arrs gs wl u1).map V.int)) := by
          match j, hx with
          | 0, hx =>
            cases hx
            exact ⟨pa, Aa, rfl, ea1, ea2⟩
          | 1, hx =>
            cases hx
            exact ⟨pb, Ab, rfl, eb1, eb2⟩
        obtain ⟨tt, ett⟩ : ∃ tt, (if j = 0 then k1 else m1) = tt := ⟨_, rfl⟩
        rw [ett] at ep
        refine ⟨p, _, rfl, .inl (.inl (sm' _ _ ep)), rfl, _, _, rfl, _, _, rfl, rfl, rfl, St.yes ?_⟩
        refine ⟨.int many, rfl, .int tt, rfl, many, tt, rfl, rfl, .of_left (intBits_le_64 (by omega) (by omega)), ?_⟩
        refine St.cons (St.cb (St.cons ?_))
        refine mul_ints (many := many) (j := 16) rfl (sm' _ _ eA1) lar hm5 (fun _ => rfl) (fun _ => rfl) (fun _ => rfl) fun D6 H2 nD6 sm2 eD6 => ⟨D6, _, rfl, .inl ⟨.inl (.inl eD6), fun z1 nz1 => ?_⟩⟩
        have y1 := same_new (o := .tup (((arrs gs wl u1).map fun x => many * x).map V.int)) nz1
        generalize hY1 : upd H2 z1 _ = Y1 at y1
        have ez1 : Y1 z1 = some (.tup (((arrs gs wl u1).map fun x => many * x).map V.int)) := hY1 ▸ upd_same
        refine ⟨(by decide : (2 : Nat) ≤ sizeLine), fun z2 nz2 => ?_⟩
        generalize hY2 : upd Y1 z2 _ = Y2
        have y2 : Same Y1 Y2 := hY2 ▸ same_new nz2
        have ez2 : Y2 z2 = some (.tup [.int (many * tt), .ref z1]) := hY2 ▸ upd_same
        have s26 := (sm2.trans y1).trans y2
        have eD7 := s26 _ _ eD5
        have kt : ∀ q vs, Y2 q = some (.tup vs) → upd Y2 D5 (.lst (qs.map V.ref ++ [V.ref z2])) q = some (.tup vs) := fun q vs e => by
          rw [upd_ne (ne_of e eD7 fun z => by cases z)]
          exact e
        refine ⟨_, eD7, (by
          rw [List.length_map, lqs]
          exact Nat.lt_trans hj2 (by decide)), same_mut (sm'.trans s26) nD5, qs ++ [z2], by rw [List.length_append, lqs]; rfl, by rw [upd_same, List.map_append]; rfl, fun m q hmq => ?_⟩
        rcases Nat.lt_trichotomy m j with h | h | h
        · rw [List.getElem?_append_left (by omega)] at hmq
          exact ((hqs m q hmq).same s26).kt kt
        · subst h
          rw [List.getElem?_append_right (by omega), lqs, Nat.sub_self] at hmq
          cases hmq
          rw [ett]
          exact Tm.kt ⟨_, ez2, y2 _ _ ez1⟩ kt
        · rw [List.getElem?_eq_none (by rw [List.length_append, lqs]; exact h)] at hmq
          cases hmq
      rintro C7 ⟨s67, qs, lqs, eD5, hqs⟩
      obtain ⟨qa, qb, rfl⟩ : ∃ x y, qs = [x, y] := by
        match qs, lqs with
        | [x, y], _ => exact ⟨x, y, rfl⟩
      have due : Tms C7 D5 (many * k1) (many * m1) ((arrs gs wl u1).map fun x => many * x) := ⟨qa, qb, eD5, hqs 0 qa rfl, hqs 1 qb rfl⟩
      have tc7' := tc6.same s67
      refine ⟨.ref N, rfl, .ref Y, rfl, ?_⟩
      refine St.cons (St.cb (St.cons ?_))
      refine mul_ints (many := many) (j := 5) (zs := [u1.s, u1.o, u1.t]) rfl tc7'.e1 (by show 3 ≤ 1000; decide) hm5 (fun _ => rfl) (fun _ => rfl) (fun _ => rfl) fun D6 C8 nD6 s78 eD6 => ⟨D6, _, rfl, .inl ⟨.inl (.inl eD6), fun o5 n5 => ?_⟩⟩
      generalize hC9 : upd C8 o5 _ = C9
      have s89 : Same C8 C9 := hC9 ▸ same_new n5
      have eo5 : C9 o5 = some (.tup (ownV (u1.by many))) := hC9 ▸ upd_same
      have s79 := s78.trans s89
      have tc9' := tc7'.same s79
      refine ⟨N, Y, o5, gs, cs, wl, u1.by many, rfl, tc9'.tn, tc9'.tl, .inl (.inl eo5), ok, lu1.by_ok (by omega) hm5.2, lu1.nn.by (by omega), gl1, sm.g, fun R5 k5 m5 C10 s910 nR5 tm5 hk5 hm5' => ?_⟩
      rw [arrs_by ok hm5.1, time_by ok hm5.1 hk1 hk5, time_by ok hm5.1 hm1 hm5'] at tm5
      have s710 := s79.trans s910
      refine ⟨.ref D5, rfl, _, _, tm5.dp, (due.same s710).dp, tmsD_sh _ _ _, tmsD_sh _ _ _, _, rfl, ?_⟩
      rw [tmsD_eq]
      refine iteF ?_
      have tc10 := tc7'.same s710
      have tm1_10 := tm16.same (s67.trans s710)
      -- elsewhere
      refine ⟨.ref d, rfl, d, c, 12, t3 + 1, rfl, by decide, by decide, tc10.cx.dk, by omega, fun far C11 _ _ b11 dk11 => ?_⟩
      have k11 : Kp d c C10 C11 := .but b11
      have tc11 := tc10.kp k11 (tc10.cx.but b11 dk11)
      have tm1_11 := tm1_10.kp k11 tc10.cx.dk fR1
      refine ⟨tc11.cx.tb, fun f1 c1 C12 x12' nn12 tb12 nf1 ef1 ec1 => ⟨(by decide : (1 : Nat) ≤ sizeLine), fun L nL => ?_⟩⟩
      have k12 : Kp d c C11 C12 := .ext x12'
      have tc12 := tc11.kp k12 ⟨tc11.cx.dk.extN x12', tb12⟩
      have tm1_12 := tm1_11.kp k12 tc11.cx.dk fR1
      generalize hC13 : upd C12 L _ = C13
      have s13 : Same C12 C13 := hC13 ▸ same_new nL
      have eL13 : C13 L = some (.lst [.ref f1]) := hC13 ▸ upd_same
      have tc13 := tc12.same s13
      have tm1_13 := tm1_12.same s13
      have ef1 := s13 _ _ ef1
      have ec1 := s13 _ _ ec1
      have fL := tc12.cx.dk.free nL
      refine ⟨.ref L, rfl, .inl ⟨rfl, _, .inl (.inl eL13)⟩, tc13.cx.tb, fun f2 c2 C14 x14' nn14 tb14 nf2 ef2 ec2 => ?_⟩
      have k14 : Kp d c C13 C14 := .ext x14'
      have tc14 := tc13.kp k14 ⟨tc13.cx.dk.extN x14', tb14⟩
      have tm1_14 := tm1_13.kp k14 tc13.cx.dk fR1
      have eL14 := x14' _ _ eL13 fun ps z => by cases z
      have ef1 := x14' _ _ ef1 (lmO_ne)
      have ec1 := x14' _ _ ec1 codeO_ne
      refine ⟨L, _, _, rfl, rfl, eL14, (by decide : (1 : Nat) < sizeLine), ?_⟩
      dsimp only
      generalize hC15 : upd C14 L _ = C15
      have eL15 : C15 L = some (.lst [.ref f1, .ref f2]) := hC15 ▸ upd_same
      have off : ∀ b o, b ≠ L → C14 b = some o → C15 b = some o := fun b o n e => by
        rw [← hC15, upd_ne n]
        exact e
      have kt15 : ∀ p vs, C14 p = some (.tup vs) → C15 p = some (.tup vs) := fun p vs e => off p _ (ne_of e eL14 fun z => by cases z) e
      have tc15 : TurnC d c Tb N Y o1 gs cs wl u1 C15 (t3 + 2) := ⟨tc14.tn.keep kt15, tc14.tl.keep kt15, kt15 _ _ tc14.e1, hC15 ▸ tc14.cx.mut eL14 fL⟩
      have tm1_15 : Tms C15 R1 k1 m1 (arrs gs wl u1) := by
        obtain ⟨p1, p2, e, h1, h2⟩ := tm1_14.ex
        obtain ⟨_, _, e12, _⟩ := tm1_12.ex
        exact ⟨p1, p2, off _ _ (ne_of_none e12 nL) e, h1.kt kt15, h2.kt kt15⟩
      have ef1 := off _ _ (ne_of ef1 eL14 (fun z => by unfold LmO at z; cases z)) ef1
      have ec1 := off _ _ (ne_of ec1 eL14 (fun z => by unfold CodeO at z; cases z)) ec1
      have ef2 := off _ _ (ne_of ef2 eL14 (fun z => by unfold LmO at z; cases z)) ef2
      have ec2 := off _ _ (ne_of ec2 eL14 (fun z => by unfold CodeO at z; cases z)) ec2
      have e1' : ∀ z, (cxOf L2.CX0 P w K mg base N_law (Str.ofString "law") (defScope s_law) f (.ref cd) A outer s H E).env.cells.lookup (Str.ofString "_law_far") = some z → C15 f1 = some (LmO f1 (lf1 lamQ [("_law_far", z)] c1)) := fun z hz => by
        have e : C15 f1 = some (LmO f1 (lf1 lamQ [("_law_far", ((cxOf L2.CX0 P w K mg base N_law (Str.ofString "law") (defScope s_law) f (.ref cd) A outer s H E).env.cells.lookup (Str.ofString "_law_far")).getD 0)] c1)) := ef1
        rw [hz] at e
        exact e
      have e2' : C15 f2 = some (LmO f2 (lf2 lamQ [] c2)) := ef2
      have c1' : C15 c1 = some (CodeO c1 lamQ) := ec1
      have c2' : C15 c2 = some (CodeO c2 lamQ) := ec2
      refine ⟨.ref L, rfl, L, rfl, ⟨_, .inl (.inl eL15)⟩, for_list (K := K) (a := L) (xs := [.ref f1, .ref f2]) (fun j σ X => ∃ (x19' : Option V),
        σ = [some (.ref a), some (.ref d), some (.int (0 + (i : Int))), some (.ref N), some (.ref Y), some (.ref o1), some (.ref o2), x7, x8', some (.ref R1), some (.ref R2), some (.ref R3), x12, some (.int many), some (.ref D5), x15, x16, some (.int far), some (.ref L), x19', x20, x21] ∧ Same C15 X) ?_ ?_ ?_ ?_⟩
      · exact ⟨_, rfl, Same.refl C15⟩
      · rintro j σ X _ ⟨x19', rfl, sm'⟩
        exact .inl (.inl (sm' _ _ eL15))
      · rintro j x σ X hx ⟨x19', rfl, sX⟩
        obtain ⟨fx, g, rfl, hLK⟩ : ∃ (fx : Addr) (g : Mv), x = .ref fx ∧ ∀ (cc : Addr) (oo : Obj) (tk : Tok), (cxOf L2.CX0 P w K mg base N_law (Str.ofString "law") (defScope s_law) f (.ref cd) A outer s H E).env.cells.lookup (Str.ofString "_law_far") = some cc → oo.data = .cell (some (.int far tk)) →
            ∃ F : LF, LOk P w K mg base 1 fx F (Lpre fx F cc oo) (spLam g) ∧ C15 fx = some (LmO fx F) ∧ C15 F.c = some (CodeO F.c F.qual) := by
          match j, hx with
          | 0, hx =>
            cases hx
            exact ⟨f1, _, rfl, fun cc oo tk hcl hdd => ⟨_, lok1 hdd, e1' cc hcl, c1'⟩⟩
          | 1, hx =>
            cases hx
            exact ⟨f2, _, rfl, fun cc oo tk hcl hdd => ⟨_, lok2, e2', c2'⟩⟩
        have tcX := tc15.same sX
        refine ⟨.ref N, rfl, far, rfl, .ref Y, rfl, .ref fx, rfl, fun cc oo tk hcl hdd hcn => ?_⟩
        obtain ⟨F, LK, gF, gc⟩ := hLK cc oo tk hcl hdd
        have up : ∀ b o, X b = some o → (upd X cc (ex cc oo)) b = some o := fun b o e => by
          rw [upd_ne (ne_of_none e hcn)]
          exact e
        refine ⟨Y, fx, cc, F, oo, g, cs, wl, rfl, LK, ⟨up _ _ (sX _ _ gF), up _ _ (sX _ _ gc), upd_same⟩, tcX.tl.same up, Nat.le_trans sm.m (by decide), Nat.le_trans sm.k (by decide), fun ws hws => ⟨(sm.w ws hws).1, fun w hw => ((sm.w ws hws).2 w hw).1⟩, fun p X' sX' tlp => ?_⟩
        have ecc := sX' _ _ (upd_same (H := X) (a := cc) (o := ex cc oo))
        have sU : Same X (unc X' cc) := fun b o e => by
          rw [unc_ne (ne_of_none e hcn)]
          exact sX' _ _ (up _ _ e)
        have tlU : TdR (unc X' cc) (layT (cs.map g) (wlBy g wl)) (.ref p) := tlp.keep fun q vs e => by
          rw [unc_ne (ne_of e ecc fun z => by unfold ex at z; cases z)]
          exact e
        have tcU := tcX.same sU
        have lk := like_by g wl
        refine ⟨.ref o1, rfl, N, p, o1, gs, cs.map g, wlBy g wl, u1, rfl, tcU.tn, tlU, .inl (.inl tcU.e1), lk.okl ok, lu1.ok, lu1.nn, gl1, sm.g, fun R6 k6 m6 Z6 sZ nR6 tm6 hk6 hm6 => ?_⟩
        rw [like_arrs lk ok, like_time lk ok hk1 hk6, like_time lk ok hm1 hm6] at tm6
        have s15Z := sX.trans (sU.trans sZ)
        refine ⟨.ref R1, rfl, _, _, tm6.dp, (tm1_15.same s15Z).dp, tmsD_sh _ _ _, tmsD_sh _ _ _, _, rfl, ?_⟩
        rw [tmsD_eq]
        exact iteF ⟨_, rfl, s15Z⟩
      rintro σ C16 ⟨x19', rfl, s1516⟩
      have tc16 := tc15.same s1516
      have tm1_16 := tm1_15.same s1516
      -- a way longer
      have lar16 : (arrs gs wl u1).length = gs.length := arrs_len
      refine ⟨.ref d, rfl, .ref Y, rfl, d, c, Y, t3 + 2, cs, wl, rfl, tc16.cx.dk, by omega, tc16.tl, sm.k, fun ws hws => (sm.w ws hws).1, w40, fun C17 t17 b17 dk17 l17 => ?_, fun Y' wl' k0 C17 t17 b17 dk17 l17 tl17 mo => ?_⟩
      · have k17 : Kp d c C16 C17 := .but b17
        have cx17 := tc16.cx.but b17 dk17
        have tc17 := tc16.kp k17 cx17
        have tm17 := tm1_16.kp k17 tc16.cx.dk fR1
        refine ⟨.non, rfl, rfl, _, rfl, iteT ⟨.ref R1, rfl, .ref R1, rfl, rfl, _, rfl, iteF ?_⟩⟩
        refine ⟨.ref R1, rfl, .ref R1, rfl, .ref o1, rfl, o1, _, _, _, rfl, rfl, .inl (.inl tc17.e1), atI_nat (j := 0) rfl, 2, u1.s, rfl, rfl, .of_left (by decide), ?_⟩
        have u0 : 0 ≤ u1.s := lu1.s.1
        refine ⟨R1, R1, 2 * u1.s, k1, m1, k1, m1, arrs gs wl u1, arrs gs wl u1, rfl, tm17, tm17, rfl, by omega, ⟨by omega, by omega⟩, ⟨by omega, by omega⟩, fun m x y e1 e2 => ?_, fun C18 s18 => ⟨_, rfl, iteF ?_⟩⟩
        · rw [e1] at e2
          cases e2
          omega
        · exact ⟨t17, _, _, _, _, _, _, _, _, _, _, _, _, _, _, _, _, _, _, _, _, rfl, cx17.same s18, by omega⟩
      · have k17 : Kp d c C16 C17 := .but b17
        have cx17 := tc16.cx.but b17 dk17
        have tc17 := tc16.kp k17 cx17
        have tm17 := tm1_16.kp k17 tc16.cx.dk fR1
        refine ⟨.ref Y', rfl, rfl, _, rfl, iteF ?_⟩
        refine ⟨.ref N, rfl, .ref Y', rfl, .ref o1, rfl, N, Y', o1, gs, cs, wl', u1, rfl, tc17.tn, tl17, .inl (.inl tc17.e1), mo.okl ok, lu1.ok, lu1.nn, gl1, sm.g, fun R6 k6 m6 C18 s18 nR6 tm6 hk6 hm6 => ?_⟩
        refine ⟨.ref R6, rfl, rfl, _, rfl, iteF ?_⟩
        have tm18 := tm17.same s18
        have tc18 := tc17.same s18
        refine ⟨.ref R1, rfl, .ref R6, rfl, .ref o1, rfl, o1, _, _, _, rfl, rfl, .inl (.inl tc18.e1), atI_nat (j := 0) rfl, 2, u1.s, rfl, rfl, .of_left (by decide), ?_⟩
        refine ⟨R1, R6, 2 * u1.s, k1, m1, k6, m6, arrs gs wl u1, arrs gs wl' u1, rfl, tm18, tm6, by rw [arrs_len, arrs_len], by omega, more_time mo ok lu1.nn hk1 hk6, more_time mo ok lu1.nn hm1 hm6, fun m x y e1 e2 => ?_, fun C19 s19 => ⟨_, rfl, iteF ?_⟩⟩
        · have hm : m < gs.length := by
            have := (List.getElem?_eq_some_iff.mp e1).1
            omega
          have g1 := more_lo (d := u1) mo ok lu1.nn hm
          have g2 := more_up2 (d := u1) mo ok lu1.nn hm
          unfold AR at g1 g2
          rw [List.getD_eq_getElem?_getD, List.getD_eq_getElem?_getD, e1, e2] at g1 g2
          exact ⟨g1, g2⟩
        · exact ⟨t17, _, _, _, _, _, _, _, _, _, _, _, _, _, _, _, _, _, _, _, _, rfl, cx17.same (s18.trans s19), by omega⟩
    · rintro σ G ⟨t, x2, x3, x4, x5, x6, x7, x8, x9, x10, x11, x12, x13, x14, x15, x16, x17, x18, x19, x20, x21, rfl, _⟩
      exact q G
end
end K53

namespace K53
open PySem PySem.Spec PyProof.Rows L2 Kit
theorem vals_few {xs : List V} {its : Array Value} (h : Vals xs its.toList) (hl : xs.length ≤ 1000) : its.size ≤ sizeLine := by
  have e1 := Paired.length h
  have e2 : its.toList.length = its.size := Array.length_toList
  have e3 : (1000 : Nat) ≤ sizeLine := by decide
  omega
theorem all_mk {l : PySem.W.OpenLaw} {w : World} {K : PySem.W.Frag} {h : Heap} {mg : Str → Option Value} {fa : Addr} (X : K.In h) (G : h.Ns mainGlobals mg) (hfa : mg "law" = some (.ref fa))
    {cc : Addr}
    {f_feeds_of : Addr} {oc_feeds_of kV_feeds_of dc_feeds_of pm_feeds_of cd_feeds_of ct_feeds_of : Value} {od_feeds_of an_feeds_of : Option Addr} {sl_feeds_of : Array (Option Value)}
    (a_feeds_of : PySem.W.nsIn K mainGlobals "feeds_of" = some (some (.ref f_feeds_of)))
    (l_feeds_of : K.lookup f_feeds_of = some ⟨oc_feeds_of, od_feeds_of, .func (PySem.W.fnOf "feeds_of" "feeds_of" (defArgs s_feeds_of) (defBody s_feeds_of) (defScope s_feeds_of) .none kV_feeds_of dc_feeds_of pm_feeds_of an_feeds_of cd_feeds_of ct_feeds_of), sl_feeds_of⟩)
    (c_feeds_of : PySem.W.codeIn K cd_feeds_of "feeds_of" = true)
    (k_feeds_of : PySem.W.keepIn K (.ref f_feeds_of) = true)
    {f_brought : Addr} {oc_brought kV_brought dc_brought pm_brought cd_brought ct_brought : Value} {od_brought an_brought : Option Addr} {sl_brought : Array (Option Value)}
    (a_brought : PySem.W.nsIn K mainGlobals "brought" = some (some (.ref f_brought)))
    (l_brought : K.lookup f_brought = some ⟨oc_brought, od_brought, .func (PySem.W.fnOf "brought" "brought" (defArgs s_brought) (defBody s_brought) (defScope s_brought) .none kV_brought dc_brought pm_brought an_brought cd_brought ct_brought), sl_brought⟩)
    (c_brought : PySem.W.codeIn K cd_brought "brought" = true)
    (k_brought : PySem.W.keepIn K (.ref f_brought) = true)
    {f_own_delay : Addr} {oc_own_delay kV_own_delay dc_own_delay pm_own_delay cd_own_delay ct_own_delay : Value} {od_own_delay an_own_delay : Option Addr} {sl_own_delay : Array (Option Value)}
    (a_own_delay : PySem.W.nsIn K mainGlobals "own_delay" = some (some (.ref f_own_delay)))
    (l_own_delay : K.lookup f_own_delay = some ⟨oc_own_delay, od_own_delay, .func (PySem.W.fnOf "own_delay" "own_delay" (defArgs s_own_delay) (defBody s_own_delay) (defScope s_own_delay) .none kV_own_delay dc_own_delay pm_own_delay an_own_delay cd_own_delay ct_own_delay), sl_own_delay⟩)
    (c_own_delay : PySem.W.codeIn K cd_own_delay "own_delay" = true)
    (k_own_delay : PySem.W.keepIn K (.ref f_own_delay) = true)
    {f_arrivals_of : Addr} {oc_arrivals_of kV_arrivals_of dc_arrivals_of pm_arrivals_of cd_arrivals_of ct_arrivals_of : Value} {od_arrivals_of an_arrivals_of : Option Addr} {sl_arrivals_of : Array (Option Value)}
    (a_arrivals_of : PySem.W.nsIn K mainGlobals "arrivals_of" = some (some (.ref f_arrivals_of)))
    (l_arrivals_of : K.lookup f_arrivals_of = some ⟨oc_arrivals_of, od_arrivals_of, .func (PySem.W.fnOf "arrivals_of" "arrivals_of" (defArgs s_arrivals_of) (defBody s_arrivals_of) (defScope s_arrivals_of) .none kV_arrivals_of dc_arrivals_of pm_arrivals_of an_arrivals_of cd_arrivals_of ct_arrivals_of), sl_arrivals_of⟩)
    (c_arrivals_of : PySem.W.codeIn K cd_arrivals_of "arrivals_of" = true)
    (k_arrivals_of : PySem.W.keepIn K (.ref f_arrivals_of) = true)
    {f_path_to : Addr} {oc_path_to kV_path_to dc_path_to pm_path_to cd_path_to ct_path_to : Value} {od_path_to an_path_to : Option Addr} {sl_path_to : Array (Option Value)}
    (a_path_to : PySem.W.nsIn K mainGlobals "path_to" = some (some (.ref f_path_to)))
    (l_path_to : K.lookup f_path_to = some ⟨oc_path_to, od_path_to, .func (PySem.W.fnOf "path_to" "path_to" (defArgs s_path_to) (defBody s_path_to) (defScope s_path_to) .none kV_path_to dc_path_to pm_path_to an_path_to cd_path_to ct_path_to), sl_path_to⟩)
    (c_path_to : PySem.W.codeIn K cd_path_to "path_to" = true)
    (k_path_to : PySem.W.keepIn K (.ref f_path_to) = true)
    {f_slowest : Addr} {oc_slowest dc_slowest pm_slowest cd_slowest ct_slowest : Value} {od_slowest an_slowest : Option Addr} {sl_slowest : Array (Option Value)}
    (a_slowest : PySem.W.nsIn K mainGlobals "slowest" = some (some (.ref f_slowest)))
    {kd_slowest : Addr}
    (l_slowest : K.lookup f_slowest = some ⟨oc_slowest, od_slowest, .func (PySem.W.fnOf "slowest" "slowest" (defArgs s_slowest) (defBody s_slowest) (defScope s_slowest) .none (.ref kd_slowest) dc_slowest pm_slowest an_slowest cd_slowest ct_slowest), sl_slowest⟩)
    (c_slowest : PySem.W.codeIn K cd_slowest "slowest" = true)
    (k_slowest : PySem.W.keepIn K (.ref f_slowest) = true)
    {f_is_natural : Addr} {oc_is_natural kV_is_natural dc_is_natural pm_is_natural cd_is_natural ct_is_natural : Value} {od_is_natural an_is_natural : Option Addr} {sl_is_natural : Array (Option Value)}
    (a_is_natural : PySem.W.nsIn K mainGlobals "is_natural" = some (some (.ref f_is_natural)))
    (l_is_natural : K.lookup f_is_natural = some ⟨oc_is_natural, od_is_natural, .func (PySem.W.fnOf "is_natural" "is_natural" (defArgs s_is_natural) (defBody s_is_natural) (defScope s_is_natural) .none kV_is_natural dc_is_natural pm_is_natural an_is_natural cd_is_natural ct_is_natural), sl_is_natural⟩)
    (c_is_natural : PySem.W.codeIn K cd_is_natural "is_natural" = true)
    (k_is_natural : PySem.W.keepIn K (.ref f_is_natural) = true)
    {f_is_whole : Addr} {oc_is_whole kV_is_whole dc_is_whole pm_is_whole cd_is_whole ct_is_whole : Value} {od_is_whole an_is_whole : Option Addr} {sl_is_whole : Array (Option Value)}
    (a_is_whole : PySem.W.nsIn K mainGlobals "is_whole" = some (some (.ref f_is_whole)))
    (l_is_whole : K.lookup f_is_whole = some ⟨oc_is_whole, od_is_whole, .func (PySem.W.fnOf "is_whole" "is_whole" (defArgs s_is_whole) (defBody s_is_whole) (defScope s_is_whole) .none kV_is_whole dc_is_whole pm_is_whole an_is_whole cd_is_whole ct_is_whole), sl_is_whole⟩)
    (c_is_whole : PySem.W.codeIn K cd_is_whole "is_whole" = true)
    (k_is_whole : PySem.W.keepIn K (.ref f_is_whole) = true)
    {f_is_tuple : Addr} {oc_is_tuple kV_is_tuple dc_is_tuple pm_is_tuple cd_is_tuple ct_is_tuple : Value} {od_is_tuple an_is_tuple : Option Addr} {sl_is_tuple : Array (Option Value)}
    (a_is_tuple : PySem.W.nsIn K mainGlobals "is_tuple" = some (some (.ref f_is_tuple)))
    (l_is_tuple : K.lookup f_is_tuple = some ⟨oc_is_tuple, od_is_tuple, .func (PySem.W.fnOf "is_tuple" "is_tuple" (defArgs s_is_tuple) (defBody s_is_tuple) (defScope s_is_tuple) .none kV_is_tuple dc_is_tuple pm_is_tuple an_is_tuple cd_is_tuple ct_is_tuple), sl_is_tuple⟩)
    (c_is_tuple : PySem.W.codeIn K cd_is_tuple "is_tuple" = true)
    (k_is_tuple : PySem.W.keepIn K (.ref f_is_tuple) = true)
    {f_are_arrivals : Addr} {oc_are_arrivals kV_are_arrivals dc_are_arrivals pm_are_arrivals cd_are_arrivals ct_are_arrivals : Value} {od_are_arrivals an_are_arrivals : Option Addr} {sl_are_arrivals : Array (Option Value)}
    (a_are_arrivals : PySem.W.nsIn K mainGlobals "are_arrivals" = some (some (.ref f_are_arrivals)))
    (l_are_arrivals : K.lookup f_are_arrivals = some ⟨oc_are_arrivals, od_are_arrivals, .func (PySem.W.fnOf "are_arrivals" "are_arrivals" (defArgs s_are_arrivals) (defBody s_are_arrivals) (defScope s_are_arrivals) .none kV_are_arrivals dc_are_arrivals pm_are_arrivals an_are_arrivals cd_are_arrivals ct_are_arrivals), sl_are_arrivals⟩)
    (c_are_arrivals : PySem.W.codeIn K cd_are_arrivals "are_arrivals" = true)
    (k_are_arrivals : PySem.W.keepIn K (.ref f_are_arrivals) = true)
    {f_is_path : Addr} {oc_is_path kV_is_path dc_is_path pm_is_path cd_is_path ct_is_path : Value} {od_is_path an_is_path : Option Addr} {sl_is_path : Array (Option Value)}
    (a_is_path : PySem.W.nsIn K mainGlobals "is_path" = some (some (.ref f_is_path)))
    (l_is_path : K.lookup f_is_path = some ⟨oc_is_path, od_is_path, .func (PySem.W.fnOf "is_path" "is_path" (defArgs s_is_path) (defBody s_is_path) (defScope s_is_path) .none kV_is_path dc_is_path pm_is_path an_is_path cd_is_path ct_is_path), sl_is_path⟩)
    (c_is_path : PySem.W.codeIn K cd_is_path "is_path" = true)
    (k_is_path : PySem.W.keepIn K (.ref f_is_path) = true)
    {f_path_time : Addr} {oc_path_time kV_path_time dc_path_time pm_path_time cd_path_time ct_path_time : Value} {od_path_time an_path_time : Option Addr} {sl_path_time : Array (Option Value)}
    (a_path_time : PySem.W.nsIn K mainGlobals "path_time" = some (some (.ref f_path_time)))
    (l_path_time : K.lookup f_path_time = some ⟨oc_path_time, od_path_time, .func (PySem.W.fnOf "path_time" "path_time" (defArgs s_path_time) (defBody s_path_time) (defScope s_path_time) .none kV_path_time dc_path_time pm_path_time an_path_time cd_path_time ct_path_time), sl_path_time⟩)
    (c_path_time : PySem.W.codeIn K cd_path_time "path_time" = true)
    (k_path_time : PySem.W.keepIn K (.ref f_path_time) = true)
    {f_slowest_holds : Addr} {oc_slowest_holds dc_slowest_holds pm_slowest_holds cd_slowest_holds ct_slowest_holds : Value} {od_slowest_holds an_slowest_holds : Option Addr} {sl_slowest_holds : Array (Option Value)}
    (a_slowest_holds : PySem.W.nsIn K mainGlobals "slowest_holds" = some (some (.ref f_slowest_holds)))
    {kd_slowest_holds : Addr}
    (l_slowest_holds : K.lookup f_slowest_holds = some ⟨oc_slowest_holds, od_slowest_holds, .func (PySem.W.fnOf "slowest_holds" "slowest_holds" (defArgs s_slowest_holds) (defBody s_slowest_holds) (defScope s_slowest_holds) .none (.ref kd_slowest_holds) dc_slowest_holds pm_slowest_holds an_slowest_holds cd_slowest_holds ct_slowest_holds), sl_slowest_holds⟩)
    (c_slowest_holds : PySem.W.codeIn K cd_slowest_holds "slowest_holds" = true)
    (k_slowest_holds : PySem.W.keepIn K (.ref f_slowest_holds) = true)
    {f_l_deck : Addr} {oc_l_deck kV_l_deck dc_l_deck pm_l_deck cd_l_deck ct_l_deck : Value} {od_l_deck an_l_deck : Option Addr} {sl_l_deck : Array (Option Value)}
    (a_l_deck : PySem.W.nsIn K mainGlobals "_law_deck" = some (some (.ref f_l_deck)))
    (l_l_deck : K.lookup f_l_deck = some ⟨oc_l_deck, od_l_deck, .func (PySem.W.fnOf "_law_deck" "_law_deck" (defArgs s_l_deck) (defBody s_l_deck) (defScope s_l_deck) .none kV_l_deck dc_l_deck pm_l_deck an_l_deck cd_l_deck ct_l_deck), sl_l_deck⟩)
    (c_l_deck : PySem.W.codeIn K cd_l_deck "_law_deck" = true)
    (k_l_deck : PySem.W.keepIn K (.ref f_l_deck) = true)
    {f_l_draw : Addr} {oc_l_draw kV_l_draw dc_l_draw pm_l_draw cd_l_draw ct_l_draw : Value} {od_l_draw an_l_draw : Option Addr} {sl_l_draw : Array (Option Value)}
    (a_l_draw : PySem.W.nsIn K mainGlobals "_law_draw" = some (some (.ref f_l_draw)))
    (l_l_draw : K.lookup f_l_draw = some ⟨oc_l_draw, od_l_draw, .func (PySem.W.fnOf "_law_draw" "_law_draw" (defArgs s_l_draw) (defBody s_l_draw) (defScope s_l_draw) .none kV_l_draw dc_l_draw pm_l_draw an_l_draw cd_l_draw ct_l_draw), sl_l_draw⟩)
    (c_l_draw : PySem.W.codeIn K cd_l_draw "_law_draw" = true)
    (k_l_draw : PySem.W.keepIn K (.ref f_l_draw) = true)
    {f_l_pick : Addr} {oc_l_pick kV_l_pick dc_l_pick pm_l_pick cd_l_pick ct_l_pick : Value} {od_l_pick an_l_pick : Option Addr} {sl_l_pick : Array (Option Value)}
    (a_l_pick : PySem.W.nsIn K mainGlobals "_law_pick" = some (some (.ref f_l_pick)))
    (l_l_pick : K.lookup f_l_pick = some ⟨oc_l_pick, od_l_pick, .func (PySem.W.fnOf "_law_pick" "_law_pick" (defArgs s_l_pick) (defBody s_l_pick) (defScope s_l_pick) .none kV_l_pick dc_l_pick pm_l_pick an_l_pick cd_l_pick ct_l_pick), sl_l_pick⟩)
    (c_l_pick : PySem.W.codeIn K cd_l_pick "_law_pick" = true)
    (k_l_pick : PySem.W.keepIn K (.ref f_l_pick) = true)
    {f_l_net : Addr} {oc_l_net kV_l_net dc_l_net pm_l_net cd_l_net ct_l_net : Value} {od_l_net an_l_net : Option Addr} {sl_l_net : Array (Option Value)}
    (a_l_net : PySem.W.nsIn K mainGlobals "_law_net" = some (some (.ref f_l_net)))
    (l_l_net : K.lookup f_l_net = some ⟨oc_l_net, od_l_net, .func (PySem.W.fnOf "_law_net" "_law_net" (defArgs s_l_net) (defBody s_l_net) (defScope s_l_net) .none kV_l_net dc_l_net pm_l_net an_l_net cd_l_net ct_l_net), sl_l_net⟩)
    (c_l_net : PySem.W.codeIn K cd_l_net "_law_net" = true)
    (k_l_net : PySem.W.keepIn K (.ref f_l_net) = true)
    {f_l_feeds : Addr} {oc_l_feeds kV_l_feeds dc_l_feeds pm_l_feeds cd_l_feeds ct_l_feeds : Value} {od_l_feeds an_l_feeds : Option Addr} {sl_l_feeds : Array (Option Value)}
    (a_l_feeds : PySem.W.nsIn K mainGlobals "_law_feeds" = some (some (.ref f_l_feeds)))
    (l_l_feeds : K.lookup f_l_feeds = some ⟨oc_l_feeds, od_l_feeds, .func (PySem.W.fnOf "_law_feeds" "_law_feeds" (defArgs s_l_feeds) (defBody s_l_feeds) (defScope s_l_feeds) .none kV_l_feeds dc_l_feeds pm_l_feeds an_l_feeds cd_l_feeds ct_l_feeds), sl_l_feeds⟩)
    (c_l_feeds : PySem.W.codeIn K cd_l_feeds "_law_feeds" = true)
    (k_l_feeds : PySem.W.keepIn K (.ref f_l_feeds) = true)
    {f_l_way : Addr} {oc_l_way kV_l_way dc_l_way pm_l_way cd_l_way ct_l_way : Value} {od_l_way an_l_way : Option Addr} {sl_l_way : Array (Option Value)}
    (a_l_way : PySem.W.nsIn K mainGlobals "_law_way" = some (some (.ref f_l_way)))
    (l_l_way : K.lookup f_l_way = some ⟨oc_l_way, od_l_way, .func (PySem.W.fnOf "_law_way" "_law_way" (defArgs s_l_way) (defBody s_l_way) (defScope s_l_way) .none kV_l_way dc_l_way pm_l_way an_l_way cd_l_way ct_l_way), sl_l_way⟩)
    (c_l_way : PySem.W.codeIn K cd_l_way "_law_way" = true)
    (k_l_way : PySem.W.keepIn K (.ref f_l_way) = true)
    {f_l_there_and_back : Addr} {oc_l_there_and_back kV_l_there_and_back dc_l_there_and_back pm_l_there_and_back cd_l_there_and_back ct_l_there_and_back : Value} {od_l_there_and_back an_l_there_and_back : Option Addr} {sl_l_there_and_back : Array (Option Value)}
    (a_l_there_and_back : PySem.W.nsIn K mainGlobals "_law_there_and_back" = some (some (.ref f_l_there_and_back)))
    (l_l_there_and_back : K.lookup f_l_there_and_back = some ⟨oc_l_there_and_back, od_l_there_and_back, .func (PySem.W.fnOf "_law_there_and_back" "_law_there_and_back" (defArgs s_l_there_and_back) (defBody s_l_there_and_back) (defScope s_l_there_and_back) .none kV_l_there_and_back dc_l_there_and_back pm_l_there_and_back an_l_there_and_back cd_l_there_and_back ct_l_there_and_back), sl_l_there_and_back⟩)
    (c_l_there_and_back : PySem.W.codeIn K cd_l_there_and_back "_law_there_and_back" = true)
    (k_l_there_and_back : PySem.W.keepIn K (.ref f_l_there_and_back) = true)
    {f_l_laying : Addr} {oc_l_laying kV_l_laying dc_l_laying pm_l_laying cd_l_laying ct_l_laying : Value} {od_l_laying an_l_laying : Option Addr} {sl_l_laying : Array (Option Value)}
    (a_l_laying : PySem.W.nsIn K mainGlobals "_law_laying" = some (some (.ref f_l_laying)))
    (l_l_laying : K.lookup f_l_laying = some ⟨oc_l_laying, od_l_laying, .func (PySem.W.fnOf "_law_laying" "_law_laying" (defArgs s_l_laying) (defBody s_l_laying) (defScope s_l_laying) .none kV_l_laying dc_l_laying pm_l_laying an_l_laying cd_l_laying ct_l_laying), sl_l_laying⟩)
    (c_l_laying : PySem.W.codeIn K cd_l_laying "_law_laying" = true)
    (k_l_laying : PySem.W.keepIn K (.ref f_l_laying) = true)
    {f_l_delays : Addr} {oc_l_delays kV_l_delays dc_l_delays pm_l_delays cd_l_delays ct_l_delays : Value} {od_l_delays an_l_delays : Option Addr} {sl_l_delays : Array (Option Value)}
    (a_l_delays : PySem.W.nsIn K mainGlobals "_law_delays" = some (some (.ref f_l_delays)))
    (l_l_delays : K.lookup f_l_delays = some ⟨oc_l_delays, od_l_delays, .func (PySem.W.fnOf "_law_delays" "_law_delays" (defArgs s_l_delays) (defBody s_l_delays) (defScope s_l_delays) .none kV_l_delays dc_l_delays pm_l_delays an_l_delays cd_l_delays ct_l_delays), sl_l_delays⟩)
    (c_l_delays : PySem.W.codeIn K cd_l_delays "_law_delays" = true)
    (k_l_delays : PySem.W.keepIn K (.ref f_l_delays) = true)
    {f_l_times : Addr} {oc_l_times kV_l_times dc_l_times pm_l_times cd_l_times ct_l_times : Value} {od_l_times an_l_times : Option Addr} {sl_l_times : Array (Option Value)}
    (a_l_times : PySem.W.nsIn K mainGlobals "_law_times" = some (some (.ref f_l_times)))
    (l_l_times : K.lookup f_l_times = some ⟨oc_l_times, od_l_times, .func (PySem.W.fnOf "_law_times" "_law_times" (defArgs s_l_times) (defBody s_l_times) (defScope s_l_times) .none kV_l_times dc_l_times pm_l_times an_l_times cd_l_times ct_l_times), sl_l_times⟩)
    (c_l_times : PySem.W.codeIn K cd_l_times "_law_times" = true)
    (k_l_times : PySem.W.keepIn K (.ref f_l_times) = true)
    {f_l_put : Addr} {oc_l_put kV_l_put dc_l_put pm_l_put cd_l_put ct_l_put : Value} {od_l_put an_l_put : Option Addr} {sl_l_put : Array (Option Value)}
    (a_l_put : PySem.W.nsIn K mainGlobals "_law_put" = some (some (.ref f_l_put)))
    (l_l_put : K.lookup f_l_put = some ⟨oc_l_put, od_l_put, .func (PySem.W.fnOf "_law_put" "_law_put" (defArgs s_l_put) (defBody s_l_put) (defScope s_l_put) .none kV_l_put dc_l_put pm_l_put an_l_put cd_l_put ct_l_put), sl_l_put⟩)
    (c_l_put : PySem.W.codeIn K cd_l_put "_law_put" = true)
    (k_l_put : PySem.W.keepIn K (.ref f_l_put) = true)
    {f_l_longer : Addr} {oc_l_longer kV_l_longer dc_l_longer pm_l_longer cd_l_longer ct_l_longer : Value} {od_l_longer an_l_longer : Option Addr} {sl_l_longer : Array (Option Value)}
    (a_l_longer : PySem.W.nsIn K mainGlobals "_law_longer" = some (some (.ref f_l_longer)))
    (l_l_longer : K.lookup f_l_longer = some ⟨oc_l_longer, od_l_longer, .func (PySem.W.fnOf "_law_longer" "_law_longer" (defArgs s_l_longer) (defBody s_l_longer) (defScope s_l_longer) .none kV_l_longer dc_l_longer pm_l_longer an_l_longer cd_l_longer ct_l_longer), sl_l_longer⟩)
    (c_l_longer : PySem.W.codeIn K cd_l_longer "_law_longer" = true)
    (k_l_longer : PySem.W.keepIn K (.ref f_l_longer) = true)
    {f_l_grown : Addr} {oc_l_grown kV_l_grown dc_l_grown pm_l_grown cd_l_grown ct_l_grown : Value} {od_l_grown an_l_grown : Option Addr} {sl_l_grown : Array (Option Value)}
    (a_l_grown : PySem.W.nsIn K mainGlobals "_law_grown" = some (some (.ref f_l_grown)))
    (l_l_grown : K.lookup f_l_grown = some ⟨oc_l_grown, od_l_grown, .func (PySem.W.fnOf "_law_grown" "_law_grown" (defArgs s_l_grown) (defBody s_l_grown) (defScope s_l_grown) .none kV_l_grown dc_l_grown pm_l_grown an_l_grown cd_l_grown ct_l_grown), sl_l_grown⟩)
    (c_l_grown : PySem.W.codeIn K cd_l_grown "_law_grown" = true)
    (k_l_grown : PySem.W.keepIn K (.ref f_l_grown) = true)
    {f_law : Addr} {oc_law kV_law dc_law pm_law ct_law : Value} {od_law an_law : Option Addr} {sl_law : Array (Option Value)}
    (a_law : PySem.W.nsIn K mainGlobals "law" = some (some (.ref f_law)))
    (l_law : K.lookup f_law = some ⟨oc_law, od_law, .func (PySem.W.fnOf "law" "law" (defArgs s_law) (defBody s_law) (defScope s_law) .none kV_law dc_law pm_law an_law (.ref cc) ct_law), sl_law⟩)
    (c_law : PySem.W.codeIn K (.ref cc) "law" = true)
    (k_law : PySem.W.keepIn K (.ref f_law) = true)
    (z_all : PySem.W.nsIn K mainGlobals "all" = some none)
    (z_any : PySem.W.nsIn K mainGlobals "any" = some none)
    (z_isinstance : PySem.W.nsIn K mainGlobals "isinstance" = some none)
    (z_len : PySem.W.nsIn K mainGlobals "len" = some none)
    (z_list : PySem.W.nsIn K mainGlobals "list" = some none)
    (z_range : PySem.W.nsIn K mainGlobals "range" = some none)
    (z_enumerate : PySem.W.nsIn K mainGlobals "enumerate" = some none)
    (z_zip : PySem.W.nsIn K mainGlobals "zip" = some none)
    (z_max : PySem.W.nsIn K mainGlobals "max" = some none)
    (z_tuple : PySem.W.nsIn K mainGlobals "tuple" = some none)
    (z_int : PySem.W.nsIn K mainGlobals "int" = some none)
    (z_bool : PySem.W.nsIn K mainGlobals "bool" = some none)
    (z_divmod : PySem.W.nsIn K mainGlobals "divmod" = some none)
    {cF cD : Addr} {d2 d3 : Option Addr} {i2 i3 : Array Value} {n2 n3 : Nat} {s2 s3 : Array (Option Value)}
    (t_2 : PySem.W.nsIn K mainGlobals "FED" = some (some (.ref cF)))
    (t_2a : K.lookup cF = some ⟨.type "tuple", d2, .seq i2 n2, s2⟩)
    (t_2b : Vals [.str "not", .str "and", .str "or", .str "xor"] i2.toList)
    (t_3 : PySem.W.nsIn K mainGlobals "DELAYS" = some (some (.ref cD)))
    (t_3a : K.lookup cD = some ⟨.type "tuple", d3, .seq i3 n3, s3⟩)
    (t_3b : Vals [.int 1, .int 2, .int 3] i3.toList)
    (t_4 : PySem.W.nsIn K kd_slowest "delays" = some (some (.ref cD)))
    {Tb : Addr} {dC : Option Addr} {vC : Array Value} {sC : Array (Option Value)} {fileC : Str} {tfC tgC ttC : Tok} {flC txC : Int} {inC : Bool}
    (u_1 : K.lookup cc = some ⟨.type "code", dC, .fields vC, sC⟩)
    (u_2 : vC[11]? = some (.ref Tb))
    (u_3 : vC.getD 18 .none = .str fileC tfC)
    (u_4 : vC.getD 7 .none = .int flC tgC)
    (u_5 : vC.getD 9 .none = .bool inC)
    (u_6 : vC.getD 10 .none = .int txC ttC)
    (u_7 : cc ≠ Tb)
    (u_8 : K.lookup Tb = none)
    (t_5 : PySem.W.nsIn K kd_slowest_holds "delays" = some (some (.ref cD)))
    : ∃ (fd : FuncData) (c T : Addr) (oc : Value) (od : Option Addr) (sl : Array (Option Value)), K.lookup fa = some ⟨oc, od, .func fd, sl⟩ ∧ fd.code = .ref c ∧ X12.CodeK K c T ∧ (∀ (s : Shared) (v : Value), BindsTo s fd ⟨[v], []⟩ [("_law_script", v)]) ∧ ∀ base : Heap, K.In base → base.Ns mainGlobals mg → LamX.TabB base mg c T → FnG l.prog w K mg base L2.CX0 20 fa fd ["_law_script"] (spLaw K T) := by
  have e := hfa.symm.trans (PySem.W.mg_of X G a_law)
  cases e
  have D_feeds_of := def_mk (ps := ["gate"]) (st := s_feeds_of) X G a_feeds_of l_feeds_of c_feeds_of k_feeds_of (fun _ _ _ _ _ _ us hl => match us, hl with | [_], _ => rfl) (fun _ _ _ _ _ _ _ ws hl => match ws, hl with | [_], _ => rfl)
  have D_brought := def_mk (ps := ["arrivals", "gates", "ways", "g", "step"]) (st := s_brought) X G a_brought l_brought c_brought k_brought (fun _ _ _ _ _ _ us hl => match us, hl with | [_, _, _, _, _], _ => rfl) (fun _ _ _ _ _ _ _ ws hl => match ws, hl with | [_, _, _, _, _], _ => rfl)
  have D_own_delay := def_mk (ps := ["gate", "delays"]) (st := s_own_delay) X G a_own_delay l_own_delay c_own_delay k_own_delay (fun _ _ _ _ _ _ us hl => match us, hl with | [_, _], _ => rfl) (fun _ _ _ _ _ _ _ ws hl => match ws, hl with | [_, _], _ => rfl)
  have D_arrivals_of := def_mk (ps := ["gates", "ways", "delays"]) (st := s_arrivals_of) X G a_arrivals_of l_arrivals_of c_arrivals_of k_arrivals_of (fun _ _ _ _ _ _ us hl => match us, hl with | [_, _, _], _ => rfl) (fun _ _ _ _ _ _ _ ws hl => match ws, hl with | [_, _, _], _ => rfl)
  have D_path_to := def_mk (ps := ["box", "gates", "ways", "arrivals", "step"]) (st := s_path_to) X G a_path_to l_path_to c_path_to k_path_to (fun _ _ _ _ _ _ us hl => match us, hl with | [_, _, _, _, _], _ => rfl) (fun _ _ _ _ _ _ _ ws hl => match ws, hl with | [_, _, _, _, _], _ => rfl)
  have D_is_natural := def_mk (ps := ["thing"]) (st := s_is_natural) X G a_is_natural l_is_natural c_is_natural k_is_natural (fun _ _ _ _ _ _ us hl => match us, hl with | [_], _ => rfl) (fun _ _ _ _ _ _ _ ws hl => match ws, hl with | [_], _ => rfl)
  have D_is_whole := def_mk (ps := ["thing", "end"]) (st := s_is_whole) X G a_is_whole l_is_whole c_is_whole k_is_whole (fun _ _ _ _ _ _ us hl => match us, hl with | [_, _], _ => rfl) (fun _ _ _ _ _ _ _ ws hl => match ws, hl with | [_, _], _ => rfl)
  have D_is_tuple := def_mk (ps := ["thing", "many"]) (st := s_is_tuple) X G a_is_tuple l_is_tuple c_is_tuple k_is_tuple (fun _ _ _ _ _ _ us hl => match us, hl with | [_, _], _ => rfl) (fun _ _ _ _ _ _ _ ws hl => match ws, hl with | [_, _], _ => rfl)
  have D_are_arrivals := def_mk (ps := ["gates", "ways", "thing", "delays"]) (st := s_are_arrivals) X G a_are_arrivals l_are_arrivals c_are_arrivals k_are_arrivals (fun _ _ _ _ _ _ us hl => match us, hl with | [_, _, _, _], _ => rfl) (fun _ _ _ _ _ _ _ ws hl => match ws, hl with | [_, _, _, _], _ => rfl)
  have D_is_path := def_mk (ps := ["gates", "clock", "thing"]) (st := s_is_path) X G a_is_path l_is_path c_is_path k_is_path (fun _ _ _ _ _ _ us hl => match us, hl with | [_, _, _], _ => rfl) (fun _ _ _ _ _ _ _ ws hl => match ws, hl with | [_, _, _], _ => rfl)
  have D_path_time := def_mk (ps := ["gates", "ways", "path", "delays"]) (st := s_path_time) X G a_path_time l_path_time c_path_time k_path_time (fun _ _ _ _ _ _ us hl => match us, hl with | [_, _, _, _], _ => rfl) (fun _ _ _ _ _ _ _ ws hl => match ws, hl with | [_, _, _, _], _ => rfl)
  have D_l_deck := def_mk (ps := ["_law_script"]) (st := s_l_deck) X G a_l_deck l_l_deck c_l_deck k_l_deck (fun _ _ _ _ _ _ us hl => match us, hl with | [_], _ => rfl) (fun _ _ _ _ _ _ _ ws hl => match ws, hl with | [_], _ => rfl)
  have D_l_draw := def_mk (ps := ["_law_deck_here", "_law_sides"]) (st := s_l_draw) X G a_l_draw l_l_draw c_l_draw k_l_draw (fun _ _ _ _ _ _ us hl => match us, hl with | [_, _], _ => rfl) (fun _ _ _ _ _ _ _ ws hl => match ws, hl with | [_, _], _ => rfl)
  have D_l_pick := def_mk (ps := ["_law_deck_here", "_law_some"]) (st := s_l_pick) X G a_l_pick l_l_pick c_l_pick k_l_pick (fun _ _ _ _ _ _ us hl => match us, hl with | [_, _], _ => rfl) (fun _ _ _ _ _ _ _ ws hl => match ws, hl with | [_, _], _ => rfl)
  have D_l_net := def_mk (ps := ["_law_deck_here"]) (st := s_l_net) X G a_l_net l_l_net c_l_net k_l_net (fun _ _ _ _ _ _ us hl => match us, hl with | [_], _ => rfl) (fun _ _ _ _ _ _ _ ws hl => match ws, hl with | [_], _ => rfl)
  have D_l_feeds := def_mk (ps := ["_law_gate"]) (st := s_l_feeds) X G a_l_feeds l_l_feeds c_l_feeds k_l_feeds (fun _ _ _ _ _ _ us hl => match us, hl with | [_], _ => rfl) (fun _ _ _ _ _ _ _ ws hl => match ws, hl with | [_], _ => rfl)
  have D_l_way := def_mk (ps := ["_law_deck_here", "_law_first", "_law_last"]) (st := s_l_way) X G a_l_way l_l_way c_l_way k_l_way (fun _ _ _ _ _ _ us hl => match us, hl with | [_, _, _], _ => rfl) (fun _ _ _ _ _ _ _ ws hl => match ws, hl with | [_, _, _], _ => rfl)
  have D_l_there_and_back := def_mk (ps := ["_law_deck_here", "_law_cell"]) (st := s_l_there_and_back) X G a_l_there_and_back l_l_there_and_back c_l_there_and_back k_l_there_and_back (fun _ _ _ _ _ _ us hl => match us, hl with | [_, _], _ => rfl) (fun _ _ _ _ _ _ _ ws hl => match ws, hl with | [_, _], _ => rfl)
  have D_l_laying := def_mk (ps := ["_law_deck_here", "_law_net_here"]) (st := s_l_laying) X G a_l_laying l_l_laying c_l_laying k_l_laying (fun _ _ _ _ _ _ us hl => match us, hl with | [_, _], _ => rfl) (fun _ _ _ _ _ _ _ ws hl => match ws, hl with | [_, _], _ => rfl)
  have D_l_delays := def_mk (ps := ["_law_deck_here"]) (st := s_l_delays) X G a_l_delays l_l_delays c_l_delays k_l_delays (fun _ _ _ _ _ _ us hl => match us, hl with | [_], _ => rfl) (fun _ _ _ _ _ _ _ ws hl => match ws, hl with | [_], _ => rfl)
  have D_l_times := def_mk (ps := ["_law_net_here", "_law_laying_here", "_law_own"]) (st := s_l_times) X G a_l_times l_l_times c_l_times k_l_times (fun _ _ _ _ _ _ us hl => match us, hl with | [_, _, _], _ => rfl) (fun _ _ _ _ _ _ _ ws hl => match ws, hl with | [_, _, _], _ => rfl)
  have D_l_put := def_mk (ps := ["_law_laying_here", "_law_by"]) (st := s_l_put) X G a_l_put l_l_put c_l_put k_l_put (fun _ _ _ _ _ _ us hl => match us, hl with | [_, _], _ => rfl) (fun _ _ _ _ _ _ _ ws hl => match ws, hl with | [_, _], _ => rfl)
  have D_l_longer := def_mk (ps := ["_law_deck_here", "_law_laying_here"]) (st := s_l_longer) X G a_l_longer l_l_longer c_l_longer k_l_longer (fun _ _ _ _ _ _ us hl => match us, hl with | [_, _], _ => rfl) (fun _ _ _ _ _ _ _ ws hl => match ws, hl with | [_, _], _ => rfl)
  have D_l_grown := def_mk (ps := ["_law_first", "_law_later", "_law_most"]) (st := s_l_grown) X G a_l_grown l_l_grown c_l_grown k_l_grown (fun _ _ _ _ _ _ us hl => match us, hl with | [_, _, _], _ => rfl) (fun _ _ _ _ _ _ _ ws hl => match ws, hl with | [_, _, _], _ => rfl)
  have D_law := def_mk (ps := ["_law_script"]) (st := s_law) X G a_law l_law c_law k_law (fun _ _ _ _ _ _ us hl => match us, hl with | [_], _ => rfl) (fun _ _ _ _ _ _ _ ws hl => match ws, hl with | [_], _ => rfl)
  have M : Bi mg := ⟨PySem.W.mg_none_of X G z_all, PySem.W.mg_none_of X G z_any, PySem.W.mg_none_of X G z_isinstance, PySem.W.mg_none_of X G z_len, PySem.W.mg_none_of X G z_list, PySem.W.mg_none_of X G z_range, PySem.W.mg_none_of X G z_enumerate, PySem.W.mg_none_of X G z_zip, PySem.W.mg_none_of X G z_max, PySem.W.mg_none_of X G z_tuple, PySem.W.mg_none_of X G z_int, PySem.W.mg_none_of X G z_bool, PySem.W.mg_none_of X G z_divmod⟩
  have CK : X12.CodeK K cc Tb := ⟨⟨dC, vC, sC, fileC, tfC, flC, tgC, inC, txC, ttC, u_1, u_2, u_3, u_4, u_5, u_6⟩, u_7, u_8⟩
  have T : Tp K mg cF cD := ⟨⟨_, PySem.W.mg_of X G t_2, rfl⟩, fun H => .inr ⟨_, i2, n2, t_2a, rfl, rfl, vals_few t_2b (by decide), t_2b⟩, ⟨_, PySem.W.mg_of X G t_3, rfl⟩, fun H => .inr ⟨_, i3, n3, t_3a, rfl, rfl, vals_few t_3b (by decide), t_3b⟩⟩
  have F_slowest : FunD K "slowest" "slowest" (defArgs s_slowest) (defBody s_slowest) (defScope s_slowest) [] [("delays", .ref cD)] f_slowest _ := ⟨⟨oc_slowest, od_slowest, .none, .ref kd_slowest, dc_slowest, pm_slowest, an_slowest, cd_slowest, ct_slowest, sl_slowest, rfl, l_slowest, c_slowest, .inl ⟨rfl, rfl⟩, .inr ⟨kd_slowest, rfl, fun q hq => by rw [List.mem_singleton.mp hq]; exact ⟨_, t_4, rfl⟩⟩⟩, k_slowest⟩
  have F_slowest_holds : FunD K "slowest_holds" "slowest_holds" (defArgs s_slowest_holds) (defBody s_slowest_holds) (defScope s_slowest_holds) [] [("delays", .ref cD)] f_slowest_holds _ := ⟨⟨oc_slowest_holds, od_slowest_holds, .none, .ref kd_slowest_holds, dc_slowest_holds, pm_slowest_holds, an_slowest_holds, cd_slowest_holds, ct_slowest_holds, sl_slowest_holds, rfl, l_slowest_holds, c_slowest_holds, .inl ⟨rfl, rfl⟩, .inr ⟨kd_slowest_holds, rfl, fun q hq => by rw [List.mem_singleton.mp hq]; exact ⟨_, t_5, rfl⟩⟩⟩, k_slowest_holds⟩
  refine ⟨PySem.W.fnOf "law" "law" (defArgs s_law) (defBody s_law) (defScope s_law) .none kV_law dc_law pm_law an_law (.ref cc) ct_law, cc, Tb, _, _, _, l_law, rfl, CK, fun s v => .of_eq rfl, fun base _ _ TB => ?_⟩
  · have C_l_draw := ok_draw (P := l.prog) (w := w) (base := base) D_l_draw
    have C_l_deck := ok_deck (P := l.prog) (w := w) (base := base) D_l_deck M
    have C_l_pick := ok_pick D_l_pick M C_l_draw
    have C_feeds_of := ok_feeds (P := l.prog) (w := w) (base := base) D_feeds_of T
    have C_brought := ok_bro D_brought M C_feeds_of
    have C_own_delay := ok_own (P := l.prog) (w := w) (base := base) D_own_delay
    have C_arrivals_of := ok_arrs D_arrivals_of M T C_brought C_own_delay
    have C_path_to := ok_path D_path_to M T C_brought
    have Fs := ok_slow F_slowest M C_brought C_arrivals_of C_path_to
    obtain ⟨_, ⟨gP, hP⟩, _⟩ := slw_binds F_slowest
    have B_P : CalB l.prog w K mg base L2.CX0 4 "slowest" pSl (spSlow K) 3 ["delays"] gvP := ⟨_, _, gP, Fs, PySem.W.mg_of X G a_slowest, k_slowest, hP⟩
    have C_is_natural := ok_nat (P := l.prog) (w := w) (base := base) D_is_natural M
    have C_is_whole := ok_whole D_is_whole M C_is_natural
    have C_is_tuple := ok_tupM (P := l.prog) (w := w) (base := base) D_is_tuple M
    have C_are_arrivals := ok_arr D_are_arrivals M T C_is_natural C_is_tuple C_own_delay C_brought
    have C_is_path := ok_isp D_is_path M T C_is_whole C_feeds_of
    have C_path_time := ok_pt D_path_time M T C_own_delay C_feeds_of
    have Fh := ok_hold F_slowest_holds M C_is_natural C_is_tuple C_brought C_are_arrivals C_is_path C_path_time
    obtain ⟨gH, hH⟩ := sh_binds F_slowest_holds
    have B_H := (⟨_, _, gH, Fh, PySem.W.mg_of X G a_slowest_holds, k_slowest_holds, hH⟩ : CalB l.prog w K mg base L2.CX0 4 "slowest_holds" pSh (spHold K) 4 ["delays"] gvP)
    have C_l_feeds := ok_l_feeds (P := l.prog) (w := w) (base := base) D_l_feeds M
    have C_l_net := ok_l_net D_l_net M C_l_draw C_l_pick
    have C_l_way := ok_l_way D_l_way M C_l_draw
    have C_l_there_and_back := ok_l_back D_l_there_and_back M C_l_draw
    have C_l_delays := ok_l_del D_l_delays M C_l_draw
    have C_l_laying := ok_l_lay D_l_laying M C_l_draw C_l_feeds C_l_way C_l_there_and_back
    have C_l_times := ok_times D_l_times M B_P B_H
    have C_l_put := ok_put (P := l.prog) (w := w) (base := base) D_l_put M
    have C_l_longer := ok_longer D_l_longer M C_l_pick
    have C_l_grown := ok_grown (P := l.prog) (w := w) (base := base) D_l_grown M
    exact ok_law M TB l_law c_law C_l_deck C_l_draw C_l_net C_l_laying C_l_delays C_l_times C_l_put C_l_longer C_l_grown
end K53
open PySem PySem.W PyProof.Rows
set_option maxRecDepth 100000 in
set_option maxHeartbeats 0 in
theorem PySem.Challenge.cw_wiretongue_k53_whole_delays_put_otherwis_holds : PySem.Challenge.rw_wiretongue_k53_whole_delays_put_otherwis.Holds := by
  w_on; o_law; k_head; (case hw => w_witness2)
  k_fill
  refine X12.walk_ofT (l := PySem.Challenge.rw_wiretongue_k53_whole_delays_put_otherwis) (n := 63) (k := 20) (x := "_law_script") (CX := fun _ => L2.CX0) (sp := fun w T => K53.spLaw _ T) rfl (by decide) rfl ⟨rfl, by decide, by decide⟩ ?R (fun w h Y => PySem.W.km_in_of Y) ?F (fun _ _ _ a ns hl hb hT hS => ⟨a, ns, rfl, hT, hS, hl, hb, fun _ => rfl⟩) (fun _ _ _ _ _ h => h)
  case R => first | rfl | decide +kernel
  case F =>
    intro w mg fa h KX G hmg
    refine' K53.all_mk KX G hmg ?a_feeds_of ?l_feeds_of ?c_feeds_of ?k_feeds_of ?a_brought ?l_brought ?c_brought ?k_brought ?a_own_delay ?l_own_delay ?c_own_delay ?k_own_delay ?a_arrivals_of ?l_arrivals_of ?c_arrivals_of ?k_arrivals_of ?a_path_to ?l_path_to ?c_path_to ?k_path_to ?a_slowest ?l_slowest ?c_slowest ?k_slowest ?a_is_natural ?l_is_natural ?c_is_natural ?k_is_natural ?a_is_whole ?l_is_whole ?c_is_whole ?k_is_whole ?a_is_tuple ?l_is_tuple ?c_is_tuple ?k_is_tuple ?a_are_arrivals ?l_are_arrivals ?c_are_arrivals ?k_are_arrivals ?a_is_path ?l_is_path ?c_is_path ?k_is_path ?a_path_time ?l_path_time ?c_path_time ?k_path_time ?a_slowest_holds ?l_slowest_holds ?c_slowest_holds ?k_slowest_holds ?a_l_deck ?l_l_deck ?c_l_deck ?k_l_deck ?a_l_draw ?l_l_draw ?c_l_draw ?k_l_draw ?a_l_pick ?l_l_pick ?c_l_pick ?k_l_pick ?a_l_net ?l_l_net ?c_l_net ?k_l_net ?a_l_feeds ?l_l_feeds ?c_l_feeds ?k_l_feeds ?a_l_way ?l_l_way ?c_l_way ?k_l_way ?a_l_there_and_back ?l_l_there_and_back ?c_l_there_and_back ?k_l_there_and_back ?a_l_laying ?l_l_laying ?c_l_laying ?k_l_laying ?a_l_delays ?l_l_delays ?c_l_delays ?k_l_delays ?a_l_times ?l_l_times ?c_l_times ?k_l_times ?a_l_put ?l_l_put ?c_l_put ?k_l_put ?a_l_longer ?l_l_longer ?c_l_longer ?k_l_longer ?a_l_grown ?l_l_grown ?c_l_grown ?k_l_grown ?a_law ?l_law ?c_law ?k_law ?z_all ?z_any ?z_isinstance ?z_len ?z_list ?z_range ?z_enumerate ?z_zip ?z_max ?z_tuple ?z_int ?z_bool ?z_divmod ?t_2 ?t_2a ?t_2b ?t_3 ?t_3a ?t_3b ?t_4 ?u_1 ?u_2 ?u_3 ?u_4 ?u_5 ?u_6 ?u_7 ?u_8 ?t_5
    (case a_feeds_of => k_is)
    (case l_feeds_of => k_is)
    (case c_feeds_of => k_is)
    (case k_feeds_of => k_is)
    (case a_brought => k_is)
    (case l_brought => k_is)
    (case c_brought => k_is)
    (case k_brought => k_is)
    (case a_own_delay => k_is)
    (case l_own_delay => k_is)
    (case c_own_delay => k_is)
    (case k_own_delay => k_is)
    (case a_arrivals_of => k_is)
    (case l_arrivals_of => k_is)
    (case c_arrivals_of => k_is)
    (case k_arrivals_of => k_is)
    (case a_path_to => k_is)
    (case l_path_to => k_is)
    (case c_path_to => k_is)
    (case k_path_to => k_is)
    (case a_slowest => k_is)
    (case l_slowest => k_is)
    (case c_slowest => k_is)
    (case k_slowest => k_is)
    (case a_is_natural => k_is)
    (case l_is_natural => k_is)
    (case c_is_natural => k_is)
    (case k_is_natural => k_is)
    (case a_is_whole => k_is)
    (case l_is_whole => k_is)
    (case c_is_whole => k_is)
    (case k_is_whole => k_is)
    (case a_is_tuple => k_is)
    (case l_is_tuple => k_is)
    (case c_is_tuple => k_is)
    (case k_is_tuple => k_is)
    (case a_are_arrivals => k_is)
    (case l_are_arrivals => k_is)
    (case c_are_arrivals => k_is)
    (case k_are_arrivals => k_is)
    (case a_is_path => k_is)
    (case l_is_path => k_is)
    (case c_is_path => k_is)
    (case k_is_path => k_is)
    (case a_path_time => k_is)
    (case l_path_time => k_is)
    (case c_path_time => k_is)
    (case k_path_time => k_is)
    (case a_slowest_holds => k_is)
    (case l_slowest_holds => k_is)
    (case c_slowest_holds => k_is)
    (case k_slowest_holds => k_is)
    (case a_l_deck => k_is)
    (case l_l_deck => k_is)
    (case c_l_deck => k_is)
    (case k_l_deck => k_is)
    (case a_l_draw => k_is)
    (case l_l_draw => k_is)
    (case c_l_draw => k_is)
    (case k_l_draw => k_is)
    (case a_l_pick => k_is)
    (case l_l_pick => k_is)
    (case c_l_pick => k_is)
    (case k_l_pick => k_is)
    (case a_l_net => k_is)
    (case l_l_net => k_is)
    (case c_l_net => k_is)
    (case k_l_net => k_is)
    (case a_l_feeds => k_is)
    (case l_l_feeds => k_is)
    (case c_l_feeds => k_is)
    (case k_l_feeds => k_is)
    (case a_l_way => k_is)
    (case l_l_way => k_is)
    (case c_l_way => k_is)
    (case k_l_way => k_is)
    (case a_l_there_and_back => k_is)
    (case l_l_there_and_back => k_is)
    (case c_l_there_and_back => k_is)
    (case k_l_there_and_back => k_is)
    (case a_l_laying => k_is)
    (case l_l_laying => k_is)
    (case c_l_laying => k_is)
    (case k_l_laying => k_is)
    (case a_l_delays => k_is)
    (case l_l_delays => k_is)
    (case c_l_delays => k_is)
    (case k_l_delays => k_is)
    (case a_l_times => k_is)
    (case l_l_times => k_is)
    (case c_l_times => k_is)
    (case k_l_times => k_is)
    (case a_l_put => k_is)
    (case l_l_put => k_is)
    (case c_l_put => k_is)
    (case k_l_put => k_is)
    (case a_l_longer => k_is)
    (case l_l_longer => k_is)
    (case c_l_longer => k_is)
    (case k_l_longer => k_is)
    (case a_l_grown => k_is)
    (case l_l_grown => k_is)
    (case c_l_grown => k_is)
    (case k_l_grown => k_is)
    (case a_law => k_is)
    (case l_law => k_is)
    (case c_law => k_is)
    (case k_law => k_is)
    (case z_all => k_is)
    (case z_any => k_is)
    (case z_isinstance => k_is)
    (case z_len => k_is)
    (case z_list => k_is)
    (case z_range => k_is)
    (case z_enumerate => k_is)
    (case z_zip => k_is)
    (case z_max => k_is)
    (case z_tuple => k_is)
    (case z_int => k_is)
    (case z_bool => k_is)
    (case z_divmod => k_is)
    (case t_2 => k_is)
    (case t_2a => k_is)
    (case t_2b => (repeat (first | exact Paired.nil | refine Paired.cons ⟨_, rfl⟩ ?_)))
    (case t_3 => k_is)
    (case t_3a => k_is)
    (case t_3b => (repeat (first | exact Paired.nil | refine Paired.cons ⟨_, rfl⟩ ?_)))
    (case t_4 => k_is)
    (case u_1 => k_is)
    (case u_2 => (exact rfl))
    (case u_3 => (exact rfl))
    (case u_4 => (exact rfl))
    (case u_5 => (exact rfl))
    (case u_6 => (exact rfl))
    (case u_7 => (decide))
    (case u_8 => (first | k_is | rfl))
    (case t_5 => k_is)

