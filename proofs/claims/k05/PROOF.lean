import PyProof.Rows.All
import Wide.All
import OpenK.AllK
import Wide.FinOn
import HandS.ForMost
import HandS.Style
import HandS.IsInst
import HandS.EndBits
import HandS.MakeKwOnly
import KE.IntBitsLaws
import HandS.Codes
import HandS.WrittenGet
import HandS.Star
import HandS.TupMul
import PySem.Challenge.RW_wiretongue_k05_whole_written_and_read_ag
set_option Elab.async false
set_option linter.all false
set_option maxRecDepth 100000
set_option maxHeartbeats 4000000
/-! promises of defs that may show things: what runs around holds nothing that is being shown -/
namespace Kit
open PySem PySem.Spec PyProof.Rows L2

/-- nothing is being shown -/
abbrev Qt (A : Around) : Prop := A.guards = some []
theorem Qt.deeper {A : Around} (h : Qt A) (env : Env) : Qt (A.deeper env) := h

structure FnG (P : Program) (w : World) (K : PySem.W.Frag) (mg : Str → Option Value)
    (base : Heap) (CX : CXT) (k : Nat) (f : Addr) (fd : FuncData) (ps : List Str) (sp : Sp) : Prop where
  len : ∀ vs H Q E, sp vs H Q E → vs.length = ps.length
  run : ∀ (A : Around) (outer : List Env) (s : Shared) (H : Hp) (args : Args) (us : List Value)
    (vs : List V) (Q : VK) (E : XK), Qt A → Room k A → Env0 P w K mg base A outer s H →
    BindsTo s fd args (ps.zip us) → Vals vs us → sp vs H Q E →
    codeAny (model P w) A (.call (.ref f) args) (CR CX outer P w H s Q E) s

section
variable {P : Program} {w : World} {K : PySem.W.Frag} {mg : Str → Option Value} {base : Heap} {CX : CXT}

theorem FnG.of {k : Nat} {f : Addr} {fd : FuncData} {ps : List Str} {sp : Sp}
    (F : FnOk P w K mg base CX k f fd ps sp) : FnG P w K mg base CX k f fd ps sp :=
  ⟨F.len, fun A outer s H args us vs Q E _ => F.run A outer s H args us vs Q E⟩

/-- by its body -/
theorem fn_ofG {k : Nat} {f : Addr} {name qual : Str} {params : Arguments} {body : List Stmt} {scope : Scope}
    {dV kV doc pm cdv ct oc : Value} {an od : Option Addr} {osl : Array (Option Value)} {N ps : List Str} {sp : Sp}
    (lk : K.lookup f = some ⟨oc, od, .func (PySem.W.fnOf name qual params body scope dV kV doc pm an cdv ct), osl⟩)
    (hcd : PySem.W.codeIn K cdv qual = true) (S : FnScope N ps scope)
    (len : ∀ vs H Q E, sp vs H Q E → vs.length = ps.length)
    (hbody : ∀ (A : Around) (outer : List Env) (s : Shared) (H : Hp) (vs : List V) (Q : VK) (E : XK),
      Qt (A.deeper (envOfC qual scope s.heap.objs.size f cdv)) →
      Room k (A.deeper (envOfC qual scope s.heap.objs.size f cdv)) → sp vs H Q E →
      ∃ t, PSs (cxOf CX P w K mg base N qual scope f cdv A outer s H E) body t ∧
        t { nx := fun _ H' => Q .non H', rt := Q } (start N vs) H) :
    FnG P w K mg base CX (k + 1) f (PySem.W.fnOf name qual params body scope dV kV doc pm an cdv ct) ps sp := by
  refine ⟨len, ?_⟩
  intro A outer s H args us vs Q E hq hr e0 hb r hsp
  have hl := len _ _ _ _ hsp
  have kept : ∀ b o, base.get? b = some o → s.heap.get? b = some o := fun b o e => (e0.bs b o e).1
  have KX : K.In s.heap := e0.mod.kin.keeps kept
  have lim : s.heap.NoLimit := e0.mod.nolimit.keeps kept
  have hkind : ∀ y ∈ ps.zip us, scope.names.lookup y.1 = some .local ∨
      (scope.names.lookup y.1 = some .cell ∧
        ((cellsFrom (s.heap.objs.size + 1) scope.names []).lookup y.1).isSome = true) := by
    intro y hy
    rcases S.par y.1 (List.of_mem_zip (a := y.1) (b := y.2) hy).1 with q | q
    · exact .inl q
    · exact .inr ⟨q, PySem.W.cellsFrom_some _ _ _ (.inl q)⟩
  refine codeAny_call_function hr.depth (KX _ _ lk) rfl S.co S.gen rfl
    (PySem.W.codeRec_of KX hcd) (hb _ _ _ _ ?_)
  refine wpAny_newFunctionEnv_cells S.kind hkind fun env he s1 x => ?_
  subst he
  refine ⟨lim.keeps x.toInCall.keep, codeAny_func ?_⟩
  obtain ⟨t, ht, go⟩ := hbody A outer s H vs Q E (hq.deeper _) (hr.deeper _) hsp
  have I : Inv (cxOf CX P w K mg base N qual scope f cdv A outer s H E) [] (start N vs) H s1 :=
    inv_start S hr.hd e0 hl r x
  refine wpAny_mono (ht.run [] s1 (start N vs) H _ I go) (fun fl s' hs => ?_) fun e s' hs => hs
  cases fl with
  | ret u =>
    obtain ⟨v, σ', H', J, rv, q⟩ := hs
    exact ⟨v, H', J.os, J.bare, J.base, J.hok, rv, q⟩
  | next =>
    obtain ⟨σ', H', J, q⟩ := hs
    exact ⟨V.non, H', J.os, J.bare, J.base, J.hok, rfl, q⟩
  | brk => obtain ⟨_, _, _, q⟩ := hs; exact False.elim q
  | cont => obtain ⟨_, _, _, q⟩ := hs; exact False.elim q
end

section
variable {X : Cx} {CX : CXT} {k : Nat} {f : Addr} {fd : FuncData} {ps : List Str} {sp : Sp} {ds : List Value} {dvs : List V} {E : XK}

theorem run_fnG {pins : List (Addr × Obj)} {σ : L2.St} {H : Hp} {s : Shared} {Q : VK} {us ws : List Value} {vs zs : List V} {ks : List Str}
    {g : List Value → List Value → List Value} {gV : List V → List V → List V}
    (F : FnG X.prog X.w X.K X.mg X.base CX k f fd ps sp) (hq : Qt X.A) (hr : Room k X.A)
    (hb : KBinds X.K fd ps ks g gV) (hx : Passes CX X E) (I : Inv X pins σ H s) (r : Vals vs us) (rz : Vals zs ws)
    (h : sp (gV vs zs) H Q E) :
    wpAny (model X.prog X.w) X.A (call (.ref f) us (ks.zip ws)) (EP X pins σ Q) X.xe s := by
  have r2 := hb.rel r rz
  have hl : (g us ws).length = ps.length := by
    rw [← r2.length]
    exact F.len _ _ _ _ h
  have z := F.run X.A X.stack s H ⟨us, ks.zip ws⟩ (g us ws) (gV vs zs) Q E hq hr I.env0 (hb.to s us ws I.kIn hl) r2 h
  refine wpAny_call (codeAny_mono z ?_)
  intro o s' ho
  match o, ho with
  | .error e, ho => exact hx pins σ H s e s' I ho
  | .ok (.ret u), ho => exact I.after ho
  | .ok .next, ho => exact False.elim ho
  | .ok .brk, ho => exact False.elim ho
  | .ok .cont, ho => exact False.elim ho

/-- all by their names, or nothing -/
def gK {α : Type} : List α → List α → List α
  | [], ws => ws
  | _ :: _, _ => []

/-- a def of the module that may be called by its name, all parameters given -/
structure Cal (P : Program) (w : World) (K : PySem.W.Frag) (mg : Str → Option Value)
    (base : Heap) (CX : CXT) (k : Nat) (x : Str) (ps : List Str) (sp : Sp) : Prop where
  ex : ∃ (f : Addr) (fd : FuncData), FnG P w K mg base CX k f fd ps sp ∧ mg x = some (.ref f) ∧
    PySem.W.keepIn K (.ref f) = true ∧ Binds K fd ps [] ∧
    (ps ≠ [] → KBinds K fd ps ps gK gK)

variable {x : Str} {p pos : Pos} {e : Expr} {es : List Expr} {kws : List Keyword} {t tk : TA} {j : Nat}

theorem kb_of {fd : FuncData} (hb : Binds X.K fd ps []) : KBinds X.K fd ps [] (fun us _ => us) (fun vs _ => vs) :=
  ⟨fun s us ws hK hl => by
    have z := hb s us hK (by rw [List.append_nil]; exact hl)
    rw [List.append_nil] at z
    exact z, fun r _ => r⟩

theorem pe_c (c : Cal X.prog X.w X.K X.mg X.base CX k x ps sp) (hx : Passes CX X E) (hq : Qt X.A) (hr : Room j X.A) (hk : k ≤ j)
    (hg : Gl X x) (ha : PA X (e :: es) t) (hdb : (x == ("__debug__" : Str)) = false := by decide)
    (he : starEach (e :: es) X.env = (false, eval e X.env) :: starEach es X.env := by rfl)
    (hpl : (backTo pos (starEach es X.env)).any (·.1) = false := by rfl) :
    PE X (.Call (.Name x p) (e :: es) [] pos) (tCall sp [] E t) := by
  obtain ⟨f, fd, F, hm, hkp, hb, _⟩ := c.ex
  constructor
  intro pins s σ H Q I h
  refine wpAny_Call_Name_kw (ld_glob I hg hm ?_ hdb)
  refine PySem.W.callWith_K (h₀ := X.base) I.ok.mod.kin hkp ?_ he hpl
  refine thn (ha.run pos pins s σ H _ I h) ?_
  rintro us s1 ⟨vs, H1, I1, r, q⟩
  rw [List.append_nil] at q
  exact ⟨I1.kIn, run_fnG (ks := []) (ws := []) F hq (hr.mono hk) (kb_of hb) hx I1 r .nil q⟩

theorem pe_c0 (c : Cal X.prog X.w X.K X.mg X.base CX k x ps sp) (hx : Passes CX X E) (hq : Qt X.A) (hr : Room j X.A) (hk : k ≤ j)
    (hg : Gl X x) (hdb : (x == ("__debug__" : Str)) = false := by decide) :
    PE X (.Call (.Name x p) [] [] pos) (tCall sp [] E tNil) := by
  obtain ⟨f, fd, F, hm, hkp, hb, _⟩ := c.ex
  constructor
  intro pins s σ H Q I h
  refine wpAny_Call_Name_kw (ld_glob I hg hm ?_ hdb)
  exact PySem.W.callWith_K0 I.kIn hkp (run_fnG (ks := []) (us := []) (ws := []) F hq (hr.mono hk) (kb_of hb) hx I .nil .nil h)

/-- all by their names, in the parameters' order -/
theorem pe_cK (c : Cal X.prog X.w X.K X.mg X.base CX k x ps sp) (hx : Passes CX X E) (hq : Qt X.A) (hr : Room j X.A) (hk : k ≤ j)
    (hg : Gl X x) (h0 : ps ≠ []) (hkw : PK X kws tk)
    (hall : (backToKw pos (keywordEach kws X.env)).all (·.1.isSome) = true := by rfl)
    (hks : (backToKw pos (keywordEach kws X.env)).filterMap (·.1) = ps := by rfl)
    (hdb : (x == ("__debug__" : Str)) = false := by decide)
    (hpl : ((backTo pos (starEach [] X.env)).any (·.1) || (backToKw pos (keywordEach kws X.env)).any (·.1.isNone)) = false := by rfl) :
    PE X (.Call (.Name x p) [] kws pos) (tCall sp [] E tk) := by
  obtain ⟨f, fd, F, hm, hkp, _, hb⟩ := c.ex
  constructor
  intro pins s σ H Q I h
  refine wpAny_Call_Name_kw (ld_glob I hg hm ?_ hdb)
  refine PySem.W.callWith_KW0 (h₀ := X.base) I.ok.mod.kin hkp hall ?_ hpl
  refine thn (hkw.run pos pins s σ H _ I h) ?_
  rintro ws s1 ⟨zs, H1, I1, r, q⟩
  rw [List.append_nil] at q
  refine ⟨I1.kIn, ?_⟩
  rw [hks]
  exact run_fnG (us := []) (vs := []) F hq (hr.mono hk) (hb h0) hx I1 .nil r q
end

section
variable {P : Program} {w : World} {K : PySem.W.Frag} {mg : Str → Option Value} {base : Heap}
theorem kb_all {fd : FuncData} {ps : List Str} (h0 : ps ≠ [])
    (h : ∀ ws : List Value, ws.length = ps.length → bindArgs fd ⟨[], ps.zip ws⟩ = pure (ps.zip ws)) : KBinds K fd ps ps gK gK where
  to := fun s us ws _ hl => by
    cases us with
    | nil => exact .of_eq (h ws hl)
    | cons u us =>
      exfalso
      cases ps with
      | nil => exact h0 rfl
      | cons y ps => cases hl
  rel := fun {vs us zs ws} r rz => by
    cases r with
    | nil => exact rz
    | cons _ _ => exact .nil
/-- a def by its body; nothing leaves it by a raise -/
theorem fng_of {x0 x : Str} {st : Stmt} {f : Addr} {fd : FuncData} {N ps : List Str} {k : Nat} {sp : Sp}
    (F : L2.Fun K x0 x st f fd)
    (S : FnScope N ps (defScope st)) (len : ∀ vs H Q E, sp vs H Q E → vs.length = ps.length)
    (hbody : ∀ (cdv : Value) (A : Around) (outer : List Env) (s : Shared) (H : Hp) (vs : List V) (Q : VK) (E : XK),
      Qt (A.deeper (envOfC x (defScope st) s.heap.objs.size f cdv)) →
      Room k (A.deeper (envOfC x (defScope st) s.heap.objs.size f cdv)) → sp vs H Q E →
      ∃ t, PSs (cxOf L2.CX0 P w K mg base N x (defScope st) f cdv A outer s H E).nox (defBody st) t ∧
        t { nx := fun _ H' => Q .non H', rt := Q } (start N vs) H) :
    FnG P w K mg base L2.CX0 (k + 1) f fd ps sp := by
  obtain ⟨oc, od, kV, doc, pm, an, cdv, ct, osl, rfl, lk, hcd⟩ := F.ex
  refine fn_ofG lk hcd S len ?_
  intro A outer s H vs Q E hq hr hsp
  obtain ⟨t, h, q⟩ := hbody cdv A outer s H vs Q E hq hr hsp
  exact ⟨t, h.nox, q⟩
theorem cal_of {x : Str} {st : Stmt} {f : Addr} {fd : FuncData} {N ps : List Str} {k : Nat} {sp : Sp}
    (F : L2.Fun K x x st f fd) (hm : mg x = some (.ref f)) (hb : Binds K fd ps []) (hkb : ps ≠ [] → KBinds K fd ps ps gK gK)
    (S : FnScope N ps (defScope st)) (len : ∀ vs H Q E, sp vs H Q E → vs.length = ps.length)
    (hbody : ∀ (cdv : Value) (A : Around) (outer : List Env) (s : Shared) (H : Hp) (vs : List V) (Q : VK) (E : XK),
      Qt (A.deeper (envOfC x (defScope st) s.heap.objs.size f cdv)) →
      Room k (A.deeper (envOfC x (defScope st) s.heap.objs.size f cdv)) → sp vs H Q E →
      ∃ t, PSs (cxOf L2.CX0 P w K mg base N x (defScope st) f cdv A outer s H E).nox (defBody st) t ∧
        t { nx := fun _ H' => Q .non H', rt := Q } (start N vs) H) :
    Cal P w K mg base L2.CX0 (k + 1) x ps sp :=
  ⟨f, fd, fng_of F S len hbody, hm, F.kp, hb, hkb⟩

/-- the law's call, from the world outside -/
theorem law_callG {mb : Str → Option Value} {CX : CXT} {k : Nat} {fa a : Addr} {fd : FuncData} {x : Str} {sp : Sp}
    {s₁ : Shared} {vs : List Value} {ns : List Int}
    (KX : K.In s₁.heap) (hns : s₁.heap.Ns mainGlobals mg) (hb : s₁.heap.Ns builtinsNs mb)
    (hbb : ∀ x : Str, x ≠ "__name__" → mb x = bootBuiltins x) (hlim : s₁.heap.NoLimit) (hg : s₁.gens = #[])
    (ha : s₁.heap.get? a = some { cls := .type "list", data := .seq vs.toArray }) (hi : IntsAre vs ns)
    (hl : ns.length ≤ sizeLine) (hr : Room k callerA)
    (F : ∀ base : Heap, K.In base → base.Ns mainGlobals mg → FnG P w K mg base CX k fa fd [x] sp)
    (hbind : ∀ (s : Shared) (u : Value), BindsTo s fd ⟨[u], []⟩ [(x, u)])
    (hsp : ∀ H : Hp, Only H → SqL K H a (ns.map V.int) → sp [.ref a] H (fun v _ => v = .bl true) fun _ _ _ => False)
    (hCX : ∀ H e s', CX [] H s₁ (fun _ _ _ => False) e s' → False) :
    codeAny (model P w) callerA (.call (.ref fa) ⟨[.ref a], []⟩)
      (fun r s' => r = .ok (.ret (.bool true)) ∧ OldK s₁.heap s'.heap ∧ s'.os = s₁.os ∧ AllBare s'.gens) s₁ := by
  have rv := vals_ints hi
  have lenV := hi.length
  -- over any abstract heap that tracks the script at most
  have inner : ∀ H : Hp, Only H → SqL K H a (ns.map V.int) → HOk P w H s₁.heap → (∀ b, H b ≠ none → b = a) →
      (H a ≠ none → K.lookup a = none) →
      codeAny (model P w) callerA (.call (.ref fa) ⟨[.ref a], []⟩)
        (fun r s' => r = .ok (.ret (.bool true)) ∧ OldK s₁.heap s'.heap ∧ s'.os = s₁.os ∧ AllBare s'.gens) s₁ := by
    intro H hO hS hok hA hK
    have one : ∀ {b : Addr} {u : HO}, H b = some u → b = a := fun {b u} z => hA b (by rw [z]; simp)
    have noD : ∀ {b : Addr} {o : Obj} {es : Array DictEntry} {ep : Nat},
        s₁.heap.get? b = some o → o.data = .dict es ep → H b = none := by
      intro b o es ep e d
      cases q : H b with
      | none => rfl
      | some u =>
        obtain rfl := one q
        rw [ha] at e
        cases e
        have d' : Data.seq vs.toArray _ = Data.dict es ep := d
        cases d'
    have nsK : ∀ {b : Addr} {m : Str → Option Value}, s₁.heap.Ns b m → (hidT s₁.heap H).Ns b m := by
      rintro b m ⟨o, es, ep, e, d, r⟩
      exact ⟨o, es, ep, hidT_get e (noD e d), d, r⟩
    have hKb : K.In (hidT s₁.heap H) := by
      intro b o e
      refine hidT_get (KX b o e) ?_
      cases q : H b with
      | none => rfl
      | some u =>
        obtain rfl := one q
        rw [hK (by rw [q]; simp)] at e
        cases e
    obtain ⟨mc, l1, l2⟩ := hlim
    have hM : Mod K mg (hidT s₁.heap H) := ⟨hKb, nsK hns, ⟨mb, nsK hb, hbb⟩, mc, nsK l1, l2⟩
    have no0 : ∀ b : Addr, b ∈ ([] : List Addr) → False := fun b z => by simp at z
    have e0 : Env0 P w K mg (hidT s₁.heap H) callerA [] s₁ H :=
      ⟨rfl, hM, fun b o e => of_hidT e, Nat.le_of_eq (hidT_size _ _), trivial, fun b z => (no0 b z).elim, hok, .of_eq hg⟩
    have go := (F _ hKb (nsK hns)).run callerA [] s₁ H ⟨[.ref a], []⟩ [.ref a] [.ref a] _ _ rfl hr e0
      (hbind s₁ (.ref a)) (.cons rfl .nil) (hsp H hO hS)
    refine codeAny_mono go ?_
    intro r s' h
    match r, h with
    | .error e, h => exact (hCX H e s' h).elim
    | .ok .next, h => exact False.elim h
    | .ok .brk, h => exact False.elim h
    | .ok .cont, h => exact False.elim h
    | .ok (.ret u), h =>
      obtain ⟨v, H', os, bare, un, hok', r', q⟩ := h
      have q' : v = .bl true := q
      subst q'
      obtain rfl : u = Value.bool true := r'
      refine ⟨rfl, OldK.of_keep ?_, os, bare⟩
      intro b o e
      cases q : H b with
      | none => exact un.keep b o e q (no0 b) (by simp)
      | some u =>
        rcases hO b with z | ⟨ob, xs, z⟩
        · rw [q] at z
          cases z
        · obtain ⟨e1, _⟩ := hok b _ z
          obtain ⟨e2, _⟩ := hok' b _ (un.frzs b ob _ z)
          rw [e] at e1
          cases e1
          exact e2
  cases hk : K.lookup a with
  | some o =>
    have e := KX a o hk
    rw [ha] at e
    cases e
    have sz : vs.toArray.size ≤ sizeLine := by
      rw [List.size_toArray, lenV]
      exact hl
    refine inner (fun _ => none) (fun _ => .inl rfl) (.inr ⟨_, vs.toArray, _, hk, rfl, rfl, rfl, sz, by simpa using rv⟩) ?_ ?_ ?_
    · intro b u z
      have z' : (none : Option HO) = some u := z
      cases z'
    · exact fun b z => absurd rfl z
    · exact fun z => absurd rfl z
  | none =>
    let u : HO := .frz { cls := .type "list", data := .seq vs.toArray } (.lst (ns.map V.int))
    have yes : ∀ {b : Addr}, b = a → (if b = a then some u else none) = some u := fun h => if_pos h
    have no : ∀ {b : Addr}, ¬ b = a → (if b = a then some u else none) = none := fun h => if_neg h
    refine inner (fun b => if b = a then some u else none) ?_ (.inl (.inr ⟨_, yes rfl⟩)) ?_ ?_ fun _ => hk
    · intro b
      by_cases hb : b = a
      · exact .inr ⟨_, _, yes hb⟩
      · exact .inl (no hb)
    · intro b v z
      by_cases hb : b = a
      · have z' := (yes hb).symm.trans z
        cases z'
        subst hb
        refine ⟨ha, ?_, vs, _, rv, ha⟩
        rw [List.length_map]
        exact hl
      · have z' := (no hb).symm.trans z
        cases z'
    · intro b z
      by_cases hb : b = a
      · exact hb
      · exact absurd (no hb) z
end

/-- the goal of the head, from the law's promise -/
theorem walk_ofG {l : PySem.W.OpenLaw} {n k : Nat} {q : Program} {loose : List Str} {XP : (Str → Option Value) → Heap → Prop}
    {YP : World → Heap → Prop} {d : DefRec} {K : Params → PySem.W.Frag} {CX : World → CXT} {sp : World → Sp} {x : Str}
    (hn : l.most = some n) (hn2 : n ≤ sizeLine) (hdf : d.params.defaults = []) (hr : Room k callerA)
    (hY : ∀ (w : World) (h : Heap), YP w h → (K w.params).In h)
    (F : ∀ (w : World) (mg : Str → Option Value) (fa : Addr) (h : Heap), (K w.params).In h → h.Ns mainGlobals mg →
      mg d.name = some (.ref fa) →
      ∃ fd : FuncData, (∀ (s : Shared) (u : Value), BindsTo s fd ⟨[u], []⟩ [(x, u)]) ∧
        ∀ base : Heap, (K w.params).In base → base.Ns mainGlobals mg → FnG l.prog w (K w.params) mg base (CX w) k fa fd [x] (sp w))
    (hsp : ∀ (w : World) (H : Hp) (a : Addr) (ns : List Int), ns.length ≤ n →
      (∀ z ∈ ns, Builtin.Int.intBits z ≤ 1048576) → Only H → SqL (K w.params) H a (ns.map V.int) →
      sp w [.ref a] H (fun v _ => v = .bl true) fun _ _ _ => False)
    (hCX : ∀ (w : World) (H : Hp) (s : Shared) (e : Value) (s' : Shared), CX w [] H s (fun _ _ _ => False) e s' → False) :
    PySem.W.WalkO q loose XP YP l.row.toRowW d [] (fun f vs => PySem.call f vs) := by
  refine Att.attach_callB hn hdf ?_
  intro w s₀ s₁ mg mb fa o pm cd doc a vs ns G Y ho hd hcd hmg hobj hints hlen hbits hg
  have KX := hY w _ Y
  obtain ⟨fd, hb, hF⟩ := F w mg fa _ KX G.T.g hmg
  exact law_callG KX G.T.g G.T.b G.T.builtins G.T.nolimit hg hobj hints (Nat.le_trans hlen hn2) hr hF hb
    (fun H hO hS => hsp w H a ns hlen hbits hO hS) fun H e s' => hCX w H s₁ e s'
end Kit

namespace Kit
open PySem PySem.Spec PyProof.Rows L2
section
variable {X : Cx}
/-- * of whole numbers, as great as the machine lets -/
theorem op_mulB : OpR X (binaryOp .Mult) (rI IntMulOk fun i j => .int (i * j)) :=
  opI fun i j t u s Q E hc q => mul_int q hc

/-- a text times a number -/
def rRepS : R2 := fun x y H Q => ∃ (z : Str) (k : Int), x = .str z ∧ y = .int k ∧ z.length ≤ 1000 ∧ 0 ≤ k ∧ k ≤ 1000 ∧ Q (.str (Txt.mul z k)) H
theorem op_repS : OpR X (binaryOp .Mult) rRepS := by
  intro pins s σ H x y v u Q I rx ry h
  obtain ⟨z, k, rfl, rfl, hz, h0, hk, q⟩ := h
  obtain ⟨t, rfl⟩ := rx
  obtain ⟨t', rfl⟩ := ry
  exact SB.mul (mulOk_of 1000 1000 hz hk (by omega) (by decide) (by decide)) fun t' k => ⟨.str _, H, I.tok _, ⟨_, rfl⟩, q⟩

/-- repr of lists and tuples of data -/
def rReprD (K : PySem.W.Frag) : List V → Hp → VK → Prop := fun xs H Q => ∃ (a : Addr) (d : PyData), xs = [.ref a] ∧ Dp K H (.ref a) d ∧
  d.showable = true ∧ d.hasDict = false ∧ d.depth ≤ 150 ∧ d.shown.length ≤ sizeLine ∧ Q (.str d.shown) H
theorem call_reprD (hq : Qt X.A) (hu : X.A.units + 200 < cLine) : CallR X (.builtin "repr") (rReprD X.K) := by
  intro pins s σ H xs us Q I r h
  obtain ⟨a, d, rfl, hd, hs, hn, hp, hz, q⟩ := h
  obtain ⟨u, rfl, ru⟩ := vals1 r
  obtain ⟨as, rd⟩ := Dp.reads I d _ _ hd ru
  obtain rfl : u = Value.ref a := ru
  refine repr_of_reads' rd hs (PyData.noDict_hsm hn) hq (by omega) (fun _ _ e => e) (fun h' u tk hk => ?_) hz
  exact ⟨.str _, H, I.kept hk, ⟨_, rfl⟩, q⟩

/-- a list of anything beside one without items -/
def rEqNil (K : PySem.W.Frag) : R2 := fun x y H Q => ∃ (a b : Addr) (xs : List V), x = .ref a ∧ y = .ref b ∧ SqL K H a xs ∧ SqL K H b [] ∧ Q (.bl xs.isEmpty) H
def rNeNil (K : PySem.W.Frag) : R2 := fun x y H Q => ∃ (a b : Addr) (xs : List V), x = .ref a ∧ y = .ref b ∧ SqL K H a xs ∧ SqL K H b [] ∧ Q (.bl (!xs.isEmpty)) H
theorem op_eqNil (hu : X.A.units + 200 < cLine) : OpR X (compareOp .Eq) (rEqNil X.K) := by
  intro pins s σ H x y v u Q I rx ry h
  obtain ⟨a, b, xs, rfl, rfl, ha, hb, q⟩ := h
  cases rx
  cases ry
  obtain ⟨its, r1, p1, _⟩ := I.list ha
  obtain ⟨its2, r2, p2, _⟩ := I.list hb
  cases r2
  cases xs with
  | nil =>
    cases r1
    exact SeqAt.eq_listAt (e := fun _ => true) p1.isList p2.isList rfl (by omega) (fun j h1 _ => absurd h1 (Nat.not_lt_zero j)) ⟨.bl true, H, I, rfl, q⟩
  | cons z zs =>
    cases r1
    exact SeqAt.eq_list_lengthsAt p1.isList p2.isList (by simp) (by omega) ⟨.bl false, H, I, rfl, q⟩
theorem op_neNil (hu : X.A.units + 200 < cLine) : OpR X (compareOp .NotEq) (rNeNil X.K) := by
  intro pins s σ H x y v u Q I rx ry h
  obtain ⟨a, b, xs, rfl, rfl, ha, hb, q⟩ := h
  cases rx
  cases ry
  obtain ⟨its, r1, p1, _⟩ := I.list ha
  obtain ⟨its2, r2, p2, _⟩ := I.list hb
  cases r2
  cases xs with
  | nil =>
    cases r1
    exact SeqAt.RcNeAt.lists (e := fun _ => true) p1.isList p2.isList rfl (by omega) (fun j h1 _ => absurd h1 (Nat.not_lt_zero j)) _ _ _ _ ⟨.bl false, H, I, rfl, q⟩
  | cons z zs =>
    cases r1
    exact SeqAt.RcNeAt.lists_lengths p1.isList p2.isList (by simp) (by omega) _ _ _ _ ⟨.bl true, H, I, rfl, q⟩

/-- a text from behind: what of it is told is its length -/
def tRevS (te : TE) : TE := fun σ H Q => te σ H fun x H1 => ∃ z : Str, x = .str z ∧ z.length ≤ sizeLine ∧ ∀ y : Str, y.length ≤ z.length → Q (.str y) H1
theorem pe_revS {e : Expr} {te : TE} {k : Nat} {p1 p2 p3 pos : Pos} (he : PE X e te)
    (hlt : ∀ (z : Str) (t : Tok) r, letTemporaryGo e (.str z t) r = pure () := by intro _ _ _; with_unfolding_all rfl) :
    PE X (.Subscript e (.Slice none none (some (.UnaryOp .USub (.Constant (.int 1) k p1) p2)) p3) pos) (tRevS te) := by
  constructor
  intro pins s σ H Q I h
  refine Subscript_ (thn (he.run pins s σ H _ I h) ?_)
  rintro v s1 ⟨x, H1, I1, r1, z, rfl, hz, q⟩
  obtain ⟨t, rfl⟩ := r1
  have hst : PO X (some (.UnaryOp .USub (.Constant (.int 1) k p1) p2)) (tPart (tUn (rU fun i => .int (-i)) (tC (.int 1)))) :=
    po_some (pe_un un_neg pe_int)
  refine wpAny_Slice (thn (po_none.run pins s1 σ H1 (fun o H2 => o = none ∧ H2 = H1) I1 ⟨rfl, rfl⟩) ?_)
  rintro vl s2 ⟨l, H2, I2, pl, rfl, rfl⟩
  refine thn (po_none.run pins s2 σ H2 (fun o H3 => o = none ∧ H3 = H2) I2 ⟨rfl, rfl⟩) ?_
  rintro vu s3 ⟨u, H3, I3, pu, rfl, rfl⟩
  refine thn (hst.run pins s3 σ H3 (fun o H4 => o = some (-1) ∧ H4 = H3) I3 ⟨1, rfl, -1, rfl, rfl, rfl⟩) ?_
  rintro vs s4 ⟨o, H4, I4, ps, rfl, rfl⟩
  cases pl
  cases pu
  cases ps with
  | int _ uk =>
    refine tail_of_ItemOn (ops := [.ref s4.heap.objs.size, .str z t]) ⟨"str", _, F.slot_str_getitem.lookup, typeIs_str _ _ _,
      wpAny_getItem_str_slice (l := none) (u := none) (st := some (-1, uk)) ⟨_, Heap.get?_push_size _ rfl, rfl, rfl⟩ rfl
        (post_val_or_str ⟨?_, ?_⟩)⟩ (by with_unfolding_all rfl) (hlt z t)
    · exact Nat.le_trans (Txt.sliceBy_le z none none (-1, uk) (by show (-1 : Int) ≠ 0; decide)) hz
    · intro t' c
      exact ⟨.str _, H4, I4.kept (fun b u e => Heap.get?_push_of_some _ e), ⟨_, rfl⟩, q _ (Txt.sliceBy_le z none none (-1, uk) (by show (-1 : Int) ≠ 0; decide))⟩

/-- the signs of a text, a text each -/
def sgV (z : Str) : List V := z.cps.toList.map fun c => .str ⟨#[c]⟩
theorem sgV_len (z : Str) : (sgV z).length = z.length := by
  unfold sgV
  rw [List.length_map, Array.length_toList]
  rfl
theorem vals_signs : ∀ (cs : List Nat) (us : List Value), us.length = cs.length → (∀ (j : Nat) (v : Value), us[j]? = some v → ∃ c t, cs[j]? = some c ∧ v = Value.str ⟨#[c]⟩ t) →
    Vals (cs.map fun c => V.str ⟨#[c]⟩) us
  | [], [], _, _ => .nil
  | [], _ :: _, h, _ => by cases h
  | _ :: _, [], h, _ => by cases h
  | c :: cs, u :: us, hl, h => by
    obtain ⟨c', t, e1, e2⟩ := h 0 u rfl
    have e1' : c = c' := Option.some.inj e1
    subst e1'
    exact .cons ⟨t, e2⟩ (vals_signs cs us (by simpa using hl) fun j v e => h (j + 1) v (by simpa using e))
/-- list(a text) -/
theorem call_listS (hc : X.calm = true) : CallR X (.type "list") (fun xs H Q => ∃ z : Str, xs = [.str z] ∧ z.length ≤ sizeLine ∧ ∀ l, H l = none → Q (.ref l) (upd H l (.lst (sgV z)))) := by
  intro pins s σ H xs us Q I r h
  obtain ⟨z, rfl, hz, q⟩ := h
  obtain ⟨u, rfl, t, rfl⟩ := vals1 r
  refine PySem.call_list_str (I.ok.hd hc) z t (fun h' tk acc c' kp e ia => ?_) hz
  have hv : Vals (sgV z) acc.toList := vals_signs _ _ (by rw [Array.length_toList, Array.length_toList]; exact ia.1) fun j v e => by
    obtain ⟨c, u, h1, h2⟩ := ia.2 j v (by rw [← Array.getElem?_toList]; exact e)
    exact ⟨c, u, by rw [Array.getElem?_toList]; exact h1, h2⟩
  exact ⟨.ref s.heap.objs.size, _, I.laid (t' := tk) kp (Nat.le_refl _)
    (show ObjOk X.prog X.w _ h' _ (.lst (sgV z)) from ⟨by rw [sgV_len]; exact hz, acc.toList, c', hv, by rw [Array.toArray_toList]; exact e⟩), rfl, q _ (I.hok.fresh (Nat.le_refl _))⟩
end

/-! ### a comprehension over the signs of a text -/
theorem lc_str {x : Str} {g : TG} {tt : TT} {te : TE} {vs : List Nat} {σ : L2.St} {H1 : Hp} {D : Addr} {Qd : Hp → Prop} (Pv : Nat → Hp → Prop)
    (h0 : Pv 0 (upd H1 D (.lst [])))
    (hs : ∀ i c H, x.cps.toList[i]? = some c → Pv i H → g (.str ⟨#[c]⟩) (wipe σ vs) H fun σ2 H2 => wipe σ2 vs = wipe σ vs ∧ tt σ2 H2 fun b H3 =>
      if b = true then te σ2 H3 fun y H4 => ∃ acc, H4 D = some (.lst acc) ∧ acc.length < sizeLine ∧ Pv (i + 1) (upd H4 D (.lst (acc ++ [y])))
      else Pv (i + 1) H3)
    (hd : ∀ H, Pv x.cps.size H → Qd H) :
    ∃ W : Nat → Nat → Hp → Prop, (∃ m, W 0 m (upd H1 D (.lst []))) ∧ ∀ i m H, W i m H →
      ((Its x).stop i H ∧ Qd H) ∨ ((Its x).go i H ∧ ∃ Nx : Hp → Prop, (∀ H', Nx H' → ∃ m', m' < m ∧ W (i + 1) m' H') ∧
        ∀ v H', (Its x).yld i H v H' → g v (wipe σ vs) H' fun σ2 H2 => wipe σ2 vs = wipe σ vs ∧ tt σ2 H2 fun b H3 =>
          if b = true then te σ2 H3 fun y H4 => ∃ acc, H4 D = some (.lst acc) ∧ acc.length < sizeLine ∧ Nx (upd H4 D (.lst (acc ++ [y]))) else Nx H3) := by
  refine ⟨fun i m H => m = x.cps.size - i ∧ i ≤ x.cps.size ∧ Pv i H, ⟨x.cps.size, rfl, Nat.zero_le _, h0⟩, ?_⟩
  rintro i m H ⟨rfl, hi, p⟩
  by_cases hlt : i < x.cps.size
  · refine .inr ⟨hlt, Pv (i + 1), fun H' q => ⟨x.cps.size - (i + 1), by omega, rfl, by omega, q⟩, ?_⟩
    rintro v H' ⟨rfl, c, e, rfl⟩
    exact hs i c H' (by rw [Array.getElem?_toList]; exact e) p
  · have e : i = x.cps.size := by omega
    subst e
    exact .inl ⟨Nat.le_refl _, hd H p⟩

theorem sgV_get {z : Str} {j : Nat} {x : V} (h : (sgV z)[j]? = some x) : ∃ k, x = .str ⟨#[k]⟩ ∧ z.cps.toList[j]? = some k := by
  unfold sgV at h
  rw [List.getElem?_map] at h
  cases q : z.cps.toList[j]? with
  | none =>
    rw [q] at h
    cases h
  | some k =>
    rw [q] at h
    exact ⟨k, (Option.some.inj h).symm, rfl⟩
/-! ### what may be drawn from: a list, a tuple, a text -/
inductive Sq (K : PySem.W.Frag) (H : Hp) : V → List V → Prop
  | lst {a : Addr} {xs : List V} (h : SqL K H a xs) : Sq K H (.ref a) xs
  | tup {a : Addr} {xs : List V} (h : SqT K H a xs) : Sq K H (.ref a) xs
  | str {z : Str} (h : z.length ≤ sizeLine) : Sq K H (.str z) (sgV z)
theorem atI_lt {α : Type} {xs : List α} {i : Int} {n : Nat} (h0 : 0 ≤ i) (h1 : i < (n : Int)) (hn : n = xs.length) : ∃ v, atI xs i = some v ∧ xs[i.toNat]? = some v := by
  subst hn
  obtain ⟨k, rfl⟩ := Int.eq_ofNat_of_zero_le h0
  have h2 : k < xs.length := by omega
  exact ⟨xs[k], atI_nat (List.getElem?_eq_getElem h2), List.getElem?_eq_getElem h2⟩

/-- a def of the module, as it stands behind the top -/
structure DefAt (K : PySem.W.Frag) (mg : Str → Option Value) (x : Str) (ps : List Str) (st : Stmt) (f : Addr) (fd : FuncData) : Prop where
  fn : L2.Fun K x x st f fd
  mgf : mg x = some (.ref f)
  bs : L2.Binds K fd ps []
  kbs : ps ≠ [] → KBinds K fd ps ps gK gK


theorem def_mk {K : PySem.W.Frag} {mg : Str → Option Value} {h : Heap} {x : Str} {ps : List Str} {st : Stmt} {f : Addr} {oc : Value} {od an : Option Addr} {osl : Array (Option Value)}
    {kV doc pm cdv ct : Value} (X : K.In h) (G : h.Ns mainGlobals mg) (a : PySem.W.nsIn K mainGlobals x = some (some (.ref f)))
    (l : K.lookup f = some ⟨oc, od, .func (PySem.W.fnOf x x (defArgs st) (defBody st) (defScope st) .none kV doc pm an cdv ct), osl⟩)
    (c : PySem.W.codeIn K cdv x = true) (k : PySem.W.keepIn K (.ref f) = true)
    (hb : ∀ (kV doc pm : Value) (an : Option Addr) (cdv ct : Value) (us : List Value), us.length = ps.length →
      bindArgs (PySem.W.fnOf x x (defArgs st) (defBody st) (defScope st) .none kV doc pm an cdv ct) ⟨us, []⟩ = pure (ps.zip us))
    (hk : ps ≠ [] → ∀ (kV doc pm : Value) (an : Option Addr) (cdv ct : Value) (ws : List Value), ws.length = ps.length →
      bindArgs (PySem.W.fnOf x x (defArgs st) (defBody st) (defScope st) .none kV doc pm an cdv ct) ⟨[], ps.zip ws⟩ = pure (ps.zip ws)) :
    DefAt K mg x ps st f (PySem.W.fnOf x x (defArgs st) (defBody st) (defScope st) .none kV doc pm an cdv ct) := by
  have F := fun_mk (st := st) l c k
  exact ⟨F, PySem.W.mg_of X G a, F.binds hb, fun h0 => kb_all h0 fun ws hl => hk h0 kV doc pm an cdv ct ws hl⟩

theorem room200 {A : Around} {k : Nat} (hr : Room k A) : A.units + 200 < cLine := by
  have h := hr.un
  omega

/-! ### heaps -/
theorem same_new {H : Hp} {p : Addr} {o : HO} (h : H p = none) : Same H (upd H p o) := fun b x e => by
  rw [upd_ne (ne_of_none e h)]
  exact e
theorem same_mut {H H' : Hp} {p : Addr} {o : HO} (s : Same H H') (h : H p = none) : Same H (upd H' p o) := fun b x e => by
  rw [upd_ne (ne_of_none e h)]
  exact s b x e
/-- all but two is as it was -/
def But (d c : Addr) (H H' : Hp) : Prop := ∀ b o, b ≠ d → b ≠ c → H b = some o → H' b = some o
theorem But.refl (d c : Addr) (H : Hp) : But d c H H := fun _ _ _ _ e => e
theorem But.trans {d c : Addr} {H H1 H2 : Hp} (a : But d c H H1) (b : But d c H1 H2) : But d c H H2 := fun x o h1 h2 e => b x o h1 h2 (a x o h1 h2 e)
theorem But.same {d c : Addr} {H H1 H2 : Hp} (a : But d c H H1) (b : Same H1 H2) : But d c H H2 := fun x o h1 h2 e => b x o (a x o h1 h2 e)
theorem But.of {d c : Addr} {H H1 : Hp} (b : Same H H1) : But d c H H1 := fun x o _ _ e => b x o e
theorem But.mut {d c p : Addr} {o : HO} {H H1 : Hp} (a : But d c H H1) (h : H p = none) : But d c H (upd H1 p o) := fun x u h1 h2 e => by
  rw [upd_ne (ne_of_none e h)]
  exact a x u h1 h2 e
theorem But.sql {K : PySem.W.Frag} {d c a : Addr} {H H1 : Hp} {xs : List V} (h : But d c H H1) (h1 : a ≠ d) (h2 : a ≠ c) (e : SqL K H a xs) : SqL K H1 a xs := by
  rcases e with (e | ⟨o, e⟩) | e
  · exact .inl (.inl (h _ _ h1 h2 e))
  · exact .inl (.inr ⟨o, h _ _ h1 h2 e⟩)
  · exact .inr e
theorem But.sqt {K : PySem.W.Frag} {d c a : Addr} {H H1 : Hp} {xs : List V} (h : But d c H H1) (h1 : a ≠ d) (h2 : a ≠ c) (e : SqT K H a xs) : SqT K H1 a xs := by
  rcases e with (e | ⟨o, e⟩) | e
  · exact .inl (.inl (h _ _ h1 h2 e))
  · exact .inl (.inr ⟨o, h _ _ h1 h2 e⟩)
  · exact .inr e
theorem But.sq {K : PySem.W.Frag} {d c : Addr} {H H1 : Hp} {v : V} {xs : List V} (h : But d c H H1) (h1 : v ≠ .ref d) (h2 : v ≠ .ref c) (e : Sq K H v xs) : Sq K H1 v xs := by
  cases e with
  | lst e => exact .lst (h.sql (fun z => h1 (by rw [z])) (fun z => h2 (by rw [z])) e)
  | tup e => exact .tup (h.sqt (fun z => h1 (by rw [z])) (fun z => h2 (by rw [z])) e)
  | str e => exact .str e
theorem Sq.lenV {K : PySem.W.Frag} {H : Hp} {v : V} {xs : List V} (h : Sq K H v xs) : LenV K v H xs.length := by
  cases h with
  | lst e => exact .inl ⟨_, e, rfl⟩
  | tup e => exact .inr ⟨_, e, rfl⟩
  | str e => exact ⟨e, sgV_len _⟩
/-- an item of it -/
theorem Sq.item {K : PySem.W.Frag} {H : Hp} {v y : V} {xs : List V} {i : Int} {Q : VK} (h : Sq K H v xs) (e : atI xs i = some y) (q : Q y H) : rIx K v (.int i) H Q := by
  cases h with
  | lst h => exact .inl ⟨_, _, _, _, rfl, rfl, h, e, q⟩
  | tup h => exact .inr (.inl ⟨_, _, _, _, rfl, rfl, h, e, q⟩)
  | @str z hz =>
    have e2 : (ixN (sgV z).length i).bind (fun j => (sgV z)[j]?) = some y := e
    have e3 : ∃ c, atI z.cps.toList i = some c ∧ y = .str ⟨#[c]⟩ := by
      unfold sgV at e2
      rw [List.length_map] at e2
      show ∃ c, (ixN z.cps.toList.length i).bind (fun j => z.cps.toList[j]?) = some c ∧ _
      cases q : ixN z.cps.toList.length i with
      | none =>
        rw [q] at e2
        cases e2
      | some j =>
        rw [q] at e2
        have e4 : (z.cps.toList.map fun c => V.str ⟨#[c]⟩)[j]? = some y := e2
        rw [List.getElem?_map] at e4
        show ∃ c, z.cps.toList[j]? = some c ∧ _
        cases q2 : z.cps.toList[j]? with
        | none =>
          rw [q2] at e4
          cases e4
        | some c =>
          rw [q2] at e4
          exact ⟨c, rfl, (Option.some.inj e4).symm⟩
    obtain ⟨c, h1, rfl⟩ := e3
    exact .inr (.inr ⟨z, i, c, rfl, rfl, hz, h1, q⟩)
end Kit

/-! methods over promises of the quiet kind; data made of tuples -/
namespace Kit
open PySem PySem.Spec PyProof.Rows L2
section
variable {X : Cx} {CX : CXT} {k j : Nat} {C : Addr} {m : Str} {ps : List Str} {sp : Sp} {E : XK} {o e : Expr} {es : List Expr} {ta : TE} {t : TA} {pos apos : Pos}
/-- a method of the class at C -/
structure Met (P : Program) (w : World) (K : PySem.W.Frag) (mg : Str → Option Value) (base : Heap) (CX : CXT) (k : Nat) (C : Addr) (m : Str) (ps : List Str) (sp : Sp) : Prop where
  cl : Cls K C
  ex : ∃ (f : Addr) (fd : FuncData), Meth K C m f ∧ FnG P w K mg base CX k f fd ps sp ∧ Binds K fd ps []
theorem pe_m {pl : Sem Bool} (c : Met X.prog X.w X.K X.mg X.base CX k C m ps sp) (hx : Passes CX X E) (hq : Qt X.A) (hr : Room j X.A) (hk : k ≤ j)
    (he : PE X o ta) (ha : PA X (e :: es) t)
    (hst : starEach (e :: es) X.env = (false, eval e X.env) :: starEach es X.env := by rfl)
    (hpl : (backTo pos (starEach es X.env)).any (·.1) = false := by rfl)
    (ht : eval (.Call (.Attribute o m apos) (e :: es) [] pos) X.env = (eval o X.env >>= fun ov => standAt apos.atName >>= fun _ =>
      holding [ov] (getMethod ov m pl) >>= fun q =>
        callWith pos q.1 q.2 (backTo pos (starEach (e :: es) X.env)) (backToKw pos (keywordEach [] X.env))) := by rfl) :
    PE X (.Call (.Attribute o m apos) (e :: es) [] pos) (tMeth C m sp [] E ta t) := by
  obtain ⟨f, fd, hm, F, hb⟩ := c.ex
  constructor
  intro pins s σ H Q I h
  refine PySem.W.methodCall_KW (pl := pl) (thn (he.run pins s σ H _ I h) ?_) ht
  rintro u s1 ⟨x, H1, I1, rx, a, dx, fs, rfl, ea, l, q⟩
  obtain rfl : u = Value.ref a := rx
  refine getmeth_ok I1 ea c.cl hm l ?_
  refine PySem.W.callWith_K (first := [.ref a]) (h₀ := X.base) I.ok.mod.kin hm.kp (thn (ha.run pos pins s1 σ H1 _ I1 q) ?_) hst hpl
  rintro us s2 ⟨vs, H2, I2, r, q2⟩
  rw [List.append_nil] at q2
  exact ⟨I2.kIn, run_fnG (ks := []) (ws := []) (us := .ref a :: us) (vs := .ref a :: vs) F hq (hr.mono hk) (kb_of hb) hx I2 (.cons rfl r) .nil q2⟩
theorem pe_m0 {pl : Sem Bool} (c : Met X.prog X.w X.K X.mg X.base CX k C m ps sp) (hx : Passes CX X E) (hq : Qt X.A) (hr : Room j X.A) (hk : k ≤ j)
    (he : PE X o ta)
    (ht : eval (.Call (.Attribute o m apos) [] [] pos) X.env = (eval o X.env >>= fun ov => standAt apos.atName >>= fun _ =>
      holding [ov] (getMethod ov m pl) >>= fun q =>
        callWith pos q.1 q.2 (backTo pos (starEach [] X.env)) (backToKw pos (keywordEach [] X.env))) := by rfl) :
    PE X (.Call (.Attribute o m apos) [] [] pos) (tMeth C m sp [] E ta tNil) := by
  obtain ⟨f, fd, hm, F, hb⟩ := c.ex
  constructor
  intro pins s σ H Q I h
  refine PySem.W.methodCall_KW (pl := pl) (thn (he.run pins s σ H _ I h) ?_) ht
  rintro u s1 ⟨x, H1, I1, rx, a, dx, fs, rfl, ea, l, q⟩
  obtain rfl : u = Value.ref a := rx
  refine getmeth_ok I1 ea c.cl hm l ?_
  exact PySem.W.callWith_K0 (first := [.ref a]) I1.kIn hm.kp (run_fnG (ks := []) (ws := []) (us := [.ref a]) (vs := [.ref a]) F hq (hr.mono hk) (kb_of hb) hx I1 (.cons rfl .nil) .nil q)
end
end Kit

namespace K05
open PySem PySem.Spec PyProof.Rows L2 Kit
def topS (i : Nat) : Stmt := PySem.Challenge.pw_wiretongue_k05_whole_written_and_read_ag.main.body.getD i (.Pass ⟨0, 0, 0, 0⟩)
abbrev s_part_words : Stmt := topS 1
abbrev N_part_words : List Str := ["part"]
theorem S_part_words : FnScope N_part_words ["part"] (defScope s_part_words) := ⟨rfl, rfl, rfl, by decide +kernel, rfl, by decide +kernel, by decide +kernel⟩
abbrev s_parts_words : Stmt := topS 2
abbrev N_parts_words : List Str := ["parts", "words", "part"]
theorem S_parts_words : FnScope N_parts_words ["parts"] (defScope s_parts_words) := ⟨rfl, rfl, rfl, by decide +kernel, rfl, by decide +kernel, by decide +kernel⟩
abbrev s_row_words : Stmt := topS 3
abbrev N_row_words : List Str := ["row", "word", "name", "module", "clocks", "handed"]
theorem S_row_words : FnScope N_row_words ["row"] (defScope s_row_words) := ⟨rfl, rfl, rfl, by decide +kernel, rfl, by decide +kernel, by decide +kernel⟩
abbrev s_show_module : Stmt := topS 4
abbrev N_show_module : List Str := ["tree", "row"]
theorem S_show_module : FnScope N_show_module ["tree"] (defScope s_show_module) := ⟨rfl, rfl, rfl, by decide +kernel, rfl, by decide +kernel, by decide +kernel⟩
abbrev s_is_name : Stmt := topS 19
abbrev N_is_name : List Str := ["thing", "sign"]
theorem S_is_name : FnScope N_is_name ["thing"] (defScope s_is_name) := ⟨rfl, rfl, rfl, by decide +kernel, rfl, by decide +kernel, by decide +kernel⟩
abbrev s_is_spot : Stmt := topS 20
abbrev N_is_spot : List Str := ["word", "names", "name"]
theorem S_is_spot : FnScope N_is_spot ["word"] (defScope s_is_spot) := ⟨rfl, rfl, rfl, by decide +kernel, rfl, by decide +kernel, by decide +kernel⟩
abbrev s_is_number : Stmt := topS 21
abbrev N_is_number : List Str := ["word", "least", "most", "sign"]
theorem S_is_number : FnScope N_is_number ["word", "least", "most"] (defScope s_is_number) := ⟨rfl, rfl, rfl, by decide +kernel, rfl, by decide +kernel, by decide +kernel⟩
abbrev s_RowWords_init : Stmt := inClass (topS 23) 0
abbrev N_RowWords_init : List Str := ["self", "row", "line"]
theorem S_RowWords_init : FnScope N_RowWords_init ["self", "row", "line"] (defScope s_RowWords_init) := ⟨rfl, rfl, rfl, by decide +kernel, rfl, by decide +kernel, by decide +kernel⟩
abbrev s_RowWords_here : Stmt := inClass (topS 23) 1
abbrev N_RowWords_here : List Str := ["self"]
theorem S_RowWords_here : FnScope N_RowWords_here ["self"] (defScope s_RowWords_here) := ⟨rfl, rfl, rfl, by decide +kernel, rfl, by decide +kernel, by decide +kernel⟩
abbrev s_RowWords_more : Stmt := inClass (topS 23) 2
abbrev N_RowWords_more : List Str := ["self"]
theorem S_RowWords_more : FnScope N_RowWords_more ["self"] (defScope s_RowWords_more) := ⟨rfl, rfl, rfl, by decide +kernel, rfl, by decide +kernel, by decide +kernel⟩
abbrev s_RowWords_coming : Stmt := inClass (topS 23) 3
abbrev N_RowWords_coming : List Str := ["self"]
theorem S_RowWords_coming : FnScope N_RowWords_coming ["self"] (defScope s_RowWords_coming) := ⟨rfl, rfl, rfl, by decide +kernel, rfl, by decide +kernel, by decide +kernel⟩
abbrev s_RowWords_take : Stmt := inClass (topS 23) 4
abbrev N_RowWords_take : List Str := ["self", "fits", "word"]
theorem S_RowWords_take : FnScope N_RowWords_take ["self", "fits"] (defScope s_RowWords_take) := ⟨rfl, rfl, rfl, by decide +kernel, rfl, by decide +kernel, by decide +kernel⟩
abbrev s_RowWords_take_name : Stmt := inClass (topS 23) 5
abbrev N_RowWords_take_name : List Str := ["self"]
theorem S_RowWords_take_name : FnScope N_RowWords_take_name ["self"] (defScope s_RowWords_take_name) := ⟨rfl, rfl, rfl, by decide +kernel, rfl, by decide +kernel, by decide +kernel⟩
abbrev s_RowWords_take_number : Stmt := inClass (topS 23) 6
abbrev N_RowWords_take_number : List Str := ["self", "least", "most"]
theorem S_RowWords_take_number : FnScope N_RowWords_take_number ["self", "least", "most"] (defScope s_RowWords_take_number) := ⟨rfl, rfl, rfl, by decide +kernel, rfl, by decide +kernel, by decide +kernel⟩
abbrev s_RowWords_take_end : Stmt := inClass (topS 23) 7
abbrev N_RowWords_take_end : List Str := ["self"]
theorem S_RowWords_take_end : FnScope N_RowWords_take_end ["self"] (defScope s_RowWords_take_end) := ⟨rfl, rfl, rfl, by decide +kernel, rfl, by decide +kernel, by decide +kernel⟩
abbrev s_read_part : Stmt := topS 24
abbrev N_read_part : List Str := ["words", "letter", "depth"]
theorem S_read_part : FnScope N_read_part ["words", "letter", "depth"] (defScope s_read_part) := ⟨rfl, rfl, rfl, by decide +kernel, rfl, by decide +kernel, by decide +kernel⟩
abbrev s_read_expression : Stmt := topS 25
abbrev N_read_expression : List Str := ["words", "depth", "place", "word", "goes_on", "parts", "letter"]
theorem S_read_expression : FnScope N_read_expression ["words", "depth"] (defScope s_read_expression) := ⟨rfl, rfl, rfl, by decide +kernel, rfl, by decide +kernel, by decide +kernel⟩
abbrev s_read_use : Stmt := topS 26
abbrev N_read_use : List Str := ["words", "name", "module", "many", "clocks", "_", "handed"]
theorem S_read_use : FnScope N_read_use ["words"] (defScope s_read_use) := ⟨rfl, rfl, rfl, by decide +kernel, rfl, by decide +kernel, by decide +kernel⟩
abbrev s_read_row : Stmt := topS 27
abbrev N_read_row : List Str := ["row", "line", "words", "word", "tree", "parts", "letter"]
theorem S_read_row : FnScope N_read_row ["row", "line"] (defScope s_read_row) := ⟨rfl, rfl, rfl, by decide +kernel, rfl, by decide +kernel, by decide +kernel⟩
abbrev s_read_module : Stmt := topS 28
abbrev N_read_module : List Str := ["text", "row", "line"]
theorem S_read_module : FnScope N_read_module ["text"] (defScope s_read_module) := ⟨rfl, rfl, rfl, by decide +kernel, rfl, by decide +kernel, by decide +kernel⟩
abbrev s_l_deck : Stmt := topS 30
abbrev N_l_deck : List Str := ["_law_script", "_law_cells", "_law_seed", "_law_cell"]
theorem S_l_deck : FnScope N_l_deck ["_law_script"] (defScope s_l_deck) := ⟨rfl, rfl, rfl, by decide +kernel, rfl, by decide +kernel, by decide +kernel⟩
abbrev s_l_draw : Stmt := topS 31
abbrev N_l_draw : List Str := ["_law_deck_here", "_law_sides", "_law_at", "_law_mixed", "_law_cell"]
theorem S_l_draw : FnScope N_l_draw ["_law_deck_here", "_law_sides"] (defScope s_l_draw) := ⟨rfl, rfl, rfl, by decide +kernel, rfl, by decide +kernel, by decide +kernel⟩
abbrev s_l_pick : Stmt := topS 32
abbrev N_l_pick : List Str := ["_law_deck_here", "_law_some"]
theorem S_l_pick : FnScope N_l_pick ["_law_deck_here", "_law_some"] (defScope s_l_pick) := ⟨rfl, rfl, rfl, by decide +kernel, rfl, by decide +kernel, by decide +kernel⟩
abbrev s_l_kept : Stmt := topS 33
abbrev N_l_kept : List Str := []
theorem S_l_kept : FnScope N_l_kept [] (defScope s_l_kept) := ⟨rfl, rfl, rfl, by decide +kernel, rfl, by decide +kernel, by decide +kernel⟩
abbrev s_l_name : Stmt := topS 34
abbrev N_l_name : List Str := ["_law_deck_here", "_law_letters", "_law_way", "_law_word", "_law_k", "_law_some"]
theorem S_l_name : FnScope N_l_name ["_law_deck_here"] (defScope s_l_name) := ⟨rfl, rfl, rfl, by decide +kernel, rfl, by decide +kernel, by decide +kernel⟩
abbrev s_l_shapes : Stmt := topS 35
abbrev N_l_shapes : List Str := ["_law_found", "_law_word"]
theorem S_l_shapes : FnScope N_l_shapes [] (defScope s_l_shapes) := ⟨rfl, rfl, rfl, by decide +kernel, rfl, by decide +kernel, by decide +kernel⟩
abbrev s_l_number : Stmt := topS 36
abbrev N_l_number : List Str := ["_law_deck_here", "_law_kind"]
theorem S_l_number : FnScope N_l_number ["_law_deck_here", "_law_kind"] (defScope s_l_number) := ⟨rfl, rfl, rfl, by decide +kernel, rfl, by decide +kernel, by decide +kernel⟩
abbrev s_l_expression : Stmt := topS 37
abbrev N_l_expression : List Str := ["_law_deck_here", "_law_left", "_law_room", "_law_shapes_here", "_law_way", "_law_word", "_law_sorts", "_law_found", "_law_least", "_law_kind"]
theorem S_l_expression : FnScope N_l_expression ["_law_deck_here", "_law_left", "_law_room"] (defScope s_l_expression) := ⟨rfl, rfl, rfl, by decide +kernel, rfl, by decide +kernel, by decide +kernel⟩
abbrev s_l_row : Stmt := topS 38
abbrev N_l_row : List Str := ["_law_deck_here", "_law_deep", "_law_way", "_law_x", "_law_clock", "_law_broad", "_law_number_here", "_law_handed", "_law_k", "_law_one"]
theorem S_l_row : FnScope N_l_row ["_law_deck_here", "_law_deep"] (defScope s_l_row) := ⟨rfl, rfl, rfl, by decide +kernel, rfl, by decide +kernel, by decide +kernel⟩
abbrev s_l_laid_out : Stmt := topS 39
abbrev N_l_laid_out : List Str := ["_law_part", "_law_row_here", "_law_at", "_law_words", "_law_heard_so", "_law_one", "_law_more", "_law_e"]
theorem S_l_laid_out : FnScope N_l_laid_out ["_law_part", "_law_row_here", "_law_at"] (defScope s_l_laid_out) := ⟨rfl, rfl, rfl, by decide +kernel, rfl, by decide +kernel, by decide +kernel⟩
abbrev s_l_row_out : Stmt := topS 40
abbrev N_l_row_out : List Str := ["_law_made", "_law_row_here", "_law_words", "_law_heard_so", "_law_one", "_law_more", "_law_e"]
theorem S_l_row_out : FnScope N_l_row_out ["_law_made", "_law_row_here"] (defScope s_l_row_out) := ⟨rfl, rfl, rfl, by decide +kernel, rfl, by decide +kernel, by decide +kernel⟩
abbrev s_l_both : Stmt := topS 41
abbrev N_l_both : List Str := ["_law_made", "_law_some", "_law_row_here", "_law_one", "_law_words", "_law_heard_so"]
theorem S_l_both : FnScope N_l_both ["_law_made"] (defScope s_l_both) := ⟨rfl, rfl, rfl, by decide +kernel, rfl, by decide +kernel, by decide +kernel⟩
abbrev s_l_module : Stmt := topS 42
abbrev N_l_module : List Str := ["_law_deck_here", "_law_most", "_law_deep", "_law_k"]
theorem S_l_module : FnScope N_l_module ["_law_deck_here", "_law_most", "_law_deep"] (defScope s_l_module) := ⟨rfl, rfl, rfl, by decide +kernel, rfl, by decide +kernel, by decide +kernel⟩
abbrev s_law : Stmt := topS 43
abbrev N_law : List Str := ["_law_script", "_law_deck_here", "_law_some", "_law_turn", "_law_short", "_law_k", "_law_text", "_law_made_so", "_law_kept_here", "_law_heard_so", "_law_other", "_law_there"]
theorem S_law : FnScope N_law ["_law_script"] (defScope s_law) := ⟨rfl, rfl, rfl, by decide +kernel, rfl, by decide +kernel, by decide +kernel⟩
structure Bi (mg : Str → Option Value) : Prop where
  isinstance_ : mg "isinstance" = none
  str_ : mg "str" = none
  len_ : mg "len" = none
  all_ : mg "all" = none
  list_ : mg "list" = none
  range_ : mg "range" = none
  int_ : mg "int" = none
  repr_ : mg "repr" = none
  tuple_ : mg "tuple" = none
  enumerate_ : mg "enumerate" = none
  max_ : mg "max" = none
  min_ : mg "min" = none
/-! ### the deck -/
abbrev big : Int := 170141183460469231731687303715884105727
def deckKv (c : Addr) (sd : Int) (t : Nat) : List (L2.Key × V) := [(.inr "cells", .ref c), (.inr "seed", .int sd), (.inr "at", .int (t : Int))]
structure Deck (H : Hp) (d c : Addr) (t : Nat) : Prop where
  ex : ∃ (cs : List Int) (sd : Int), H d = some (.dK (deckKv c sd t)) ∧ H c = some (.lst (cs.map V.int)) ∧ 0 ≤ sd ∧ sd < big ∧ cs.length ≤ 63 ∧
    ∀ z ∈ cs, Builtin.Int.intBits z ≤ 1048576


theorem put_at (c : Addr) (sd : Int) (t : Nat) (v : V) : putK (deckKv c sd t) (Sum.inr "at") v = [(.inr "cells", .ref c), (.inr "seed", .int sd), (.inr "at", v)] := by
  rfl
theorem get_at (c : Addr) (sd : Int) (t : Nat) : valV (deckKv c sd t) (Sum.inr "at") = some (.int (t : Int)) := rfl
theorem get_seed (c : Addr) (sd : Int) (t : Nat) : valV (deckKv c sd t) (Sum.inr "seed") = some (.int sd) := rfl
theorem get_cells (c : Addr) (sd : Int) (t : Nat) : valV (deckKv c sd t) (Sum.inr "cells") = some (.ref c) := rfl
theorem sl3 (c : Addr) (sd : Int) (t : Nat) : (deckKv c sd t).length < sizeLine := by
  show 3 < sizeLine
  decide

/-- what the draw makes of it is small again -/
theorem bits_lt {x : Int} {n : Nat} (h0 : 0 ≤ x) (h : x < 2 ^ n) : Builtin.Int.intBits x ≤ n := by
  refine PySem.intBits_le_iff.mpr ?_
  have e : ((2 ^ n : Nat) : Int) = (2 : Int) ^ n := by rw [Int.natCast_pow]; rfl
  have h2 : x < ((2 ^ n : Nat) : Int) := by rw [e]; exact h
  omega
theorem bits_add {x y : Int} {n : Nat} (hx : Builtin.Int.intBits x ≤ n) (hy : Builtin.Int.intBits y ≤ n) : Builtin.Int.intBits (x + y) ≤ n + 1 := by
  have h1 := PySem.intBits_le_iff.mp hx
  have h2 := PySem.intBits_le_iff.mp hy
  refine PySem.intBits_le_iff.mpr ?_
  have e : 2 ^ (n + 1) = 2 ^ n + 2 ^ n := by rw [Nat.pow_succ]; omega
  rw [e]
  omega

theorem snoc {α : Type} (cs : List α) : cs = [] ∨ ∃ l x, cs = l ++ [x] := by
  rcases List.eq_nil_or_concat cs with h | ⟨l, x, h⟩
  · exact .inl h
  · exact .inr ⟨l, x, by rw [h, List.concat_eq_append]⟩
theorem pos_big : (0 : Int) < 170141183460469231731687303715884105727 := by decide
theorem dp_ints {K : PySem.W.Frag} {H : Hp} : ∀ ns : List Int, DpAll K H (ns.map V.int) (ns.map PyData.int)
  | [] => .nil
  | n :: ns => .cons (.int n) (dp_ints ns)
def spDraw : Sp := fun vs H Q _ => ∃ (d c : Addr) (n : Int) (t : Nat), vs = [.ref d, .int n] ∧ 1 ≤ n ∧ n < 1000000000 ∧ Deck H d c t ∧ t < 1000000000000 ∧
  ∀ (r : Int) (H' : Hp), 0 ≤ r → r < n → But d c H H' → Deck H' d c (t + 1) → Q (.int r) H'

/-! ### heaps and the deck -/
theorem Deck.ne {H : Hp} {d c : Addr} {t : Nat} (h : Deck H d c t) : d ≠ c := by
  obtain ⟨cs, sd, h1, h2, _⟩ := h.ex
  exact ne_of h1 h2 (by intro z; cases z)
theorem Deck.keep {H H' : Hp} {d c : Addr} {t : Nat} (h : Deck H d c t) (hd : ∀ o, H d = some o → H' d = some o) (hc : ∀ o, H c = some o → H' c = some o) : Deck H' d c t := by
  obtain ⟨cs, sd, h1, h2, h3⟩ := h.ex
  exact ⟨cs, sd, hd _ h1, hc _ h2, h3⟩
theorem Deck.same {H H' : Hp} {d c : Addr} {t : Nat} (h : Deck H d c t) (s : Same H H') : Deck H' d c t := h.keep (fun o e => s _ o e) (fun o e => s _ o e)
theorem Deck.here {H : Hp} {d c : Addr} {t : Nat} (h : Deck H d c t) : H d ≠ none ∧ H c ≠ none := by
  obtain ⟨cs, sd, h1, h2, _⟩ := h.ex
  rw [h1, h2]
  exact ⟨fun z => (by cases z), fun z => (by cases z)⟩
theorem Deck.mut {H : Hp} {d c p : Addr} {o : HO} {t : Nat} (h : Deck H d c t) (n1 : d ≠ p) (n2 : c ≠ p) : Deck (upd H p o) d c t :=
  h.keep (fun o e => by rw [upd_ne n1]; exact e) (fun o e => by rw [upd_ne n2]; exact e)
theorem Deck.new {H : Hp} {d c p : Addr} {o : HO} {t : Nat} (h : Deck H d c t) (n : H p = none) : Deck (upd H p o) d c t := h.same (same_new n)
theorem Deck.free {H : Hp} {d c p : Addr} {t : Nat} (h : Deck H d c t) (n : H p = none) : p ≠ d ∧ p ≠ c :=
  ⟨fun z => h.here.1 (by rw [← z]; exact n), fun z => h.here.2 (by rw [← z]; exact n)⟩

/-! ### promises -/
def spDeck (K : PySem.W.Frag) : Sp := fun vs H Q _ => ∃ (a : Addr) (ns : List Int), vs = [.ref a] ∧ SqL K H a (ns.map V.int) ∧ ns.length ≤ 63 ∧
  (∀ z ∈ ns, Builtin.Int.intBits z ≤ 1048576) ∧ ∀ (d c : Addr) (H' : Hp), Same H H' → H d = none → H c = none → Deck H' d c 0 → Q (.ref d) H'
def spPick (K : PySem.W.Frag) : Sp := fun vs H Q _ => ∃ (d c : Addr) (t : Nat) (v : V) (xs : List V), vs = [.ref d, v] ∧ Sq K H v xs ∧ 1 ≤ xs.length ∧ xs.length < 1000000000 ∧
  v ≠ .ref d ∧ v ≠ .ref c ∧ Deck H d c t ∧ t < 1000000000000 ∧
  ∀ (i : Nat) (x : V) (H' : Hp), xs[i]? = some x → But d c H H' → Deck H' d c (t + 1) → Q x H'
section
variable {P : Program} {w : World} {K : PySem.W.Frag} {mg : Str → Option Value} {base : Heap}
theorem ok_draw {f : Addr} {fd : FuncData} (D : DefAt K mg "_law_draw" ["_law_deck_here", "_law_sides"] s_l_draw f fd) :
    Cal P w K mg base L2.CX0 1 "_law_draw" ["_law_deck_here", "_law_sides"] spDraw := by
  have S := S_l_draw
  refine cal_of D.fn D.mgf D.bs D.kbs S (fun vs H Q E h => ?_) (fun cdv A outer s H vs Q E hq hr h => ?_)
  · obtain ⟨d, c, n, t, rfl, _⟩ := h
    rfl
  · obtain ⟨d, c, n, t, rfl, hn1, hn2, ⟨cs, sd, hd, hc, hs0, hs1, hl, hz⟩, ht, q⟩ := h
    refine ⟨_, (pss_cons (ps_dput (hu_of hr) (pv 0) pe_str (pe_op op_add (pe_dget (hu_of hr) (pv 0) pe_str (fun _ _ => rfl)) pe_int) rfl)
 (pss_cons (ps_set (i := 2) S.nd rfl (.inl rfl) (pe_dget (hu_of hr) (pv 0) pe_str (fun _ _ => rfl)))
 (pss_cons (ps_set (i := 3) S.nd rfl (.inl rfl) (pe_op op_add (pe_dget (hu_of hr) (pv 0) pe_str (fun _ _ => rfl)) (pe_op op_mulB (pe_op op_mulB pe_int (pv 2)) (pv 2))))
 (C8.pss_cut (ps_if (pt_cmpR (op_neNil (room200 hr)) (pe_dget (hu_of hr) (pv 0) pe_str (fun _ _ => rfl)) (pe_lst pa_nil) (nomark _))
  (pss_cons (ps_set (i := 4) S.nd rfl (.inl rfl) (pe_bm0 PySem.F.plainAttrs_list PySem.F.slot_list_pop PySem.F.type_list_pop (mt_pop) (pe_dget (hu_of hr) (pv 0) pe_str (fun _ _ => rfl))))
 (pss_cons (ps_if (pt_cmpR op_ge (pv 4) (pe_op op_pow pe_int pe_int) (nomark _))
  (pss_cons (ps_expr (pe_bm PySem.F.plainAttrs_list PySem.F.slot_list_append PySem.F.type_list_append mt_append (pe_dget (hu_of hr) (pv 0) pe_str (fun _ _ => rfl)) (pa_cons (pe_op op_fdivN (pv 4) (pv 1)) pa_nil)))
 (pss_one (ps_ret (pe_op op_mod (pv 4) (pv 1)))))
  pss_nil)
 (pss_one (ps_set (i := 3) S.nd rfl (.inl rfl) (pe_op op_add (pv 3) (pe_op op_mulB pe_int (pv 4)))))))
  pss_nil)
 (pss_cons (ps_set (i := 3) S.nd rfl (.inl rfl) (pe_op op_mod (pe_op op_mulB (pv 3) (pe_op op_add (pv 3) (pe_op op_mulB pe_int (pv 2)))) pe_int))
 (pss_cons (ps_set (i := 3) S.nd rfl (.inl rfl) (pe_op op_mod (pe_op op_add (pe_op op_mulB (pv 3) (pv 3)) (pe_op op_mulB pe_int (pv 2))) pe_int))
 (pss_one (ps_ret (pe_op op_mod (pe_op op_fdivN (pv 3) pe_int) (pv 1)))))))))), ?_⟩
    have ndc : c ≠ d := ne_of hc hd (by intro z; cases z)
    have g1 : DGet H d (.str "at") (some (.int (t : Int))) := DGet.k (k := Sum.inr "at") hd
    refine ⟨.ref d, rfl, d, _, rfl, g1, t, 1, rfl, rfl, .ref d, rfl, d, _, rfl, DPut.k (k := Sum.inr "at") hd (sl3 c sd t), ?_⟩
    rw [put_at]
    have hd1 : (upd H d (.dK (deckKv c sd (t + 1)))) d = some (.dK (deckKv c sd (t + 1))) := upd_same
    have hc1 : (upd H d (.dK (deckKv c sd (t + 1)))) c = some (.lst (cs.map V.int)) := by
      rw [upd_ne ndc]
      exact hc
    have bt1 : But d c H (upd H d (.dK (deckKv c sd (t + 1)))) := fun b o h1 h2 e => by
      rw [upd_ne h1]
      exact e
    revert hd1 hc1 bt1
    show _ → _ → _ → tSeq _ _ _ _ (upd H d (.dK (deckKv c sd (t + 1))))
    generalize upd H d (.dK (deckKv c sd (t + 1))) = H1
    intro hd1 hc1 bt1
    have g2 : DGet H1 d (.str "at") (some (.int ((t + 1 : Nat) : Int))) := DGet.k (k := Sum.inr "at") hd1
    have g3 : DGet H1 d (.str "seed") (some (.int sd)) := DGet.k (k := Sum.inr "seed") hd1
    have g4 : DGet H1 d (.str "cells") (some (.ref c)) := DGet.k (k := Sum.inr "cells") hd1
    refine ⟨.ref d, rfl, d, _, rfl, g2, ?_⟩
    refine ⟨.ref d, rfl, d, _, rfl, g3, ?_⟩
    refine ⟨.int ((t + 1 : Nat) : Int), rfl, 7919, ((t + 1 : Nat) : Int), rfl, rfl, ?_, .int ((t + 1 : Nat) : Int), rfl, 7919 * ((t + 1 : Nat) : Int), ((t + 1 : Nat) : Int), rfl, rfl, ?_, sd, _, rfl, rfl, ?_⟩
    · exact IntMulOk.of_left (by decide)
    · exact IntMulOk.of_right (intBits_le_64 (by omega) (by omega))
    have T1 : (0 : Int) ≤ ((t + 1 : Nat) : Int) ∧ ((t + 1 : Nat) : Int) < 2 ^ 41 := by omega
    have T2 : (0 : Int) ≤ 7919 * ((t + 1 : Nat) : Int) * ((t + 1 : Nat) : Int) ∧ 7919 * ((t + 1 : Nat) : Int) * ((t + 1 : Nat) : Int) < 2 ^ 100 := by
      generalize ((t + 1 : Nat) : Int) = k at T1
      have h1 : (0 : Int) ≤ 7919 * k := by omega
      refine ⟨Int.mul_nonneg h1 T1.1, ?_⟩
      have h3 : 7919 * k * k ≤ 7919 * k * 2 ^ 41 := Int.mul_le_mul_of_nonneg_left (by omega) h1
      omega
    refine ⟨fun σ' H3 => ∃ (m : Int) (x4 : Option V), σ' = [some (.ref d), some (.int n), some (.int ((t + 1 : Nat) : Int)), some (.int m), x4] ∧ Builtin.Int.intBits m ≤ 1048700 ∧
      But d c H H3 ∧ Deck H3 d c (t + 1), ?_, ?_⟩
    · refine ⟨.ref d, rfl, d, _, rfl, g4, ?_⟩
      refine ⟨Nat.zero_le _, fun p np => ?_⟩
      have npc : c ≠ p := ne_of_none hc1 np
      have hcp : (upd H1 p (.lst [])) c = some (.lst (cs.map V.int)) := by
        rw [upd_ne npc]
        exact hc1
      have npd : d ≠ p := ne_of_none hd1 np
      have hdp : (upd H1 p (.lst [])) d = some (.dK (deckKv c sd (t + 1))) := by
        rw [upd_ne npd]
        exact hd1
      have btp : But d c H (upd H1 p (.lst [])) := fun b o h1 h2 e => by
        have e1 := bt1 b o h1 h2 e
        rw [upd_ne (ne_of_none e1 np)]
        exact e1
      refine ⟨c, p, _, rfl, rfl, .inl (.inl hcp), .inl (.inl upd_same), _, rfl, ?_⟩
      revert hcp hdp btp
      generalize upd H1 p (.lst []) = H2
      intro hc2 hd2 bt2
      have bm : Builtin.Int.intBits (sd + 7919 * ((t + 1 : Nat) : Int) * ((t + 1 : Nat) : Int)) ≤ 200 := by
        have hb : big < 2 ^ 127 := by decide
        exact bits_lt (by omega) (by omega)
      rcases snoc cs with rfl | ⟨l, x, rfl⟩
      · exact iteF ⟨_, _, rfl, Nat.le_trans bm (by decide), bt2, ⟨[], sd, hd2, hc2, hs0, hs1, hl, hz⟩⟩
      · have ne0 : ((l ++ [x]).map V.int).isEmpty = false := by
          cases l <;> rfl
        rw [ne0]
        refine iteT ?_
        have g5 : DGet H2 d (.str "cells") (some (.ref c)) := DGet.k (k := Sum.inr "cells") hd2
        have hx : Builtin.Int.intBits x ≤ 1048576 := hz x (List.mem_append_right _ (List.mem_singleton.mpr rfl))
        have hl' : l.length < 63 := by
          have e := hl
          rw [List.length_append, List.length_singleton] at e
          omega
        have hz' : ∀ z ∈ l, Builtin.Int.intBits z ≤ 1048576 := fun z hm => hz z (List.mem_append_left _ hm)
        have lst1 : ((l ++ [x]).map V.int)[((l ++ [x]).map V.int).length - 1]? = some (.int x) := by
          rw [List.map_append, List.length_append, List.length_map]
          show (l.map V.int ++ [V.int x])[l.length + 1 - 1]? = _
          rw [Nat.add_sub_cancel, List.getElem?_append_right (by rw [List.length_map]; exact Nat.le_refl _), List.length_map, Nat.sub_self]
          rfl
        have drop1 : ((l ++ [x]).map V.int).dropLast = l.map V.int := by
          rw [List.map_append]
          exact List.dropLast_concat
        -- the last cell is taken
        refine ⟨.ref d, rfl, d, _, rfl, g5, .inl ⟨rfl, _, .inl (.inl hc2)⟩, c, _, _, rfl, rfl, hc2, lst1, ?_⟩
        rw [drop1]
        have hd3 : (upd H2 c (.lst (l.map V.int))) d = some (.dK (deckKv c sd (t + 1))) := by
          rw [upd_ne ndc.symm]
          exact hd2
        have hc3 : (upd H2 c (.lst (l.map V.int))) c = some (.lst (l.map V.int)) := upd_same
        have bt3 : But d c H (upd H2 c (.lst (l.map V.int))) := fun b o h1 h2 e => by
          rw [upd_ne h2]
          exact bt2 b o h1 h2 e
        revert hd3 hc3 bt3
        show _ → _ → _ → tSeq _ _ _ _ (upd H2 c (.lst (l.map V.int)))
        generalize upd H2 c (.lst (l.map V.int)) = H3
        intro hd3 hc3 bt3
        refine ⟨.int x, rfl, 10, 18, rfl, rfl, ⟨by decide, by decide, by decide⟩, x, _, rfl, rfl, _, rfl, ite2 (fun _ => ?_) (fun _ => ?_)⟩
        · -- a digit of it
          have g6 : DGet H3 d (.str "cells") (some (.ref c)) := DGet.k (k := Sum.inr "cells") hd3
          refine ⟨.ref d, rfl, d, _, rfl, g6, .inl ⟨rfl, _, .inl (.inl hc3)⟩, .int x, rfl, .int n, rfl, x, n, rfl, rfl, ⟨by omega, by omega⟩, c, _, _, rfl, rfl, hc3, ?_, ?_⟩
          · rw [List.length_map]
            exact Nat.lt_of_lt_of_le hl' (by decide)
          refine ⟨.int x, rfl, .int n, rfl, x, n, rfl, rfl, by omega, ?_⟩
          refine q _ _ (Int.emod_nonneg _ (by omega)) (Int.emod_lt_of_pos _ (by omega)) (fun b o h1 h2 e => ?_) ⟨l ++ [x.fdiv n], sd, ?_, ?_, hs0, hs1, ?_, ?_⟩
          · rw [upd_ne h2]
            exact bt3 b o h1 h2 e
          · rw [upd_ne ndc.symm]
            exact hd3
          · rw [upd_same, List.map_append]
            rfl
          · rw [List.length_append]
            exact hl'
          · intro z hm
            rcases List.mem_append.mp hm with h1 | h1
            · exact hz' z h1
            · rw [List.mem_singleton.mp h1]
              exact PySem.intBits_fdiv_le hx
        · refine ⟨_, rfl, .int x, rfl, 69621, x, rfl, rfl, .of_left (by decide), _, _, rfl, rfl, ?_⟩
          refine ⟨_, _, rfl, ?_, bt3, ⟨l, sd, hd3, hc3, hs0, hs1, by omega, hz'⟩⟩
          have b1 : Builtin.Int.intBits (69621 * x) ≤ 1048650 := Nat.le_trans (PySem.intBits_mul_le (bits_lt (n := 20) (by decide) (by decide)) hx) (by decide)
          exact Nat.le_trans (bits_add (Nat.le_trans bm (by decide)) b1) (by decide)
    · rintro σ' H3 ⟨m, x4, rfl, hm, bt, dk⟩
      have T3 : Builtin.Int.intBits (48271 * ((t + 1 : Nat) : Int)) ≤ 100 := bits_lt (by omega) (by omega)
      have T4 : Builtin.Int.intBits (m + 48271 * ((t + 1 : Nat) : Int)) ≤ 1048701 := bits_add hm (Nat.le_trans T3 (by decide))
      refine ⟨.int m, rfl, .int m, rfl, .int ((t + 1 : Nat) : Int), rfl, 48271, ((t + 1 : Nat) : Int), rfl, rfl, .of_left (by decide), ?_⟩
      refine ⟨m, _, rfl, rfl, m, m + 48271 * ((t + 1 : Nat) : Int), rfl, rfl, .of_le hm T4 (by decide), _, _, rfl, rfl, pos_big, ?_⟩
      have b1 : (0 : Int) ≤ m * (m + 48271 * ((t + 1 : Nat) : Int)) % big := Int.emod_nonneg _ (by decide)
      have b2 : m * (m + 48271 * ((t + 1 : Nat) : Int)) % big < big := Int.emod_lt_of_pos _ (by decide)
      show tSeq _ _ _ [some (.ref d), some (.int n), some (.int ((t + 1 : Nat) : Int)), some (.int (m * (m + 48271 * ((t + 1 : Nat) : Int)) % big)), x4] _
      generalize m * (m + 48271 * ((t + 1 : Nat) : Int)) % big = r at b1 b2
      have b3 : Builtin.Int.intBits r ≤ 127 := bits_lt b1 (Int.lt_of_lt_of_le b2 (by decide))
      refine ⟨.int r, rfl, .int r, rfl, r, r, rfl, rfl, .of_le b3 b3 (by decide), .int ((t + 1 : Nat) : Int), rfl, 104729, ((t + 1 : Nat) : Int), rfl, rfl, .of_left (by decide), _, _, rfl, rfl, _, _, rfl, rfl, pos_big, ?_⟩
      refine ⟨_, rfl, _, 1048576, rfl, rfl, ⟨by decide, by decide⟩, .int n, rfl, _, n, rfl, rfl, by omega, ?_⟩
      exact q _ _ (Int.emod_nonneg _ (by omega)) (Int.emod_lt_of_pos _ (by omega)) bt dk

theorem ok_deck {f : Addr} {fd : FuncData} (D : DefAt K mg "_law_deck" ["_law_script"] s_l_deck f fd) (M : Bi mg) :
    Cal P w K mg base L2.CX0 1 "_law_deck" ["_law_script"] (spDeck K) := by
  have S := S_l_deck
  refine cal_of D.fn D.mgf D.bs D.kbs S (fun vs H Q E h => ?_) (fun cdv A outer s H vs Q E hq hr h => ?_)
  · obtain ⟨a, ns, rfl, _⟩ := h
    rfl
  · obtain ⟨a, ns, rfl, hs, hl, hb, q⟩ := h
    refine ⟨_, (pss_cons (ps_set (i := 1) S.nd rfl (.inl rfl) (pe_callTy call_list_of (by rfl) M.list_ (by decide +kernel) (pa_cons (pe_slice sl_list (pv 0) po_none (po_some pe_int)) pa_nil)))
 (pss_cons (ps_set (i := 2) S.nd rfl (.inl rfl) (pe_op op_add pe_int (pe_callB call_len_seq (by rfl) M.len_ (by decide +kernel) (pa_cons (pv 1) pa_nil))))
 (pss_cons (ps_for PassesOwn.never rfl (pi_list (pv 1)) (pg_name (i := 3) S.nd rfl (.inl rfl))
  (pss_one (ps_set (i := 2) S.nd rfl (.inl rfl) (pe_op op_mod (pe_op op_add (pe_op op_mulB (pv 2) pe_int) (pv 3)) pe_int))))
 (pss_one (ps_ret (pe_disp (pps_cons pe_str (pe_revL (pv 1)) (pps_cons pe_str (pv 2) (pps_cons pe_str pe_int pps_nil))) (by rfl) (by rfl) (fun z => by cases z) (by decide))))))), ?_⟩
    -- list(script[:63])
    refine ⟨.ref a, rfl, 63, rfl, a, _, rfl, hs, fun p np => ?_⟩
    have e63 : cutV (ns.map V.int) none (some 63) = ns.map V.int := by
      unfold cutV
      rw [HT.sIx_none, show HT.sIx (ns.map V.int).length (ns.map V.int).length (some 63) = min 63 (ns.map V.int).length from HT.sIx_nat _ _ 63]
      rw [List.length_map, Nat.min_eq_right hl]
      exact List.take_of_length_le (by rw [List.drop_zero, List.length_map]; exact Nat.le_refl _)
    rw [e63]
    refine ⟨p, _, rfl, .inl (.inl (.inl upd_same)), fun l nl => ?_⟩
    have s1 := same_new (o := .lst (ns.map V.int)) np
    have s2 := s1.trans (same_new (o := .lst (ns.map V.int)) nl)
    have el : (upd (upd H p (.lst (ns.map V.int))) l (.lst (ns.map V.int))) l = some (.lst (ns.map V.int)) := upd_same
    have fl : H l = none := s1.free nl
    revert s2 el
    show _ → _ → tSeq _ _ _ _ (upd (upd H p (.lst (ns.map V.int))) l (.lst (ns.map V.int)))
    generalize upd (upd H p (.lst (ns.map V.int))) l (.lst (ns.map V.int)) = H1
    intro s2 el
    -- the seed
    refine ⟨.ref l, rfl, l, _, rfl, .inl (.inl (.inl el)), 104729, _, rfl, rfl, ?_⟩
    have hlen : (ns.map V.int).length = ns.length := List.length_map _
    rw [hlen]
    refine ⟨.ref l, rfl, l, rfl, ⟨_, .inl (.inl el)⟩, for_list (xs := ns.map V.int)
      (fun i σ H' => H' = H1 ∧ ∃ (sd : Int) (x : Option V), σ = [some (.ref a), some (.ref l), some (.int sd), x] ∧ 0 ≤ sd ∧ sd < big) ?_ ?_ ?_ ?_⟩
    · exact ⟨rfl, 104729 + (ns.length : Int), none, rfl, by omega, by
        show (104729 : Int) + _ < 170141183460469231731687303715884105727
        omega⟩
    · rintro i σ H' _ ⟨rfl, _⟩
      exact .inl (.inl el)
    · rintro i x σ H' hx ⟨rfl, sd, y, rfl, h0, h1⟩
      rw [List.getElem?_map] at hx
      cases hz : ns[i]? with
      | none =>
        rw [hz] at hx
        cases hx
      | some z =>
        rw [hz] at hx
        obtain rfl : V.int z = x := Option.some.inj hx
        have bz := hb z (List.mem_of_getElem? hz)
        refine ⟨_, rfl, sd, 1000003, rfl, rfl, .of_right (by decide), _, rfl, _, _, rfl, rfl, _, _, rfl, rfl, pos_big, rfl, _, _, rfl, ?_, ?_⟩
        · exact Int.emod_nonneg _ (by decide)
        · exact Int.emod_lt_of_pos _ (by decide)
    · rintro σ H' ⟨rfl, sd, y, rfl, h0, h1⟩
      -- the dict
      intro r nr
      have npr : l ≠ r := ne_of_none el nr
      have el2 : (upd H' r (.dK [])) l = some (.lst (ns.map V.int)) := by
        rw [upd_ne npr]
        exact el
      refine ⟨.ref l, rfl, l, _, rfl, .inl (.inl el2), fun c nc => ?_⟩
      have ncr : r ≠ c := fun z => by
        rw [← z, upd_same] at nc
        cases nc
      refine ⟨_, rfl, ?_⟩
      refine ⟨by rw [upd_ne ncr, upd_same], deckKv c sd 0, rfl, by show 3 ≤ 15; decide, ?_⟩
      have fc : H' c = none := by
        rw [upd_ne (fun z => ncr z.symm)] at nc
        exact nc
      have fr : H r = none := s2.free nr
      have fc2 : H c = none := s2.free fc
      refine q r c _ ?_ fr fc2 ⟨ns.reverse, sd, ?_, ?_, h0, h1, ?_, ?_⟩
      · exact same_mut (same_mut (same_mut s2 fr) fc2) fr
      · exact upd_same
      · rw [upd_ne ncr.symm, upd_same, List.map_reverse]
      · rw [List.length_reverse]
        exact hl
      · intro z hz
        exact hb z (List.mem_reverse.mp hz)
theorem ok_pick {f : Addr} {fd : FuncData} (D : DefAt K mg "_law_pick" ["_law_deck_here", "_law_some"] s_l_pick f fd) (M : Bi mg)
    (C_l_draw : Cal P w K mg base L2.CX0 1 "_law_draw" ["_law_deck_here", "_law_sides"] spDraw) :
    Cal P w K mg base L2.CX0 2 "_law_pick" ["_law_deck_here", "_law_some"] (spPick K) := by
  have S := S_l_pick
  refine cal_of D.fn D.mgf D.bs D.kbs S (fun vs H Q E h => ?_) (fun cdv A outer s H vs Q E hq hr h => ?_)
  · obtain ⟨d, c, t, v, xs, rfl, _⟩ := h
    rfl
  · obtain ⟨d, c, t, v, xs, rfl, hs, h1, h2, n1, n2, dk, ht, q⟩ := h
    refine ⟨_, (pss_one (ps_ret (pe_ix ix_seq (pv 1) (pe_c C_l_draw pass0 hq hr (by omega) (by rfl) (pa_cons (pv 0) (pa_cons (pe_callB call_len (by rfl) M.len_ (by decide +kernel) (pa_cons (pv 1) pa_nil)) pa_nil))) (fun _ _ => rfl)))), ?_⟩
    refine ⟨v, rfl, .ref d, rfl, v, rfl, v, _, rfl, hs.lenV, d, c, _, t, rfl, by omega, by omega, dk, ht, fun r H' r0 r1 bt dk' => ?_⟩
    obtain ⟨y, e1, e2⟩ := atI_lt r0 r1 rfl
    exact (bt.sq n1 n2 hs).item e1 (q _ y H' e2 bt dk')

/-! ### names -/
abbrev letters : Str := "abcdefghijklmnopqrstuvwxyz"
abbrev keptT : Str := "clock in out wire box cross use num not and or xor sum same below pick join cut bit one"
def keptL : List Str := Txt.split keptT " "
theorem keptL_eq : keptL = ([("clock" : Str), "in", "out", "wire", "box", "cross", "use", "num", "not", "and", "or", "xor", "sum", "same", "below", "pick", "join", "cut", "bit", "one"] : List Str) := by decide +kernel
theorem keptL_len : keptL.length = 20 := by decide +kernel
theorem keptL_le : ∀ z ∈ keptL, z.length ≤ 5 := by
  rw [keptL_eq]
  decide +kernel
def isNm (z : Str) : Bool := decide (0 < z.length ∧ z.length < 7) && (!decide (z ∈ keptL) && z.cps.toList.all fun c => decide (c ∈ letters.cps.toList))
theorem str_ext {a b : Str} (h : a.cps.toList = b.cps.toList) : a = b := by
  cases a
  cases b
  congr
  exact Array.ext' h
def spKept : Sp := fun vs H Q _ => vs = [] ∧ ∀ p, H p = none → Q (.ref p) (upd H p (.lst (keptL.map V.str)))
def spName : Sp := fun vs H Q _ => ∃ (d c : Addr) (t : Nat), vs = [.ref d] ∧ Deck H d c t ∧ t < 100000000000 ∧
  ∀ (z : Str) (t' : Nat) (H' : Hp), isNm z = true → t ≤ t' → t' ≤ t + 12 → But d c H H' → Deck H' d c t' → Q (.str z) H'
theorem inV_strs (z : Str) : ∀ ws : List Str, inV (.str z) (ws.map V.str) = decide (z ∈ ws)
  | [] => rfl
  | y :: ws => by
    have ih := inV_strs z ws
    unfold inV at ih ⊢
    rw [List.map_cons, List.any_cons, ih]
    show (y == z || decide (z ∈ ws)) = decide (z ∈ y :: ws)
    by_cases e : y = z
    · subst e
      simp
    · have e' : ¬ z = y := fun h => e h.symm
      simp [e, e']
theorem flat_strs (ws : List Str) : (ws.map V.str).all flatV = true := by
  rw [List.all_map]
  exact List.all_eq_true.mpr fun _ _ => rfl
theorem join_len : ∀ {ys : List Str}, (∀ y ∈ ys, y.length = 1) → (ys.map (·.length)).sum = ys.length
  | [], _ => rfl
  | y :: ys, h => by
    rw [List.map_cons, List.sum_cons, h y List.mem_cons_self, join_len fun z hz => h z (List.mem_cons_of_mem _ hz), List.length_cons]
    omega
def preNm (z : Str) : Bool := decide (0 < z.length ∧ z.length < 7) && z.cps.toList.all fun c => decide (c ∈ letters.cps.toList)
theorem pre_kept : ∀ kw ∈ keptL, preNm (cutS (kw ++ Str.ofString "x") none (some 6)) = true ∧ preNm (cutS (cutS kw none (some (-1))) none (some 6)) = true ∧ preNm (cutS (Str.ofString "a" ++ kw) none (some 6)) = true := by
  rw [keptL_eq]
  decide +kernel
theorem nm_kept_q : ∀ kw ∈ keptL, isNm (kw ++ Txt.mul (Str.ofString "q") 1) = true := by
  rw [keptL_eq]
  decide +kernel
theorem joinL_nil : ∀ ls : List (List Nat), TL.joinL [] ls = ls.flatten
  | [] => rfl
  | [x] => by
    show x = _
    simp
  | x :: y :: r => by
    have ih := joinL_nil (y :: r)
    have e : TL.joinL [] (x :: y :: r) = x ++ TL.joinL [] (y :: r) := by simp [TL.joinL]
    rw [e, ih]
    rfl
theorem flat_len : ∀ {ys : List Str}, (∀ y ∈ ys, y.length = 1 ∧ ∀ c ∈ y.cps.toList, c ∈ letters.cps.toList) → ((ys.map TL.tl).flatten.length = ys.length ∧ ∀ c ∈ (ys.map TL.tl).flatten, c ∈ letters.cps.toList)
  | [], _ => ⟨rfl, fun c h => by simp at h⟩
  | y :: ys, h => by
    obtain ⟨a, b⟩ := flat_len (ys := ys) fun z hz => h z (List.mem_cons_of_mem _ hz)
    obtain ⟨u, v⟩ := h y List.mem_cons_self
    rw [List.map_cons, List.flatten_cons]
    refine ⟨?_, fun c hc => ?_⟩
    · rw [List.length_append, a, List.length_cons]
      have : (TL.tl y).length = 1 := by
        rw [← u]
        exact Array.length_toList
      omega
    · rcases List.mem_append.mp hc with hc | hc
      · exact v c hc
      · exact b c hc
theorem pre_join {ys : List Str} (h : ∀ y ∈ ys, y.length = 1 ∧ ∀ c ∈ y.cps.toList, c ∈ letters.cps.toList) (h1 : 1 ≤ ys.length) (h6 : ys.length ≤ 6) : preNm (Txt.join (Str.ofString "") ys) = true := by
  have e : TL.tl (Txt.join (Str.ofString "") ys) = (ys.map TL.tl).flatten := by
    show TL.tl (Builtin.Str.glued (Str.ofString "") ys) = _
    rw [StrLaws.glued_eq_join, TL.tl_join]
    exact joinL_nil _
  obtain ⟨a, b⟩ := flat_len h
  have l : (Txt.join (Str.ofString "") ys).length = ys.length := by
    rw [← a, ← e]
    exact Array.length_toList.symm
  unfold preNm
  rw [Bool.and_eq_true, decide_eq_true_eq, l, List.all_eq_true]
  refine ⟨by omega, fun c hc => decide_eq_true (b c ?_)⟩
  rw [← e]
  exact hc
theorem pre_len {z : Str} (h : preNm z = true) : z.length ≤ 6 := by
  unfold preNm at h
  rw [Bool.and_eq_true, decide_eq_true_eq] at h
  omega
theorem nm_of_pre {z : Str} (h : preNm z = true) (hk : z ∉ keptL) : isNm z = true := by
  unfold preNm at h
  unfold isNm
  rw [Bool.and_eq_true] at h
  rw [Bool.and_eq_true, Bool.and_eq_true, decide_eq_false hk]
  exact ⟨h.1, rfl, h.2⟩
theorem nm_q {z : Str} (h : preNm z = true) (b : Bool) (hb : b = decide (z ∈ keptL)) : isNm (z ++ Txt.mul (Str.ofString "q") (if b then (1 : Int) else 0)) = true := by
  by_cases hk : z ∈ keptL
  · rw [hb, decide_eq_true hk]
    exact nm_kept_q z hk
  · rw [hb, decide_eq_false hk]
    have e : z ++ Txt.mul (Str.ofString "q") 0 = z := by
      have e0 : Txt.mul (Str.ofString "q") 0 = Str.ofString "" := by decide +kernel
      rw [e0]
      refine str_ext ((TL.tl_append _ _).trans ?_)
      exact List.append_nil _
    show isNm (z ++ Txt.mul (Str.ofString "q") 0) = true
    rw [e]
    exact nm_of_pre h hk
theorem ok_kept {f : Addr} {fd : FuncData} (D : DefAt K mg "_law_kept" [] s_l_kept f fd) : Cal P w K mg base L2.CX0 1 "_law_kept" [] spKept := by
  have S := S_l_kept
  refine cal_of D.fn D.mgf D.bs D.kbs S (fun vs H Q E h => ?_) (fun cdv A outer s H vs Q E hq hr h => ?_)
  · obtain ⟨rfl, _⟩ := h
    rfl
  · obtain ⟨rfl, q⟩ := h
    refine ⟨_, (pss_one (ps_ret (pe_split pe_str pe_str))), ?_⟩
    exact ⟨⟨_, rfl⟩, _, _, rfl, rfl, by decide, by decide +kernel, fun p np => q p np⟩
theorem ok_name {f : Addr} {fd : FuncData} (D : DefAt K mg "_law_name" ["_law_deck_here"] s_l_name f fd) (M : Bi mg)
    (C_l_draw : Cal P w K mg base L2.CX0 1 "_law_draw" ["_law_deck_here", "_law_sides"] spDraw)
    (C_l_pick : Cal P w K mg base L2.CX0 2 "_law_pick" ["_law_deck_here", "_law_some"] (spPick K))
    (C_l_kept : Cal P w K mg base L2.CX0 1 "_law_kept" [] spKept) :
    Cal P w K mg base L2.CX0 3 "_law_name" ["_law_deck_here"] spName := by
  have S := S_l_name
  refine cal_of D.fn D.mgf D.bs D.kbs S (fun vs H Q E h => ?_) (fun cdv A outer s H vs Q E hq hr h => ?_)
  · obtain ⟨d, c, t, rfl, _⟩ := h
    rfl
  · obtain ⟨d, c, t, rfl, dk, ht, q⟩ := h
    refine ⟨_, (pss_cons (ps_set (i := 1) S.nd rfl (.inr rfl) pe_str)
 (pss_cons (ps_set (i := 2) S.nd rfl (.inl rfl) (pe_c C_l_draw pass0 hq hr (by omega) (by rfl) (pa_cons (pv 0) (pa_cons pe_int pa_nil))))
 (pss_cons (ps_set (i := 3) S.nd rfl (.inl rfl) (pe_join pe_str (pe_lc (own := [("_law_k", 4)]) (g := gName 4) (tt := tYes) rfl S.nd (pi_range1 (by rfl) M.range_ (pa_cons (pe_ix ix_list (pe_lst (pa_cons pe_int (pa_cons pe_int (pa_cons (pe_op op_add pe_int (pe_c C_l_draw pass0 hq hr (by omega) (by rfl) (pa_cons (pv 0) (pa_cons pe_int pa_nil)))) (pa_cons pe_int pa_nil))))) (pv 2) (fun _ _ => rfl)) pa_nil)) (blkOk_by (own := [("_law_k", 4)]) (N := N_l_name) (sc := defScope s_l_name) (by decide +kernel)) (fun _ _ _ _ _ => pg_name (i := 4) S.nd rfl (.inl rfl)) (fun _ _ _ _ _ => pts_nil) (fun _ _ _ _ _ => (pe_c C_l_pick pass0 hq hr (by omega) (by rfl) (pa_cons (pv 0) (pa_cons (pv 1) pa_nil)))))))
 (C8.pss_cut (ps_if (pt_cmpR op_eq (pv 2) pe_int (nomark _))
  (pss_cons (ps_set (i := 5) S.nd rfl (.inl rfl) (pe_c C_l_pick pass0 hq hr (by omega) (by rfl) (pa_cons (pv 0) (pa_cons (pe_c0 C_l_kept pass0 hq hr (by omega) (by rfl)) pa_nil))))
 (pss_one (ps_set (i := 3) S.nd rfl (.inl rfl) (pe_slice sl_str (pe_ix ix_list (pe_lst (pa_cons (pe_op op_add_str (pv 5) pe_str) (pa_cons (pe_slice sl_str (pv 5) po_none (po_some (pe_un un_neg pe_int))) (pa_cons (pe_op op_add_str pe_str (pv 5)) pa_nil)))) (pe_c C_l_draw pass0 hq hr (by omega) (by rfl) (pa_cons (pv 0) (pa_cons pe_int pa_nil))) (fun _ _ => rfl)) po_none (po_some pe_int)))))
  pss_nil)
 (pss_one (ps_ret (pe_op op_add_str (pv 3) (pe_op op_repS pe_str (pe_callTy call_int1 (by rfl) M.int_ (by decide +kernel) (pa_cons (pe_cmpR op_in_seq (pv 3) (pe_c0 C_l_kept pass0 hq hr (by omega) (by rfl)) rfl) pa_nil)))))))))), ?_⟩
    -- way
    refine ⟨.ref d, rfl, d, c, 4, t, rfl, by decide, by decide, dk, by omega, fun r H1 r0 r1 b1 dk1 => ?_⟩
    -- the length of the word
    refine ⟨⟨_, rfl⟩, ?_⟩
    refine ⟨.ref d, rfl, d, c, 6, t + 1, rfl, by decide, by decide, dk1, by omega, fun r2 H2 r20 r21 b2 dk2 => ?_⟩
    refine ⟨1, r2, rfl, rfl, by show 4 ≤ sizeLine; decide, fun p np => ?_⟩
    have bt2 := (b1.trans b2).same (same_new (o := .lst [.int 1, .int 6, .int (1 + r2), .int 1]) np)
    have dk3 := dk2.new (o := .lst [.int 1, .int 6, .int (1 + r2), .int 1]) np
    have ep : (upd H2 p (.lst [.int 1, .int 6, .int (1 + r2), .int 1])) p = some (.lst [.int 1, .int 6, .int (1 + r2), .int 1]) := upd_same
    obtain ⟨n, en, n1, n6⟩ : ∃ n : Nat, atI [V.int 1, .int 6, .int (1 + r2), .int 1] r = some (.int (n : Int)) ∧ 1 ≤ n ∧ n ≤ 6 := by
      have h : r = 0 ∨ r = 1 ∨ r = 2 ∨ r = 3 := by omega
      rcases h with rfl | rfl | rfl | rfl
      · exact ⟨1, rfl, by omega, by omega⟩
      · exact ⟨6, rfl, by omega, by omega⟩
      · obtain ⟨k, rfl⟩ := Int.eq_ofNat_of_zero_le r20
        refine ⟨1 + k, ?_, by omega, by omega⟩
        show some (V.int (1 + (k : Int))) = some (V.int ((1 + k : Nat) : Int))
        rw [Int.natCast_add]
        rfl
      · exact ⟨1, rfl, by omega, by omega⟩
    refine ⟨.int r, rfl, p, _, r, _, rfl, rfl, .inl (.inl ep), en, (n : Int), rfl, by omega, by omega, ?_⟩
    revert bt2 dk3
    generalize upd H2 p (.lst [.int 1, .int 6, .int (1 + r2), .int 1]) = H3
    intro bt3 dk3
    -- its signs
    intro D nD
    rw [Int.toNat_natCast]
    have fD := dk3.free nD
    refine lc_range (lo := 0) (n := n) (fun i H' => ∃ (t' : Nat) (ys : List Str), But d c H3 H' ∧ Deck H' d c t' ∧ t' = t + 2 + i ∧ H' D = some (.lst (ys.map V.str)) ∧ ys.length = i ∧ ∀ y ∈ ys, y.length = 1 ∧ ∀ c ∈ y.cps.toList, c ∈ letters.cps.toList) ?_ ?_ ?_
    · exact ⟨t + 2, [], But.of (same_new nD), dk3.new nD, rfl, upd_same, rfl, fun _ h => by simp at h⟩
    · rintro i H' hi ⟨t', ys, bt', dk', rfl, eD, el, e1⟩
      refine ⟨rfl, ?_⟩
      unfold tYes
      refine iteT ?_
      refine ⟨.ref d, rfl, .str letters, rfl, d, c, t + 2 + i, .str letters, sgV letters, rfl, .str (by decide), by decide +kernel, by decide +kernel, (by intro z; cases z), (by intro z; cases z), dk', by omega, fun j x H4 ex bt4 dk4 => ?_⟩
      obtain ⟨k, rfl, hk7⟩ := sgV_get ex
      have eD4 : H4 D = some (.lst (ys.map V.str)) := bt4 _ _ fD.1 fD.2 eD
      refine ⟨_, eD4, ?_, t + 2 + i + 1, ys ++ [⟨#[k]⟩], (bt'.trans bt4).mut nD, dk4.mut fD.1.symm fD.2.symm, by omega, ?_, ?_, ?_⟩
      · rw [List.length_map, el]
        exact Nat.lt_of_lt_of_le (show i < 6 by omega) (by decide)
      · rw [upd_same, List.map_append]
        rfl
      · rw [List.length_append, el]
        rfl
      · intro y hy
        rcases List.mem_append.mp hy with h | h
        · exact e1 y h
        · rw [List.mem_singleton.mp h]
          refine ⟨rfl, fun c hc => ?_⟩
          obtain rfl : c = k := List.mem_singleton.mp hc
          exact List.mem_of_getElem? hk7
    · rintro H' ⟨t', ys, bt', dk', rfl, eD, el, e1⟩
      have e1' : ∀ y ∈ ys, y.length = 1 := fun y hy => (e1 y hy).1
      have sz : (ys.map (·.length)).sum + ys.length * (Str.ofString "").length ≤ 16777216 := by
        rw [join_len e1', el]
        show n + n * 0 ≤ 16777216
        omega
      have zl : preNm (Txt.join (Str.ofString "") ys) = true := pre_join e1 (by omega) (by omega)
      have bH : But d c H H' := bt3.trans bt'
      refine ⟨_, D, ys, rfl, rfl, .inl (.inl (.inl eD)), sz, ?_⟩
      revert zl
      generalize Txt.join (Str.ofString "") ys = z0
      intro zl
      refine ⟨fun σ' H' => ∃ (z : Str) (t' : Nat) (x4 x5 : Option V), σ' = [some (.ref d), some (.str letters), some (.int r), some (.str z), x4, x5] ∧ preNm z = true ∧
        t ≤ t' ∧ t' ≤ t + 12 ∧ But d c H H' ∧ Deck H' d c t', ?_, ?_⟩
      · refine ⟨.int r, rfl, rfl, _, rfl, ite2 (fun e => ?_) (fun e => ?_)⟩
        · -- a kept word with a sign more or less
          refine ⟨.ref d, rfl, rfl, fun p np => ?_⟩
          have fp := dk'.free np
          refine ⟨d, c, t + 2 + n, .ref p, keptL.map V.str, rfl, .lst (.inl (.inl upd_same)), ?_, ?_, fun h => fp.1 (V.ref.inj h), fun h => fp.2 (V.ref.inj h), dk'.new np, by omega, fun j x H4 ex bt4 dk4 => ?_⟩
          · rw [List.length_map, keptL_len]
            decide
          · rw [List.length_map, keptL_len]
            decide
          have bH4 : But d c H H4 := (bH.same (same_new np)).trans bt4
          rw [List.getElem?_map] at ex
          obtain ⟨kw, hkw, rfl⟩ : ∃ kw, keptL[j]? = some kw ∧ V.str kw = x := by
            cases hq : keptL[j]? with
            | none =>
              rw [hq] at ex
              cases ex
            | some kw =>
              rw [hq] at ex
              exact ⟨kw, rfl, Option.some.inj ex⟩
          have kl : kw.length ≤ 5 := keptL_le kw (List.mem_of_getElem? hkw)
          have l1 : kw.length + (Str.ofString "x").length ≤ sizeLine := by
            show kw.length + 1 ≤ sizeLine
            exact Nat.le_trans (show kw.length + 1 ≤ 6 by omega) (by decide)
          have l2 : kw.length ≤ sizeLine := Nat.le_trans kl (by decide)
          have l3 : (Str.ofString "a").length + kw.length ≤ sizeLine := by
            show 1 + kw.length ≤ sizeLine
            exact Nat.le_trans (show 1 + kw.length ≤ 6 by omega) (by decide)
          refine ⟨.str kw, rfl, kw, _, rfl, rfl, l1, .str kw, rfl, 1, rfl, -1, rfl, kw, rfl, l2, .str kw, rfl, _, kw, rfl, rfl, l3, by show 3 ≤ sizeLine; decide, fun p2 np2 => ?_⟩
          have fp2 := dk4.free np2
          refine ⟨.ref d, rfl, d, c, 3, t + 2 + n + 1, rfl, by decide, by decide, dk4.new np2, by omega, fun r3 H5 r30 r31 b5 dk5 => ?_⟩
          have eL := b5 p2 _ fp2.1 fp2.2 upd_same
          obtain ⟨y, ey, yl, ypre⟩ : ∃ y : Str, atI [V.str (kw ++ Str.ofString "x"), .str (cutS kw none (some (-1))), .str (Str.ofString "a" ++ kw)] r3 = some (.str y) ∧ y.length ≤ 6 ∧ preNm (cutS y none (some 6)) = true := by
            have h : r3 = 0 ∨ r3 = 1 ∨ r3 = 2 := by omega
            rcases h with rfl | rfl | rfl
            · refine ⟨_, rfl, ?_, (pre_kept kw (List.mem_of_getElem? hkw)).1⟩
              rw [strLen_append]
              show kw.length + 1 ≤ 6
              omega
            · exact ⟨_, rfl, Nat.le_trans (cutS_length _ _ _) (by omega), (pre_kept kw (List.mem_of_getElem? hkw)).2.1⟩
            · refine ⟨_, rfl, ?_, (pre_kept kw (List.mem_of_getElem? hkw)).2.2⟩
              rw [strLen_append]
              show 1 + kw.length ≤ 6
              omega
          refine ⟨p2, _, r3, _, rfl, rfl, .inl (.inl eL), ey, 6, rfl, y, rfl, Nat.le_trans yl (by decide), ?_⟩
          exact ⟨_, t + 2 + n + 1 + 1, _, _, rfl, ypre, by omega, by omega, (bH4.same (same_new np2)).trans b5, dk5⟩
        · exact ⟨z0, t + 2 + n, _, _, rfl, zl, by omega, by omega, bH, dk'⟩
      · rintro σ' H6 ⟨z, t', x4, x5, rfl, zl, t1, t2, b6, dk6⟩
        -- one sign more where it is kept
        refine ⟨.str z, rfl, .str z, rfl, rfl, fun p np => ?_⟩
        refine ⟨p, keptL.map V.str, rfl, .inl (.inl (.inl upd_same)), rfl, flat_strs _, .inr ⟨_, rfl, ?_⟩⟩
        have mk : ∀ k : Int, 0 ≤ k → k ≤ 1 → (Txt.mul (Str.ofString "q") k).length ≤ 1 := fun k _ h1 => len_mul_leN (L := 1) (N := 1) (by decide) h1
        have k01 : ∀ b : Bool, 0 ≤ (if b then (1 : Int) else 0) ∧ (if b then (1 : Int) else 0) ≤ 1 := fun b => by cases b <;> decide
        refine ⟨_, _, rfl, rfl, by decide, (k01 _).1, Int.le_trans (k01 _).2 (by decide), ?_⟩
        have ml := mk _ (k01 (if false = true then !inV (V.str z) (keptL.map V.str) else inV (V.str z) (keptL.map V.str))).1 (k01 _).2
        refine ⟨z, _, rfl, rfl, ?_, ?_⟩
        · exact Nat.le_trans (Nat.add_le_add (pre_len zl) ml) (by decide)
        · refine q _ t' _ ?_ t1 t2 (b6.same (same_new np)) (dk6.new np)
          exact nm_q zl _ (inV_strs z keptL)

/-! ### what a name is -/
def nmV : V → Bool
  | .str z => isNm z
  | _ => false
/-- what may be asked of it -/
inductive Th (H : Hp) : V → Prop
  | non : Th H .non
  | bl (b : Bool) : Th H (.bl b)
  | int (i : Int) : Th H (.int i)
  | str {z : Str} (h : z.length ≤ 1000) : Th H (.str z)
  | lst {a : Addr} {xs : List V} (h : H a = some (.lst xs)) : Th H (.ref a)
  | tup {a : Addr} {xs : List V} (h : H a = some (.tup xs)) : Th H (.ref a)
  | dct {a : Addr} {kvs : List (L2.Key × V)} (h : H a = some (.dK kvs)) : Th H (.ref a)
theorem Th.keep {H H' : Hp} {v : V} (h : Th H v) (k : ∀ a, v = .ref a → ∀ o, H a = some o → H' a = some o) : Th H' v := by
  cases h with
  | non => exact .non
  | bl b => exact .bl b
  | int i => exact .int i
  | str h => exact .str h
  | lst h => exact .lst (k _ rfl _ h)
  | tup h => exact .tup (k _ rfl _ h)
  | dct h => exact .dct (k _ rfl _ h)
/-- whether it is a text -/
def isS : V → Bool
  | .str _ => true
  | _ => false
theorem Th.isi {K : PySem.W.Frag} {H : Hp} {v : V} (h : Th H v) : ∃ t, TyX K H v t ∧ PySem.W.kitOne K t (.type "str") = some (isS v) := by
  cases h with
  | non => exact ⟨_, .base .non, (show PySem.W.kitOne K (.type "NoneType") (.type "str") = some false from kit_ty (by decide +kernel))⟩
  | bl b => exact ⟨_, .base (.bl b), (show PySem.W.kitOne K (.type "bool") (.type "str") = some false from kit_ty (by decide +kernel))⟩
  | int i => exact ⟨_, .base (.int i), (show PySem.W.kitOne K (.type "int") (.type "str") = some false from kit_ty (by decide +kernel))⟩
  | str h => exact ⟨_, .base (.str _), (show PySem.W.kitOne K (.type "str") (.type "str") = some true from kit_ty (by decide +kernel))⟩
  | lst h => exact ⟨_, .base (.lst h), (show PySem.W.kitOne K (.type "list") (.type "str") = some false from kit_ty (by decide +kernel))⟩
  | tup h => exact ⟨_, .base (.tup h), (show PySem.W.kitOne K (.type "tuple") (.type "str") = some false from kit_ty (by decide +kernel))⟩
  | dct h => exact ⟨_, .base (.dK h), (show PySem.W.kitOne K (.type "dict") (.type "str") = some false from kit_ty (by decide +kernel))⟩
theorem nmV_not {v : V} (h : isS v = false) : nmV v = false := by
  cases v <;> first | rfl | cases h
def spIs : Sp := fun vs H Q _ => ∃ v, vs = [v] ∧ Th H v ∧ ∀ H', Same H H' → Q (.bl (nmV v)) H'
/-- the top's own names -/
structure Tp (K : PySem.W.Frag) (mg : Str → Option Value) : Prop where
  c_LETTERS : ∃ u, mg "LETTERS" = some u ∧ RelV (.str letters) u
  c_LONGEST_NAME : ∃ u, mg "LONGEST_NAME" = some u ∧ RelV (.int 6) u
structure Kw (K : PySem.W.Frag) (mg : Str → Option Value) (kw : Addr) : Prop where
  c_KEPT_WORDS : ∃ u, mg "KEPT_WORDS" = some u ∧ RelV (.ref kw) u
  sq : ∀ H, SqT K H kw (keptL.map V.str)
theorem ok_is_name {f : Addr} {fd : FuncData} (D : DefAt K mg "is_name" ["thing"] s_is_name f fd) (M : Bi mg) (T : Tp K mg) {kw : Addr} (W : Kw K mg kw) :
    Cal P w K mg base L2.CX0 1 "is_name" ["thing"] spIs := by
  have S := S_is_name
  refine cal_of D.fn D.mgf D.bs D.kbs S (fun vs H Q E h => ?_) (fun cdv A outer s H vs Q E hq hr h => ?_)
  · obtain ⟨v, rfl, _⟩ := h
    rfl
  · obtain ⟨v, rfl, th, q⟩ := h
    refine ⟨_, (pss_cons (ps_if (PW.pt (pw_or (pt_not (pt_val (pe_callB call_isi (by rfl) M.isinstance_ (by decide +kernel) (pa_cons (pv 0) (pa_cons (pe_bltn (v := .ty "str") (u := .type "str") (by rfl) M.str_ (by decide +kernel) rfl) pa_nil))))) (pw_or1 (pt_not (pt_chain op_le op_le pe_int (pe_callB call_len_str (by rfl) M.len_ (by decide +kernel) (pa_cons (pv 0) pa_nil)) (C8.pe_gc (by rfl) T.c_LONGEST_NAME))))))
  (pss_one (ps_ret pe_bl))
  pss_nil)
 (pss_one (ps_ret (pe_and (pe_cmpR op_notIn_seq (pv 0) (C8.pe_gc (by rfl) W.c_KEPT_WORDS) rfl) (pe_one (pe_callB (cr_all rfl) (by rfl) M.all_ (by decide +kernel) (pa_cons (pe_lc (own := [("sign", 1)]) (g := gName 1) (tt := tYes) rfl S.nd (pi_str (pv 0)) (blkOk_by (own := [("sign", 1)]) (N := N_is_name) (sc := defScope s_is_name) (by decide +kernel)) (fun _ _ _ _ _ => pg_name (i := 1) S.nd rfl (.inl rfl)) (fun _ _ _ _ _ => pts_nil) (fun _ _ _ _ _ => (pe_cmpR op_in_sign (pv 1) (C8.pe_gc (by rfl) T.c_LETTERS) rfl))) pa_nil))))))), ?_⟩
    obtain ⟨ty, h1, h2⟩ := th.isi (K := K)
    refine ⟨v, rfl, v, _, ty, _, _, rfl, .ty "str", h1, h2, ?_⟩
    cases hs : isS v with
    | false =>
      refine ⟨false, rfl, iteT (iteT ?_)⟩
      have q' := q H (Same.refl H)
      rw [nmV_not hs] at q'
      exact q'
    | true =>
      refine ⟨true, rfl, iteF ?_⟩
      cases th with
      | @str z hz =>
        have hz2 : z.length ≤ sizeLine := Nat.le_trans hz (by decide)
        refine ⟨.str z, rfl, z, rfl, hz2, 1, z.length, rfl, rfl, decide ((1 : Int) ≤ z.length), rfl, ?_⟩
        by_cases hl : 0 < z.length ∧ z.length < 7
        · have d1 : decide ((1 : Int) ≤ z.length) = true := decide_eq_true (by omega)
          have d2 : decide ((z.length : Int) ≤ 6) = true := decide_eq_true (by omega)
          rw [d1]
          refine iteT ⟨z.length, 6, rfl, rfl, decide ((z.length : Int) ≤ 6), rfl, ?_⟩
          rw [d2]
          refine iteF ?_
          -- no kept word
          refine ⟨.str z, rfl, kw, keptL.map V.str, rfl, .inr (W.sq H), rfl, flat_strs _, _, rfl, ?_⟩
          rw [if_pos rfl, inV_strs]
          by_cases hk : z ∈ keptL
          · rw [decide_eq_true hk]
            refine iteF ?_
            have q' := q H (Same.refl H)
            have e : nmV (.str z) = false := by
              show (decide _ && (!decide (z ∈ keptL) && _)) = false
              rw [decide_eq_true hk, Bool.not_true, Bool.false_and, Bool.and_false]
            rw [e] at q'
            exact q'
          · rw [decide_eq_false hk]
            refine iteT ?_
            refine ⟨.str z, rfl, z, rfl, fun D nD => ?_⟩
            refine lc_str (x := z) (fun i H' => Same H H' ∧ H' D = some (.lst (((z.cps.toList.take i).map fun c => decide (c ∈ letters.cps.toList)).map V.bl))) ?_ ?_ ?_
            · exact ⟨same_new nD, upd_same⟩
            · rintro i c H' hc ⟨sm, eD⟩
              refine ⟨rfl, ?_⟩
              unfold tYes
              refine iteT ?_
              refine ⟨.str ⟨#[c]⟩, rfl, c, letters, rfl, rfl, _, eD, ?_, same_mut sm nD, ?_⟩
              · rw [List.length_map, List.length_map, List.length_take]
                exact Nat.lt_of_le_of_lt (Nat.min_le_right _ _) (by
                  rw [Array.length_toList]
                  exact Nat.lt_of_le_of_lt hz (by decide))
              · rw [upd_same, List.take_add_one, hc, List.map_append, List.map_append]
                rfl
            · rintro H' ⟨sm, eD⟩
              refine ⟨D, _, rfl, .inl (.inl eD), ?_⟩
              have q' := q H' sm
              have e : nmV (.str z) = (((z.cps.toList.take z.cps.size).map fun c => decide (c ∈ letters.cps.toList))).all id := by
                show (decide (0 < z.length ∧ z.length < 7) && (!decide (z ∈ keptL) && _)) = _
                rw [decide_eq_false hk, Bool.not_false, Bool.true_and, decide_eq_true hl, Bool.true_and, List.all_map, List.take_of_length_le (by rw [Array.length_toList]; exact Nat.le_refl _)]
                rfl
              rw [e] at q'
              exact q'
        · have e : nmV (.str z) = false := by
            show (decide (0 < z.length ∧ z.length < 7) && _) = false
            rw [decide_eq_false hl, Bool.false_and]
          have q' := q H (Same.refl H)
          rw [e] at q'
          by_cases h0 : (1 : Int) ≤ z.length
          · rw [decide_eq_true h0]
            refine iteT ⟨z.length, 6, rfl, rfl, decide ((z.length : Int) ≤ 6), rfl, ?_⟩
            rw [decide_eq_false (show ¬ (z.length : Int) ≤ 6 by omega)]
            exact iteT q'
          · rw [decide_eq_false h0]
            exact iteF ⟨false, rfl, iteT q'⟩
      | _ => cases hs

end
section
variable {P : Program} {w : World} {K : PySem.W.Frag} {mg : Str → Option Value} {base : Heap}
/-! ### words of an expression, numbers -/
def isSpot (z : Str) : Bool := decide ((Txt.split z ".").length ≤ 2) && (Txt.split z ".").all isNm
abbrev figures : Str := "0123456789"
def dig (c : Nat) : Bool := decide (c ∈ figures.cps.toList)
def numV (z : Str) : Int := ((NumText.digitsVal z.cps.toList : Nat) : Int)
def isNum (z : Str) (lo hi : Int) : Bool := (decide ((1 : Int) ≤ z.length ∧ (z.length : Int) ≤ (Str.ofString (toString hi)).length) && z.cps.toList.all dig) &&
  ((decide (V.str z = V.str "0") || !decide (V.str ⟨#[z.cps.toList.getD 0 0]⟩ = V.str "0")) && decide (lo ≤ numV z ∧ numV z ≤ hi))
def spSpot : Sp := fun vs H Q _ => ∃ z : Str, vs = [.str z] ∧ z.length ≤ 1000 ∧ ∀ H', Same H H' → Q (.bl (isSpot z)) H'
def spNum : Sp := fun vs H Q _ => ∃ (z : Str) (lo hi : Int), vs = [.str z, .int lo, .int hi] ∧ z.length ≤ 1000 ∧ 0 ≤ hi ∧ hi ≤ 1000000 ∧ (Str.ofString (toString hi)).length ≤ 7 ∧ ∀ H', Same H H' → Q (.bl (isNum z lo hi)) H'
structure Tp2 (K : PySem.W.Frag) (mg : Str → Option Value) : Prop where
  c_FIGURES : ∃ u, mg "FIGURES" = some u ∧ RelV (.str figures) u
theorem le_sum : ∀ {l : List Nat} {x : Nat}, x ∈ l → x ≤ l.sum
  | [], _, h => absurd h List.not_mem_nil
  | y :: l, x, h => by
    rw [List.sum_cons]
    rcases List.mem_cons.mp h with rfl | h
    · omega
    · have := le_sum h
      omega
theorem split_dot_len (z : Str) : ∀ y ∈ Txt.split z ".", y.length ≤ z.length := by
  have h := split_weight z "." (by decide)
  intro y hy
  have h1 : y.length ≤ ((Txt.split z ".").map (·.length)).sum := le_sum (List.mem_map.mpr ⟨y, hy, rfl⟩)
  have h2 : 1 ≤ (Txt.split z ".").length := List.length_pos_of_mem hy
  omega
theorem split_dot_many (z : Str) : (Txt.split z ".").length ≤ z.length + 1 := by
  have h := split_weight z "." (by decide)
  omega
theorem ok_spot {f : Addr} {fd : FuncData} (D : DefAt K mg "is_spot" ["word"] s_is_spot f fd) (M : Bi mg)
    (C_is_name : Cal P w K mg base L2.CX0 1 "is_name" ["thing"] spIs) : Cal P w K mg base L2.CX0 2 "is_spot" ["word"] spSpot := by
  have S := S_is_spot
  refine cal_of D.fn D.mgf D.bs D.kbs S (fun vs H Q E h => ?_) (fun cdv A outer s H vs Q E hq hr h => ?_)
  · obtain ⟨v, rfl, _⟩ := h
    rfl
  · obtain ⟨z, rfl, hz, q⟩ := h
    refine ⟨_, (pss_cons (ps_set (i := 1) S.nd rfl (.inl rfl) (pe_split (pv 0) pe_str))
 (pss_one (ps_ret (pe_and (pe_cmpR op_le (pe_callB call_len_seq (by rfl) M.len_ (by decide +kernel) (pa_cons (pv 1) pa_nil)) pe_int (nomark _)) (pe_one (pe_callB (cr_all rfl) (by rfl) M.all_ (by decide +kernel) (pa_cons (pe_lc (own := [("name", 2)]) (g := gName 2) (tt := tYes) rfl S.nd (pi_list (pv 1)) (blkOk_by (own := [("name", 2)]) (N := N_is_spot) (sc := defScope s_is_spot) (by decide +kernel)) (fun _ _ _ _ _ => pg_name (i := 2) S.nd rfl (.inl rfl)) (fun _ _ _ _ _ => pts_nil) (fun _ _ _ _ _ => (pe_c C_is_name pass0 hq hr (by omega) (by rfl) (pa_cons (pv 2) pa_nil)))) pa_nil))))))), ?_⟩
    refine ⟨.str z, rfl, ⟨_, rfl⟩, z, _, rfl, rfl, by decide, Nat.le_trans (Nat.add_le_add_right hz 2) (by decide), fun p np => ?_⟩
    have hp : (upd H p (.lst ((Txt.split z ".").map V.str))) p = some (.lst ((Txt.split z ".").map V.str)) := upd_same
    have s1 := same_new (o := .lst ((Txt.split z ".").map V.str)) np
    have hl := split_dot_many z
    have hle := split_dot_len z
    have q' : ∀ H', Same H H' → Q (.bl (decide ((Txt.split z ".").length ≤ 2) && (Txt.split z ".").all isNm)) H' := q
    revert hp s1
    generalize Txt.split z "." = ns at hl hle q'
    generalize upd H p (.lst (ns.map V.str)) = H1
    intro hp s1
    refine ⟨.ref p, rfl, p, _, rfl, .inl (.inl (.inl hp)), _, 2, rfl, rfl, _, rfl, ?_⟩
    rw [List.length_map]
    by_cases h2 : ns.length ≤ 2
    · rw [decide_eq_true (show (ns.length : Int) ≤ 2 by omega)]
      refine iteT ?_
      refine ⟨.ref p, rfl, p, rfl, ⟨_, .inl (.inl hp)⟩, fun D nD => ?_⟩
      refine lc_list (K := K) (a := p) (xs := ns.map V.str) (fun i H' => Same H1 H' ∧ H' D = some (.lst (((ns.take i).map isNm).map V.bl))) ?_ ?_ ?_ ?_
      · exact ⟨same_new nD, upd_same⟩
      · rintro i H' _ ⟨sm, _⟩
        exact .inl (.inl (sm _ _ hp))
      · rintro i x H' hx ⟨sm, eD⟩
        obtain ⟨y, hy, rfl⟩ : ∃ y, ns[i]? = some y ∧ V.str y = x := by
          rw [List.getElem?_map] at hx
          cases hq : ns[i]? with
          | none =>
            rw [hq] at hx
            cases hx
          | some y =>
            rw [hq] at hx
            exact ⟨y, rfl, Option.some.inj hx⟩
        refine ⟨rfl, ?_⟩
        unfold tYes
        refine iteT ?_
        have ly : y.length ≤ 1000 := Nat.le_trans (hle y (List.mem_of_getElem? hy)) hz
        refine ⟨.str y, rfl, .str y, rfl, .str ly, fun H2 s2 => ⟨_, s2 _ _ eD, ?_, same_mut (sm.trans s2) nD, ?_⟩⟩
        · rw [List.length_map, List.length_map, List.length_take]
          exact Nat.lt_of_le_of_lt (Nat.min_le_right _ _) (Nat.lt_of_le_of_lt h2 (by decide))
        · rw [upd_same, List.take_add_one, hy, List.map_append, List.map_append]
          rfl
      · rintro H' ⟨sm, eD⟩
        refine ⟨D, _, rfl, .inl (.inl eD), ?_⟩
        have q2 := q' H' (s1.trans sm)
        rw [decide_eq_true h2, Bool.true_and] at q2
        rw [List.length_map, List.take_of_length_le (Nat.le_refl _), List.all_map]
        exact q2
    · rw [decide_eq_false (show ¬ (ns.length : Int) ≤ 2 by omega)]
      refine iteF ?_
      have q2 := q' H1 s1
      rw [decide_eq_false h2, Bool.false_and] at q2
      exact q2
theorem dig_iff (c : Nat) : dig c = true ↔ 48 ≤ c ∧ c ≤ 57 := by
  have e : figures.cps.toList = [48, 49, 50, 51, 52, 53, 54, 55, 56, 57] := by decide +kernel
  unfold dig
  rw [e, decide_eq_true_eq]
  simp only [List.mem_cons, List.not_mem_nil, or_false]
  omega
theorem ok_number {f : Addr} {fd : FuncData} (D : DefAt K mg "is_number" ["word", "least", "most"] s_is_number f fd) (M : Bi mg) (T : Tp2 K mg) :
    Cal P w K mg base L2.CX0 1 "is_number" ["word", "least", "most"] spNum := by
  have S := S_is_number
  refine cal_of D.fn D.mgf D.bs D.kbs S (fun vs H Q E h => ?_) (fun cdv A outer s H vs Q E hq hr h => ?_)
  · obtain ⟨z, lo, hi, rfl, _⟩ := h
    rfl
  · obtain ⟨z, lo, hi, rfl, hz, h0, h1, hts7, q⟩ := h
    refine ⟨_, (pss_cons (ps_if (PW.pt (pw_or (pt_not (pt_chain op_le op_le pe_int (pe_callB call_len_str (by rfl) M.len_ (by decide +kernel) (pa_cons (pv 0) pa_nil)) (pe_callB call_len_str (by rfl) M.len_ (by decide +kernel) (pa_cons (pe_callTy call_str_int (by rfl) M.str_ (by decide +kernel) (pa_cons (pv 2) pa_nil)) pa_nil)))) (pw_or1 (pt_not (pt_val (pe_callB (cr_all rfl) (by rfl) M.all_ (by decide +kernel) (pa_cons (pe_lc (own := [("sign", 3)]) (g := gName 3) (tt := tYes) rfl S.nd (pi_str (pv 0)) (blkOk_by (own := [("sign", 3)]) (N := N_is_number) (sc := defScope s_is_number) (by decide +kernel)) (fun _ _ _ _ _ => pg_name (i := 3) S.nd rfl (.inl rfl)) (fun _ _ _ _ _ => pts_nil) (fun _ _ _ _ _ => (pe_cmpR op_in_sign (pv 3) (C8.pe_gc (by rfl) T.c_FIGURES) rfl))) pa_nil)))))))
  (pss_one (ps_ret pe_bl))
  pss_nil)
 (pss_one (ps_ret (pe_and (pe_or (pe_cmpR op_eq (pv 0) pe_str (nomark _)) (pe_one (pe_cmpR op_ne (pe_ix ix_str (pv 0) pe_int (fun _ _ => rfl)) pe_str (nomark _)))) (pe_one (pe_chain op_le op_le (pv 1) (pe_callTy call_int_str (by rfl) M.int_ (by decide +kernel) (pa_cons (pv 0) pa_nil)) (pv 2))))))), ?_⟩
    have hz2 : z.length ≤ sizeLine := Nat.le_trans hz (by decide)
    have hlg : hi.natAbs.log2 < 1920 := by
      have h2 : hi.natAbs < 2 ^ 20 := by omega
      rcases Nat.eq_zero_or_pos hi.natAbs with e | e
      · rw [e]
        decide
      · have := (Nat.log2_lt (Nat.ne_of_gt e)).mpr h2
        omega
    have hts : (Str.ofString (toString hi)).length ≤ sizeLine := Nat.le_trans hts7 (by decide)
    refine ⟨.str z, rfl, z, rfl, hz2, 1, z.length, rfl, rfl, decide ((1 : Int) ≤ z.length), rfl, ?_⟩
    by_cases hl : (1 : Int) ≤ z.length ∧ (z.length : Int) ≤ (Str.ofString (toString hi)).length
    · rw [decide_eq_true hl.1]
      refine iteT ⟨.int hi, rfl, hi, rfl, hlg, _, rfl, hts, z.length, _, rfl, rfl, _, rfl, ?_⟩
      rw [decide_eq_true hl.2]
      refine iteF ?_
      -- all figures
      refine ⟨.str z, rfl, z, rfl, fun D nD => ?_⟩
      refine lc_str (x := z) (fun i H' => Same H H' ∧ H' D = some (.lst (((z.cps.toList.take i).map dig).map V.bl))) ?_ ?_ ?_
      · exact ⟨same_new nD, upd_same⟩
      · rintro i c H' hc ⟨sm, eD⟩
        refine ⟨rfl, ?_⟩
        unfold tYes
        refine iteT ?_
        refine ⟨.str ⟨#[c]⟩, rfl, c, figures, rfl, rfl, _, eD, ?_, same_mut sm nD, ?_⟩
        · rw [List.length_map, List.length_map, List.length_take]
          exact Nat.lt_of_le_of_lt (Nat.min_le_right _ _) (by
            rw [Array.length_toList]
            exact Nat.lt_of_le_of_lt hz (by decide))
        · rw [upd_same, List.take_add_one, hc, List.map_append, List.map_append]
          rfl
      · rintro H' ⟨sm, eD⟩
        refine ⟨D, _, rfl, .inl (.inl eD), _, rfl, ?_⟩
        have ea : (((z.cps.toList.take z.cps.size).map dig).all id) = z.cps.toList.all dig := by
          rw [List.all_map, List.take_of_length_le (by rw [Array.length_toList]; exact Nat.le_refl _)]
          rfl
        rw [ea]
        have q' := q H' sm
        unfold isNum at q'
        rw [decide_eq_true hl, Bool.true_and] at q'
        cases hd : z.cps.toList.all dig with
        | false =>
          rw [hd, Bool.false_and] at q'
          exact iteT q'
        | true =>
          rw [hd, Bool.true_and] at q'
          refine iteF ?_
          have hne : z.cps.toList ≠ [] := fun e => by
            have h2 : z.length = z.cps.toList.length := Array.length_toList.symm
            rw [e] at h2
            have h3 : z.length = 0 := h2
            omega
          have hint : PySem.intText? z = some (numV z) := intText_digits (fun c hc => (dig_iff c).mp (List.all_eq_true.mp hd c hc)) hne (by omega)
          have walk : ∀ Q2 : VK, Q2 (.bl (decide (lo ≤ numV z ∧ numV z ≤ hi))) H' →
              tChain (rI0 fun i j => V.bl (decide (i ≤ j))) (rI0 fun i j => V.bl (decide (i ≤ j))) (tVar 1)
                (tCB (fun xs H Q => ∃ a n, xs = [V.str a] ∧ PySem.intText? a = some n ∧ a.length ≤ 640 ∧ Q (V.int n) H) (tCons (tVar 0) tNil))
                (tVar 2) (L2.start N_is_number [.str z, .int lo, .int hi]) H' Q2 := fun Q2 q2 => by
            refine ⟨.int lo, rfl, .str z, rfl, z, numV z, rfl, hint, by omega, lo, numV z, rfl, rfl, _, rfl, ?_⟩
            by_cases a1 : lo ≤ numV z
            · rw [decide_eq_true a1]
              refine iteT ⟨.int hi, rfl, numV z, hi, rfl, rfl, ?_⟩
              have e : decide (lo ≤ numV z ∧ numV z ≤ hi) = decide (numV z ≤ hi) := by
                by_cases a2 : numV z ≤ hi
                · rw [decide_eq_true a2, decide_eq_true ⟨a1, a2⟩]
                · rw [decide_eq_false a2, decide_eq_false (fun h => a2 h.2)]
              rw [e] at q2
              exact q2
            · rw [decide_eq_false a1]
              rw [decide_eq_false (fun h => a1 h.1)] at q2
              exact iteF q2
          refine ⟨.str z, rfl, rfl, _, rfl, ?_⟩
          by_cases a1 : V.str z = V.str (Str.ofString "0")
          · rw [decide_eq_true a1] at q' ⊢
            refine iteT ⟨true, rfl, iteT (walk _ ?_)⟩
            rw [Bool.true_or, Bool.true_and] at q'
            exact q'
          · rw [decide_eq_false a1] at q' ⊢
            obtain ⟨c0, r0, e0⟩ : ∃ c0 r0, z.cps.toList = c0 :: r0 := by
              cases hc : z.cps.toList with
              | nil => exact absurd hc hne
              | cons c0 r0 => exact ⟨c0, r0, rfl⟩
            refine iteF ⟨.str z, rfl, z, 0, c0, rfl, rfl, hz2, ?_, rfl, _, rfl, ?_⟩
            · rw [e0]
              exact atI_nat (j := 0) rfl
            · rw [e0] at q'
              have q3 : Q (V.bl ((false || !decide (V.str { cps := #[c0] } = V.str (Str.ofString "0"))) && decide (lo ≤ numV z ∧ numV z ≤ hi))) H' := q'
              rw [Bool.false_or] at q3
              by_cases a2 : V.str ⟨#[c0]⟩ = V.str (Str.ofString "0")
              · rw [decide_eq_true a2] at q3 ⊢
                exact iteF q3
              · rw [decide_eq_false a2] at q3 ⊢
                refine iteT (walk _ ?_)
                exact q3
    · have q' := q H (Same.refl H)
      unfold isNum at q'
      rw [decide_eq_false hl, Bool.false_and, Bool.false_and] at q'
      by_cases h2 : (1 : Int) ≤ z.length
      · rw [decide_eq_true h2]
        refine iteT ⟨.int hi, rfl, hi, rfl, hlg, _, rfl, hts, z.length, _, rfl, rfl, _, rfl, ?_⟩
        rw [decide_eq_false (fun h3 => hl ⟨h2, h3⟩)]
        exact iteT q'
      · rw [decide_eq_false h2]
        exact iteF ⟨false, rfl, iteT q'⟩

end
section
variable {P : Program} {w : World} {K : PySem.W.Frag} {mg : Str → Option Value} {base : Heap}
/-! ### the words of a row -/
def fsRW (row : Int) (wl : Addr) (k : Nat) : List (Str × V) := [("row", .int row), ("words", .ref wl), ("at", .int (k : Int))]
structure RWat (C : Addr) (H : Hp) (r wl : Addr) (row : Int) (ws : List Str) (k : Nat) : Prop where
  ins : ∃ dx, H r = some (.ins C dx (fsRW row wl k))
  lst : H wl = some (.lst (ws.map V.str))
  small : ∀ z ∈ ws, z.length ≤ 1000
  many : ws.length ≤ 1000000
/-- all but one is as it was -/
def Oth (r : Addr) (H H' : Hp) : Prop := ∀ b o, b ≠ r → H b = some o → H' b = some o
theorem Oth.refl (r : Addr) (H : Hp) : Oth r H H := fun _ _ _ e => e
theorem Oth.of {r : Addr} {H H' : Hp} (s : Same H H') : Oth r H H' := fun b o _ e => s b o e
theorem Oth.trans {r : Addr} {H H1 H2 : Hp} (a : Oth r H H1) (b : Oth r H1 H2) : Oth r H H2 := fun x o h e => b x o h (a x o h e)
theorem Oth.same {r : Addr} {H H1 H2 : Hp} (a : Oth r H H1) (b : Same H1 H2) : Oth r H H2 := a.trans (.of b)
theorem Oth.upd {r : Addr} {H : Hp} {o : HO} : Oth r H (upd H r o) := fun b u h e => by
  rw [upd_ne h]
  exact e
theorem Oth.mut {r p : Addr} {H H' : Hp} {o : HO} (a : Oth r H H') (h : H p = none) : Oth r H (L2.upd H' p o) := fun b u hb e => by
  rw [upd_ne (ne_of_none e h)]
  exact a b u hb e
theorem RWat.ne {C : Addr} {H : Hp} {r wl : Addr} {row : Int} {ws : List Str} {k : Nat} (h : RWat C H r wl row ws k) : wl ≠ r := by
  obtain ⟨dx, e⟩ := h.ins
  exact ne_of h.lst e (by intro z; cases z)
theorem RWat.same {C : Addr} {H H' : Hp} {r wl : Addr} {row : Int} {ws : List Str} {k : Nat} (h : RWat C H r wl row ws k) (s : Same H H') : RWat C H' r wl row ws k := by
  obtain ⟨dx, e⟩ := h.ins
  exact ⟨⟨dx, s _ _ e⟩, s _ _ h.lst, h.small, h.many⟩
structure ClRW (K : PySem.W.Frag) (C : Addr) : Prop where
  cl : Cls K C
  n_row : NoAttr K C "row"
  n_words : NoAttr K C "words"
  n_at : NoAttr K C "at"
def spHere (C : Addr) : Sp := fun vs H Q _ => ∃ (r wl : Addr) (row : Int) (ws : List Str) (k : Nat), vs = [.ref r] ∧ RWat C H r wl row ws k ∧
  ∀ p H', Same H H' → H p = none → H' p = some (.tup [.int row, .int (k : Int)]) → Q (.ref p) H'
def spMore (C : Addr) : Sp := fun vs H Q _ => ∃ (r wl : Addr) (row : Int) (ws : List Str) (k : Nat), vs = [.ref r] ∧ RWat C H r wl row ws k ∧
  Q (.bl (decide (k < ws.length))) H
def spComing (C : Addr) : Sp := fun vs H Q _ => ∃ (r wl : Addr) (row : Int) (ws : List Str) (k : Nat), vs = [.ref r] ∧ RWat C H r wl row ws k ∧
  Q (.str (ws.getD k "")) H
def spTake (C : Addr) : Sp := fun vs H Q _ => ∃ (r wl : Addr) (row : Int) (ws : List Str) (k : Nat), vs = [.ref r, .bl true] ∧ RWat C H r wl row ws k ∧
  ∀ H', Oth r H H' → RWat C H' r wl row ws (k + 1) → Q (.str (ws.getD k "")) H'
theorem isNum_len {z : Str} {lo hi : Int} (h : isNum z lo hi = true) : 1 ≤ z.length ∧ z.length ≤ (Str.ofString (toString hi)).length := by
  unfold isNum at h
  rw [Bool.and_eq_true, Bool.and_eq_true, decide_eq_true_eq] at h
  have := h.1.1
  omega
theorem isNum_text {z : Str} {lo hi : Int} (h : isNum z lo hi = true) (h7 : (Str.ofString (toString hi)).length ≤ 7) : intText? z = some (numV z) := by
  have hl := isNum_len h
  unfold isNum at h
  rw [Bool.and_eq_true, Bool.and_eq_true] at h
  have hd := h.1.2
  have hne : z.cps.toList ≠ [] := fun e => by
    have h2 : z.length = z.cps.toList.length := Array.length_toList.symm
    rw [e] at h2
    have h3 : z.length = 0 := h2
    omega
  exact intText_digits (fun c hc => (dig_iff c).mp (List.all_eq_true.mp hd c hc)) hne (by omega)
section
variable {C : Addr}
structure MetAt (K : PySem.W.Frag) (C : Addr) (m qual : Str) (ps : List Str) (st : Stmt) (f : Addr) (fd : FuncData) : Prop where
  fn : L2.Fun K m qual st f fd
  me : Meth K C m f
  bs : L2.Binds K fd ps []
theorem ok_here {f : Addr} {fd : FuncData} (D : MetAt K C "here" "RowWords.here" ["self"] s_RowWords_here f fd) (W : ClRW K C) : Met P w K mg base L2.CX0 1 C "here" ["self"] (spHere C) := by
  have S := S_RowWords_here
  refine ⟨W.cl, f, fd, D.me, fng_of D.fn S (fun vs H Q E h => ?_) (fun cdv A outer s H vs Q E hq hr h => ?_), D.bs⟩
  · obtain ⟨r, wl, row, ws, k, rfl, _⟩ := h
    rfl
  · obtain ⟨r, wl, row, ws, k, rfl, st, q⟩ := h
    refine ⟨_, (pss_one (ps_ret (pe_tup (pa_cons (pe_fld (pv 0) rfl) (pa_cons (pe_fld (pv 0) rfl) pa_nil))))), ?_⟩
    obtain ⟨dx, e⟩ := st.ins
    refine ⟨.ref r, rfl, r, C, dx, _, .int row, rfl, e, W.cl, W.n_row, rfl, .ref r, rfl, r, C, dx, _, .int (k : Int), rfl, e, W.cl, W.n_at, rfl, by show 2 ≤ sizeLine; decide, fun p np => ?_⟩
    exact q p _ (same_new np) np upd_same
theorem ok_more {f : Addr} {fd : FuncData} (D : MetAt K C "more" "RowWords.more" ["self"] s_RowWords_more f fd) (W : ClRW K C) (M : Bi mg) : Met P w K mg base L2.CX0 1 C "more" ["self"] (spMore C) := by
  have S := S_RowWords_more
  refine ⟨W.cl, f, fd, D.me, fng_of D.fn S (fun vs H Q E h => ?_) (fun cdv A outer s H vs Q E hq hr h => ?_), D.bs⟩
  · obtain ⟨r, wl, row, ws, k, rfl, _⟩ := h
    rfl
  · obtain ⟨r, wl, row, ws, k, rfl, st, q⟩ := h
    refine ⟨_, (pss_one (ps_ret (pe_cmpR op_lt (pe_fld (pv 0) rfl) (pe_callB call_len_seq (by rfl) M.len_ (by decide +kernel) (pa_cons (pe_fld (pv 0) rfl) pa_nil)) (nomark _)))), ?_⟩
    obtain ⟨dx, e⟩ := st.ins
    refine ⟨.ref r, rfl, r, C, dx, _, .int (k : Int), rfl, e, W.cl, W.n_at, rfl, .ref r, rfl, r, C, dx, _, .ref wl, rfl, e, W.cl, W.n_words, rfl, wl, _, rfl, .inl (.inl (.inl st.lst)), _, _, rfl, rfl, ?_⟩
    rw [List.length_map]
    have e2 : decide ((k : Int) < (ws.length : Int)) = decide (k < ws.length) := by
      by_cases h : k < ws.length
      · rw [decide_eq_true h, decide_eq_true (by omega)]
      · rw [decide_eq_false h, decide_eq_false (by omega)]
    show Q (.bl (decide ((k : Int) < (ws.length : Int)))) H
    rw [e2]
    exact q
theorem ok_coming {f : Addr} {fd : FuncData} (D : MetAt K C "coming" "RowWords.coming" ["self"] s_RowWords_coming f fd) (W : ClRW K C)
    (M_more : Met P w K mg base L2.CX0 1 C "more" ["self"] (spMore C)) : Met P w K mg base L2.CX0 2 C "coming" ["self"] (spComing C) := by
  have S := S_RowWords_coming
  refine ⟨W.cl, f, fd, D.me, fng_of D.fn S (fun vs H Q E h => ?_) (fun cdv A outer s H vs Q E hq hr h => ?_), D.bs⟩
  · obtain ⟨r, wl, row, ws, k, rfl, _⟩ := h
    rfl
  · obtain ⟨r, wl, row, ws, k, rfl, st, q⟩ := h
    refine ⟨_, (pss_one (ps_ret (pe_ifExp (pt_val (pe_m0 M_more pass0 hq hr (by omega) (pv 0))) (pe_ix ix_list (pe_fld (pv 0) rfl) (pe_fld (pv 0) rfl) (fun _ _ => rfl)) pe_str))), ?_⟩
    obtain ⟨dx, e⟩ := st.ins
    refine ⟨.ref r, rfl, r, dx, _, rfl, e, rfl, r, wl, row, ws, k, rfl, st, _, rfl, ?_⟩
    by_cases h : k < ws.length
    · rw [decide_eq_true h]
      refine iteT ⟨.ref r, rfl, r, C, dx, _, .ref wl, rfl, e, W.cl, W.n_words, rfl, .ref r, rfl, r, C, dx, _, .int (k : Int), rfl, e, W.cl, W.n_at, rfl, wl, _, (k : Int), .str (ws.getD k ""), rfl, rfl, .inl (.inl st.lst), atI_nat ?_, q⟩
      rw [List.getElem?_map, List.getElem?_eq_getElem h, List.getD_eq_getElem?_getD, List.getElem?_eq_getElem h]
      rfl
    · rw [decide_eq_false h]
      refine iteF ?_
      rw [List.getD_eq_getElem?_getD, List.getElem?_eq_none (by omega)] at q
      exact q
theorem ok_take {f : Addr} {fd : FuncData} (D : MetAt K C "take" "RowWords.take" ["self", "fits"] s_RowWords_take f fd) (W : ClRW K C)
    (M_coming : Met P w K mg base L2.CX0 2 C "coming" ["self"] (spComing C)) : Met P w K mg base L2.CX0 3 C "take" ["self", "fits"] (spTake C) := by
  have S := S_RowWords_take
  refine ⟨W.cl, f, fd, D.me, fng_of D.fn S (fun vs H Q E h => ?_) (fun cdv A outer s H vs Q E hq hr h => ?_), D.bs⟩
  · obtain ⟨r, wl, row, ws, k, rfl, _⟩ := h
    rfl
  · obtain ⟨r, wl, row, ws, k, rfl, st, q⟩ := h
    refine ⟨_, (pss_cons (ps_if (pt_not (pt_val (pv 1)))
  (pss_one ps_never)
  pss_nil)
 (pss_cons (ps_set (i := 2) S.nd rfl (.inl rfl) (pe_m0 M_coming pass0 hq hr (by omega) (pv 0)))
 (pss_cons (ps_fldaug (pv 0) pe_int in_add)
 (pss_one (ps_ret (pv 2)))))), ?_⟩
    obtain ⟨dx, e⟩ := st.ins
    refine ⟨.bl true, rfl, true, rfl, iteF ?_⟩
    refine ⟨.ref r, rfl, r, dx, _, rfl, e, rfl, r, wl, row, ws, k, rfl, st, ?_⟩
    have e2 : putF "at" (V.int ((k : Int) + 1)) (fsRW row wl k) = fsRW row wl (k + 1) := by
      have : ((k : Int) + 1) = ((k + 1 : Nat) : Int) := by omega
      rw [this]
      rfl
    refine ⟨.ref r, rfl, r, C, dx, _, .int (k : Int), rfl, e, W.cl, W.n_at, rfl, _, _, rfl, rfl, dx, fsRW row wl k, e, (by show 3 < 1000; decide), ?_⟩
    rw [e2]
    exact ⟨_, rfl, q _ .upd ⟨⟨dx, upd_same⟩, (upd_ne st.ne).trans st.lst, st.small, st.many⟩⟩
theorem RWat.word {H : Hp} {r wl : Addr} {row : Int} {ws : List Str} {k : Nat} (h : RWat C H r wl row ws k) : (ws.getD k "").length ≤ 1000 := by
  rw [List.getD_eq_getElem?_getD]
  cases e : ws[k]? with
  | none => decide
  | some z => exact h.small z (List.mem_of_getElem? e)
def spTakeName (C : Addr) : Sp := fun vs H Q _ => ∃ (r wl : Addr) (row : Int) (ws : List Str) (k : Nat), vs = [.ref r] ∧ RWat C H r wl row ws k ∧ isNm (ws.getD k "") = true ∧
  ∀ H', Oth r H H' → RWat C H' r wl row ws (k + 1) → Q (.str (ws.getD k "")) H'
def spTakeNum (C : Addr) : Sp := fun vs H Q _ => ∃ (r wl : Addr) (row : Int) (ws : List Str) (k : Nat) (lo hi : Int), vs = [.ref r, .int lo, .int hi] ∧ RWat C H r wl row ws k ∧
  isNum (ws.getD k "") lo hi = true ∧ 0 ≤ hi ∧ hi ≤ 1000000 ∧ (Str.ofString (toString hi)).length ≤ 7 ∧
  ∀ H', Oth r H H' → RWat C H' r wl row ws (k + 1) → Q (.int (numV (ws.getD k ""))) H'
def spTakeEnd (C : Addr) : Sp := fun vs H Q _ => ∃ (r wl : Addr) (row : Int) (ws : List Str) (k : Nat), vs = [.ref r] ∧ RWat C H r wl row ws k ∧ ws.length ≤ k ∧ Q .non H
theorem ok_take_name {f : Addr} {fd : FuncData} (D : MetAt K C "take_name" "RowWords.take_name" ["self"] s_RowWords_take_name f fd) (W : ClRW K C)
    (M_coming : Met P w K mg base L2.CX0 2 C "coming" ["self"] (spComing C))
    (M_take : Met P w K mg base L2.CX0 3 C "take" ["self", "fits"] (spTake C))
    (C_is_name : Cal P w K mg base L2.CX0 1 "is_name" ["thing"] spIs) : Met P w K mg base L2.CX0 4 C "take_name" ["self"] (spTakeName C) := by
  have S := S_RowWords_take_name
  refine ⟨W.cl, f, fd, D.me, fng_of D.fn S (fun vs H Q E h => ?_) (fun cdv A outer s H vs Q E hq hr h => ?_), D.bs⟩
  · obtain ⟨r, wl, row, ws, k, rfl, _⟩ := h
    rfl
  · obtain ⟨r, wl, row, ws, k, rfl, st, hn, q⟩ := h
    refine ⟨_, (pss_one (ps_ret (pe_m M_take pass0 hq hr (by omega) (pv 0) (pa_cons (pe_c C_is_name pass0 hq hr (by omega) (by rfl) (pa_cons (pe_m0 M_coming pass0 hq hr (by omega) (pv 0)) pa_nil)) pa_nil)))), ?_⟩
    obtain ⟨dx, e⟩ := st.ins
    refine ⟨.ref r, rfl, r, dx, _, rfl, e, rfl, .ref r, rfl, r, dx, _, rfl, e, rfl, r, wl, row, ws, k, rfl, st, _, rfl, .str st.word, fun H1 s1 => ?_⟩
    rw [show nmV (.str (ws.getD k "")) = true from hn]
    exact ⟨r, wl, row, ws, k, rfl, st.same s1, fun H' o g => q H' ((Oth.of s1).trans o) g⟩
theorem ok_take_number {f : Addr} {fd : FuncData} (D : MetAt K C "take_number" "RowWords.take_number" ["self", "least", "most"] s_RowWords_take_number f fd) (W : ClRW K C) (M : Bi mg)
    (M_coming : Met P w K mg base L2.CX0 2 C "coming" ["self"] (spComing C))
    (M_take : Met P w K mg base L2.CX0 3 C "take" ["self", "fits"] (spTake C))
    (C_is_number : Cal P w K mg base L2.CX0 1 "is_number" ["word", "least", "most"] spNum) : Met P w K mg base L2.CX0 4 C "take_number" ["self", "least", "most"] (spTakeNum C) := by
  have S := S_RowWords_take_number
  refine ⟨W.cl, f, fd, D.me, fng_of D.fn S (fun vs H Q E h => ?_) (fun cdv A outer s H vs Q E hq hr h => ?_), D.bs⟩
  · obtain ⟨r, wl, row, ws, k, lo, hi, rfl, _⟩ := h
    rfl
  · obtain ⟨r, wl, row, ws, k, lo, hi, rfl, st, hn, h0, h1, h7, q⟩ := h
    refine ⟨_, (pss_one (ps_ret (pe_callTy call_int_str (by rfl) M.int_ (by decide +kernel) (pa_cons (pe_m M_take pass0 hq hr (by omega) (pv 0) (pa_cons (pe_c C_is_number pass0 hq hr (by omega) (by rfl) (pa_cons (pe_m0 M_coming pass0 hq hr (by omega) (pv 0)) (pa_cons (pv 1) (pa_cons (pv 2) pa_nil)))) pa_nil)) pa_nil)))), ?_⟩
    obtain ⟨dx, e⟩ := st.ins
    refine ⟨.ref r, rfl, r, dx, _, rfl, e, rfl, .ref r, rfl, r, dx, _, rfl, e, rfl, r, wl, row, ws, k, rfl, st, .int lo, rfl, .int hi, rfl, _, lo, hi, rfl, st.word, h0, h1, h7, fun H1 s1 => ?_⟩
    rw [hn]
    refine ⟨r, wl, row, ws, k, rfl, st.same s1, fun H' o g => ?_⟩
    refine ⟨_, _, rfl, isNum_text hn h7, ?_, q H' ((Oth.of s1).trans o) g⟩
    have := isNum_len hn
    omega
theorem ok_take_end {f : Addr} {fd : FuncData} (D : MetAt K C "take_end" "RowWords.take_end" ["self"] s_RowWords_take_end f fd) (W : ClRW K C)
    (M_more : Met P w K mg base L2.CX0 1 C "more" ["self"] (spMore C)) : Met P w K mg base L2.CX0 2 C "take_end" ["self"] (spTakeEnd C) := by
  have S := S_RowWords_take_end
  refine ⟨W.cl, f, fd, D.me, fng_of D.fn S (fun vs H Q E h => ?_) (fun cdv A outer s H vs Q E hq hr h => ?_), D.bs⟩
  · obtain ⟨r, wl, row, ws, k, rfl, _⟩ := h
    rfl
  · obtain ⟨r, wl, row, ws, k, rfl, st, hk, q⟩ := h
    refine ⟨_, (pss_one (ps_if (pt_val (pe_m0 M_more pass0 hq hr (by omega) (pv 0)))
  (pss_one ps_never)
  pss_nil)), ?_⟩
    obtain ⟨dx, e⟩ := st.ins
    refine ⟨.ref r, rfl, r, dx, _, rfl, e, rfl, r, wl, row, ws, k, rfl, st, _, rfl, ?_⟩
    rw [decide_eq_false (by omega)]
    exact iteF q
end

end
section
variable {P : Program} {w : World} {K : PySem.W.Frag} {mg : Str → Option Value} {base : Heap}
/-! ### data of tuples; the reader as a function -/
inductive Td
  | str (z : Str)
  | int (i : Int)
  | tup (xs : List Td)
inductive TdR (H : Hp) : Td → V → Prop
  | str (z : Str) : TdR H (.str z) (.str z)
  | int (i : Int) : TdR H (.int i) (.int i)
  | tup {p : Addr} {xs : List Td} {vs : List V} (h : H p = some (.tup vs)) (hl : xs.length = vs.length)
      (ha : ∀ (i : Nat) x v, xs[i]? = some x → vs[i]? = some v → TdR H x v) : TdR H (.tup xs) (.ref p)
theorem TdR.keep {H H' : Hp} {t : Td} {v : V} (h : TdR H t v) (k : ∀ p vs, H p = some (.tup vs) → H' p = some (.tup vs)) : TdR H' t v := by
  induction h with
  | str z => exact .str z
  | int i => exact .int i
  | tup e hl ha ih => exact .tup (k _ _ e) hl ih
def All2 (H : Hp) (ts : List Td) (vs : List V) : Prop := ts.length = vs.length ∧ ∀ (i : Nat) x v, ts[i]? = some x → vs[i]? = some v → TdR H x v
theorem All2.nil {H : Hp} : All2 H [] [] := ⟨rfl, fun i x v h => by cases h⟩
theorem All2.cons {H : Hp} {t : Td} {v : V} {ts : List Td} {vs : List V} (h : TdR H t v) (hs : All2 H ts vs) : All2 H (t :: ts) (v :: vs) := by
  refine ⟨by rw [List.length_cons, List.length_cons, hs.1], fun i x u h1 h2 => ?_⟩
  cases i with
  | zero =>
    cases h1
    cases h2
    exact h
  | succ i => exact hs.2 i x u h1 h2
theorem All2.snoc {H : Hp} {t : Td} {v : V} : ∀ {ts : List Td} {vs : List V}, All2 H ts vs → TdR H t v → All2 H (ts ++ [t]) (vs ++ [v])
  | [], [], _, h => .cons h .nil
  | [], _ :: _, hs, _ => absurd hs.1 (by simp)
  | _ :: _, [], hs, _ => absurd hs.1 (by simp)
  | a :: ts, b :: vs, hs, h => .cons (hs.2 0 _ _ rfl rfl) (All2.snoc ⟨Nat.succ.inj hs.1, fun i x u h1 h2 => hs.2 (i + 1) x u h1 h2⟩ h)
theorem All2.keep {H H' : Hp} {ts : List Td} {vs : List V} (h : All2 H ts vs) (k : ∀ p vs, H p = some (.tup vs) → H' p = some (.tup vs)) : All2 H' ts vs :=
  ⟨h.1, fun i x v h1 h2 => (h.2 i x v h1 h2).keep k⟩
theorem TdR.mk {H : Hp} {p : Addr} {ts : List Td} {vs : List V} (h : H p = some (.tup vs)) (a : All2 H ts vs) : TdR H (.tup ts) (.ref p) := .tup h a.1 a.2
theorem Oth.tup {r : Addr} {H H' : Hp} (o : Oth r H H') {ho : HO} (e : H r = some ho) (hn : ∀ xs, ho ≠ .tup xs) : ∀ p vs, H p = some (.tup vs) → H' p = some (.tup vs) := fun p vs h =>
  o p _ (fun z => by
    subst z
    rw [e] at h
    exact hn _ (Option.some.inj h)) h
theorem RWat.tups {C : Addr} {H H' : Hp} {r wl : Addr} {row : Int} {ws : List Str} {k : Nat} (st : RWat C H r wl row ws k) (o : Oth r H H') : ∀ p vs, H p = some (.tup vs) → H' p = some (.tup vs) := by
  obtain ⟨dx, e⟩ := st.ins
  exact o.tup e fun xs z => by cases z
theorem tup_upd {H : Hp} {q : Addr} {ho : HO} (n : H q = none) : ∀ p vs, H p = some (.tup vs) → upd H q ho p = some (.tup vs) := fun p vs e => same_new n _ _ e
theorem decVS (a b : Str) : decide (V.str a = V.str b) = decide (a = b) := by
  by_cases h : a = b
  · rw [decide_eq_true h, h, decide_eq_true rfl]
  · rw [decide_eq_false h, decide_eq_false (fun z => h (by cases z; rfl))]
theorem RWat.updne {C : Addr} {H : Hp} {r wl D : Addr} {o : HO} {row : Int} {ws : List Str} {k : Nat} (h : RWat C H r wl row ws k) (n1 : D ≠ r) (n2 : D ≠ wl) : RWat C (upd H D o) r wl row ws k := by
  obtain ⟨dx, e⟩ := h.ins
  exact ⟨⟨dx, (upd_ne n1.symm).trans e⟩, (upd_ne n2.symm).trans h.lst, h.small, h.many⟩
theorem or_lt_num {i j : Nat} {σ : L2.St} {H : Hp} {Q : VK} {d : Nat} {z : Str} (h1 : σ[i]? = some (some (.int d))) (h2 : σ[j]? = some (some (.str z))) (hg : d < 12 ∨ z = "num") (q : Q (.bl true) H) :
    tOrV (tOp (rI0 fun i j => V.bl (decide (i < j))) (tVar i) (tC (V.int 12))) (tOp rEq (tVar j) (tC (V.str "num"))) σ H Q := by
  refine ⟨.int d, h1, _, _, rfl, rfl, _, rfl, ?_⟩
  by_cases h : d < 12
  · rw [decide_eq_true (show (d : Int) < 12 by omega)]
    exact iteT q
  · rw [decide_eq_false (show ¬ (d : Int) < 12 by omega)]
    refine iteF ⟨.str z, h2, rfl, ?_⟩
    rw [hg.resolve_left h, decide_eq_true rfl]
    exact q
abbrev plc (row : Int) (k : Nat) : Td := .tup [.int row, .int (k : Int)]
def expTab : List (Str × Str) := [("num", "WK"), ("not", "E"), ("and", "EE"), ("or", "EE"), ("xor", "EE"), ("sum", "EE"), ("same", "EE"), ("below", "EE"), ("join", "EE"), ("pick", "EEE"), ("cut", "WE"), ("bit", "KE")]
section
variable (rec : Nat → Nat → Option (Td × Nat)) (row : Int) (ws : List Str)
def rdLet (l : Str) (d k : Nat) : Option (Td × Nat) :=
  if l = "X" then (if isNm (ws.getD k "") = true then some (.str (ws.getD k ""), k + 1) else none)
  else if l = "W" then (if isNum (ws.getD k "") 1 8 = true then some (.int (numV (ws.getD k "")), k + 1) else none)
  else if l = "K" then (if isNum (ws.getD k "") 0 65535 = true then some (.int (numV (ws.getD k "")), k + 1) else none)
  else if l = "A" then (if isNm (ws.getD k "") = true then some (.tup [.str "name", plc row k, .str (ws.getD k "")], k + 1) else none)
  else rec (d + 1) k
def rdLets : List Nat → Nat → Nat → Option (List Td × Nat)
  | [], _, k => some ([], k)
  | c :: cs, d, k => match rdLet rec row ws ⟨#[c]⟩ d k with
    | none => none
    | some (t, k1) => match rdLets cs d k1 with
      | none => none
      | some (ts, k2) => some (t :: ts, k2)
end
def rdExp (row : Int) (ws : List Str) : Nat → Nat → Nat → Option (Td × Nat)
  | 0, _, _ => none
  | n + 1, d, k => if isSpot (ws.getD k "") = true then some (.tup [.str "name", plc row k, .str (ws.getD k "")], k + 1) else
    match expTab.lookup (ws.getD k "") with
    | none => none
    | some sh => if d < 12 ∨ ws.getD k "" = "num" then
        (match rdLets (rdExp row ws n) row ws sh.cps.toList d (k + 1) with
        | none => none
        | some (ts, k') => some (.tup (.str (ws.getD k "") :: plc row k :: ts), k'))
      else none
/-- the walks over these -/
def spPart (C : Addr) (rec : Int → List Str → Nat → Nat → Option (Td × Nat)) : Sp := fun vs H Q _ => ∃ (r wl : Addr) (row : Int) (ws : List Str) (k : Nat) (l : Str) (d : Nat) (t : Td) (k' : Nat),
  vs = [.ref r, .str l, .int (d : Int)] ∧ RWat C H r wl row ws k ∧ rdLet (rec row ws) row ws l d k = some (t, k') ∧ ∀ H' v, Oth r H H' → RWat C H' r wl row ws k' → TdR H' t v → Q v H'
def spExp (C : Addr) (rec : Int → List Str → Nat → Nat → Option (Td × Nat)) : Sp := fun vs H Q _ => ∃ (r wl : Addr) (row : Int) (ws : List Str) (k : Nat) (d : Nat) (t : Td) (k' : Nat),
  vs = [.ref r, .int (d : Int)] ∧ RWat C H r wl row ws k ∧ rec row ws d k = some (t, k') ∧ ∀ H' v, Oth r H H' → RWat C H' r wl row ws k' → TdR H' t v → Q v H'
structure MR (P : Program) (w : World) (K : PySem.W.Frag) (mg : Str → Option Value) (base : Heap) (C : Addr) : Prop where
  here : Met P w K mg base L2.CX0 1 C "here" ["self"] (spHere C)
  more : Met P w K mg base L2.CX0 1 C "more" ["self"] (spMore C)
  coming : Met P w K mg base L2.CX0 2 C "coming" ["self"] (spComing C)
  take : Met P w K mg base L2.CX0 3 C "take" ["self", "fits"] (spTake C)
  take_name : Met P w K mg base L2.CX0 4 C "take_name" ["self"] (spTakeName C)
  take_number : Met P w K mg base L2.CX0 4 C "take_number" ["self", "least", "most"] (spTakeNum C)
  take_end : Met P w K mg base L2.CX0 2 C "take_end" ["self"] (spTakeEnd C)
structure Tp3 (K : PySem.W.Frag) (w : World) (mg : Str → Option Value) (ke kr : Addr) : Prop where
  c_WIDEST : ∃ u, mg "WIDEST" = some u ∧ RelV (.int 8) u
  c_GREATEST : ∃ u, mg "GREATEST" = some u ∧ RelV (.int 65535) u
  c_DEEPEST : ∃ u, mg "DEEPEST" = some u ∧ RelV (.int 12) u
  c_MOST_CLOCKS : ∃ u, mg "MOST_CLOCKS" = some u ∧ RelV (.int 4) u
  c_MOST_HANDED : ∃ u, mg "MOST_HANDED" = some u ∧ RelV (.int 6) u
  c_EXPRESSIONS : ∃ u, mg "EXPRESSIONS" = some u ∧ RelV (.ref ke) u
  c_ROWS : ∃ u, mg "ROWS" = some u ∧ RelV (.ref kr) u
  Ke : ∃ es n, KDict K w ke es n
  Kr : ∃ es n, KDict K w kr es n
  e_at : ∀ e ∈ expTab, ∃ u, PySem.W.nsIn K ke e.1 = some (some u) ∧ RelV (.str e.2) u
section
variable {C ke kr : Addr}
theorem ok_part {L : Nat} {rec : Int → List Str → Nat → Nat → Option (Td × Nat)} {f : Addr} {fd : FuncData} (D : DefAt K mg "read_part" ["words", "letter", "depth"] s_read_part f fd) (T : Tp3 K w mg ke kr)
    (R : MR P w K mg base C) (h4 : 4 ≤ L)
    (C_read_expression : Cal P w K mg base L2.CX0 L "read_expression" ["words", "depth"] (spExp C rec)) : Cal P w K mg base L2.CX0 (L + 1) "read_part" ["words", "letter", "depth"] (spPart C rec) := by
  have S := S_read_part
  obtain ⟨M_here, M_more, M_coming, M_take, M_take_name, M_take_number, M_take_end⟩ := R
  refine cal_of D.fn D.mgf D.bs D.kbs S (fun vs H Q E h => ?_) (fun cdv A outer s H vs Q E hq hr h => ?_)
  · obtain ⟨r, wl, row, ws, k, l, d, t, k', rfl, _⟩ := h
    rfl
  · obtain ⟨r, wl, row, ws, k, l, d, t, k', rfl, st, he, q⟩ := h
    refine ⟨_, (pss_cons (ps_if (pt_cmpR op_eq (pv 1) pe_str (nomark _))
  (pss_one (ps_ret (pe_m0 M_take_name pass0 hq hr (by omega) (pv 0))))
  pss_nil)
 (pss_cons (ps_if (pt_cmpR op_eq (pv 1) pe_str (nomark _))
  (pss_one (ps_ret (pe_m M_take_number pass0 hq hr (by omega) (pv 0) (pa_cons pe_int (pa_cons (C8.pe_gc (by rfl) T.c_WIDEST) pa_nil)))))
  pss_nil)
 (pss_cons (ps_if (pt_cmpR op_eq (pv 1) pe_str (nomark _))
  (pss_one (ps_ret (pe_m M_take_number pass0 hq hr (by omega) (pv 0) (pa_cons pe_int (pa_cons (C8.pe_gc (by rfl) T.c_GREATEST) pa_nil)))))
  pss_nil)
 (pss_cons (ps_if (pt_cmpR op_eq (pv 1) pe_str (nomark _))
  (pss_one (ps_ret (pe_tup (pa_cons pe_str (pa_cons (pe_m0 M_here pass0 hq hr (by omega) (pv 0)) (pa_cons (pe_m0 M_take_name pass0 hq hr (by omega) (pv 0)) pa_nil))))))
  pss_nil)
 (pss_one (ps_ret (pe_c C_read_expression pass0 hq hr (by omega) (by rfl) (pa_cons (pv 0) (pa_cons (pe_op op_add (pv 2) pe_int) pa_nil))))))))), ?_⟩
    obtain ⟨dx, e⟩ := st.ins
    unfold rdLet at he
    refine ⟨.str l, rfl, rfl, _, rfl, ?_⟩
    rw [decVS]
    by_cases e1 : l = "X"
    · rw [if_pos e1] at he
      rw [decide_eq_true e1]
      split at he
      · next hn =>
        cases he
        exact iteT ⟨.ref r, rfl, r, dx, _, rfl, e, rfl, r, wl, row, ws, k, rfl, st, hn, fun H' o g => q H' _ o g (.str _)⟩
      · cases he
    rw [if_neg e1] at he
    rw [decide_eq_false e1]
    refine iteF ?_
    refine ⟨.str l, rfl, rfl, _, rfl, ?_⟩
    rw [decVS]
    by_cases e2 : l = "W"
    · rw [if_pos e2] at he
      rw [decide_eq_true e2]
      split at he
      · next hn =>
        cases he
        exact iteT ⟨.ref r, rfl, r, dx, _, rfl, e, rfl, r, wl, row, ws, k, 1, 8, rfl, st, hn, by decide, by decide, by decide +kernel, fun H' o g => q H' _ o g (.int _)⟩
      · cases he
    rw [if_neg e2] at he
    rw [decide_eq_false e2]
    refine iteF ?_
    refine ⟨.str l, rfl, rfl, _, rfl, ?_⟩
    rw [decVS]
    by_cases e3 : l = "K"
    · rw [if_pos e3] at he
      rw [decide_eq_true e3]
      split at he
      · next hn =>
        cases he
        exact iteT ⟨.ref r, rfl, r, dx, _, rfl, e, rfl, r, wl, row, ws, k, 0, 65535, rfl, st, hn, by decide, by decide, by decide +kernel, fun H' o g => q H' _ o g (.int _)⟩
      · cases he
    rw [if_neg e3] at he
    rw [decide_eq_false e3]
    refine iteF ?_
    refine ⟨.str l, rfl, rfl, _, rfl, ?_⟩
    rw [decVS]
    by_cases e4 : l = "A"
    · rw [if_pos e4] at he
      rw [decide_eq_true e4]
      split at he
      · next hn =>
        cases he
        refine iteT ⟨.ref r, rfl, r, dx, _, rfl, e, rfl, r, wl, row, ws, k, rfl, st, fun p H1 s1 np ep => ?_⟩
        have st1 := st.same s1
        obtain ⟨dx1, e1⟩ := st1.ins
        refine ⟨.ref r, rfl, r, dx1, _, rfl, e1, rfl, r, wl, row, ws, k, rfl, st1, hn, fun H2 o2 g2 => ?_⟩
        refine ⟨by show 3 ≤ sizeLine; decide, fun p2 np2 => ?_⟩
        have ep2 := st1.tups o2 _ _ ep
        refine q _ _ (((Oth.of s1).trans o2).same (same_new np2)) (g2.same (same_new np2)) (.mk upd_same ?_)
        refine .cons (.str _) (.cons (.mk (tup_upd np2 _ _ ep2) (.cons (.int _) (.cons (.int _) .nil))) (.cons (.str _) .nil))
      · cases he
    rw [if_neg e4] at he
    rw [decide_eq_false e4]
    refine iteF ?_
    refine ⟨.ref r, rfl, .int (d : Int), rfl, _, _, rfl, rfl, r, wl, row, ws, k, d + 1, t, k', rfl, st, he, q⟩
theorem lookup_mem : ∀ {l : List (Str × Str)} {z v : Str}, l.lookup z = some v → (z, v) ∈ l
  | [], _, _, h => by cases h
  | (a, b) :: l, z, v, h => by
    rw [List.lookup_cons] at h
    split at h
    · next e =>
      have := LawfulBEq.eq_of_beq e
      cases h
      rw [this]
      exact List.mem_cons_self
    · exact List.mem_cons_of_mem _ (lookup_mem h)
theorem ok_expn {L : Nat} {n : Nat} {f : Addr} {fd : FuncData} (D : DefAt K mg "read_expression" ["words", "depth"] s_read_expression f fd) (T : Tp3 K w mg ke kr)
    (R : MR P w K mg base C) (h4 : 5 ≤ L) (C_is_spot : Cal P w K mg base L2.CX0 2 "is_spot" ["word"] spSpot)
    (C_read_part : Cal P w K mg base L2.CX0 L "read_part" ["words", "letter", "depth"] (spPart C fun row ws => rdExp row ws n)) :
    Cal P w K mg base L2.CX0 (L + 1) "read_expression" ["words", "depth"] (spExp C fun row ws => rdExp row ws (n + 1)) := by
  have S := S_read_expression
  obtain ⟨M_here, M_more, M_coming, M_take, M_take_name, M_take_number, M_take_end⟩ := R
  obtain ⟨esE, nE, Ke⟩ := T.Ke
  refine cal_of D.fn D.mgf D.bs D.kbs S (fun vs H Q E h => ?_) (fun cdv A outer s H vs Q E hq hr h => ?_)
  · obtain ⟨r, wl, row, ws, k, d, t, k', rfl, _⟩ := h
    rfl
  · obtain ⟨r, wl, row, ws, k, d, t, k', rfl, st, he, q⟩ := h
    refine ⟨_, (pss_cons (ps_set (i := 2) S.nd rfl (.inl rfl) (pe_m0 M_here pass0 hq hr (by omega) (pv 0)))
 (pss_cons (ps_set (i := 3) S.nd rfl (.inl rfl) (pe_m0 M_coming pass0 hq hr (by omega) (pv 0)))
 (pss_cons (ps_if (pt_val (pe_c C_is_spot pass0 hq hr (by omega) (by rfl) (pa_cons (pv 3) pa_nil)))
  (pss_one (ps_ret (pe_tup (pa_cons pe_str (pa_cons (pv 2) (pa_cons (pe_m M_take pass0 hq hr (by omega) (pv 0) (pa_cons pe_bl pa_nil)) pa_nil))))))
  pss_nil)
 (pss_cons (ps_set (i := 4) S.nd rfl (.inl rfl) (pe_or (pe_cmpR op_lt (pv 1) (C8.pe_gc (by rfl) T.c_DEEPEST) (nomark _)) (pe_one (pe_cmpR op_eq (pv 3) pe_str (nomark _)))))
 (pss_cons (ps_expr (pe_m M_take pass0 hq hr (by omega) (pv 0) (pa_cons (pe_and (pe_cmpR (op_in_kd Ke) (pv 3) (C8.pe_gc (by rfl) T.c_EXPRESSIONS) rfl) (pe_one (pv 4))) pa_nil)))
 (pss_cons (ps_setLc (i := 5) (own := [("letter", 6)]) (g := gName 6) (tt := tYes) rfl S.nd rfl rfl (sw_true rfl rfl rfl (by decide +kernel)) (pi_str (pe_ix ix_kdict (C8.pe_gc (by rfl) T.c_EXPRESSIONS) (pv 3) (fun _ _ => rfl))) (blkOk_by (own := [("letter", 6)]) (N := N_read_expression) (sc := defScope s_read_expression) (by decide +kernel)) (fun _ _ _ _ _ => pg_name (i := 6) S.nd rfl (.inl rfl)) (fun _ _ _ _ _ => pts_nil) (fun _ _ _ _ _ => (pe_c C_read_part pass0 hq hr (by omega) (by rfl) (pa_cons (pv 0) (pa_cons (pv 6) (pa_cons (pv 1) pa_nil))))))
 (pss_one (ps_ret (pe_tup (pa_cons (pv 3) (pa_cons (pv 2) (StX.pa_star (pv 5) pa_nil)))))))))))), ?_⟩
    obtain ⟨dx, e⟩ := st.ins
    refine ⟨.ref r, rfl, r, dx, _, rfl, e, rfl, r, wl, row, ws, k, rfl, st, fun p H1 s1 np ep => ?_⟩
    have st1 := st.same s1
    obtain ⟨dx1, e1⟩ := st1.ins
    refine ⟨.ref r, rfl, r, dx1, _, rfl, e1, rfl, r, wl, row, ws, k, rfl, st1, ?_⟩
    refine ⟨.str (ws.getD k ""), rfl, _, rfl, st1.word, fun H2 s2 => ⟨_, rfl, ?_⟩⟩
    have st2 := st1.same s2
    have ep2 := s2 _ _ ep
    obtain ⟨dx2, e2⟩ := st2.ins
    simp only [rdExp] at he
    split at he
    · next hs =>
      cases he
      rw [hs]
      refine iteT ?_
      refine ⟨.ref p, rfl, .ref r, rfl, r, dx2, _, rfl, e2, rfl, r, wl, row, ws, k, rfl, st2, fun H3 o3 g3 => ?_⟩
      refine ⟨by show 3 ≤ sizeLine; decide, fun p2 np2 => ?_⟩
      have ep3 := st2.tups o3 _ _ ep2
      refine q _ _ ((((Oth.of s1).same s2).trans o3).same (same_new np2)) (g3.same (same_new np2)) (.mk upd_same ?_)
      exact .cons (.str _) (.cons (.mk (tup_upd np2 _ _ ep3) (.cons (.int _) (.cons (.int _) .nil))) (.cons (.str _) .nil))
    · next hs =>
      rw [Bool.eq_false_iff.mpr hs]
      refine iteF ?_
      cases hl : expTab.lookup (ws.getD k "") with
      | none =>
        rw [hl] at he
        cases he
      | some sh =>
        rw [hl] at he
        obtain ⟨u, hu1, hu2⟩ := T.e_at _ (lookup_mem hl)
        simp only at he
        split at he
        · next hg =>
          cases hr2 : rdLets (rdExp row ws n) row ws sh.cps.toList d (k + 1) with
          | none =>
            rw [hr2] at he
            cases he
          | some x =>
            obtain ⟨tsA, k2⟩ := x
            rw [hr2] at he
            cases he
            have hsh : sh.cps.toList.length ≤ 3 := (show ∀ e ∈ expTab, e.2.cps.toList.length ≤ 3 by decide +kernel) _ (lookup_mem hl)
            refine or_lt_num rfl rfl hg ?_
            refine ⟨.ref r, rfl, r, dx2, _, rfl, e2, rfl, .str (ws.getD k ""), rfl, _, some u, rfl, rfl, hu1, _, rfl, iteT ⟨.bl true, rfl, ?_⟩⟩
            refine ⟨r, wl, row, ws, k, rfl, st2, fun H3 o3 g3 => ?_⟩
            have ep3 := st2.tups o3 _ _ ep2
            refine ⟨.str (ws.getD k ""), rfl, ke, _, .str sh, rfl, rfl, ⟨esE, nE, u, Ke.at_, Ke.lit, hu1, hu2⟩, sh, rfl, fun D nD => ?_⟩
            refine lc_str (x := sh) (fun i H' => ∃ (ts : List Td) (vs : List V) (k1 : Nat) (ts' : List Td), Oth r H3 H' ∧ RWat C H' r wl row ws k1 ∧ H' D = some (.lst vs) ∧ All2 H' ts vs ∧
              rdLets (rdExp row ws n) row ws (sh.cps.toList.drop i) d k1 = some (ts', k') ∧ ts ++ ts' = tsA ∧ ts.length = i) ?_ ?_ ?_
            · exact ⟨[], [], k + 1, tsA, .of (same_new nD), g3.same (same_new nD), upd_same, .nil, hr2, rfl, rfl⟩
            · rintro i c H' hc ⟨ts, vs, k1, ts', o, g, eD, a2, hrd, happ, hlen⟩
              refine ⟨rfl, ?_⟩
              unfold tYes
              refine iteT ?_
              have hi : i < sh.cps.toList.length := by
                rcases Nat.lt_or_ge i sh.cps.toList.length with h | h
                · exact h
                · rw [List.getElem?_eq_none h] at hc
                  cases hc
              have hdr : sh.cps.toList.drop i = c :: sh.cps.toList.drop (i + 1) := by
                rw [List.drop_eq_getElem_cons hi]
                rw [List.getElem?_eq_getElem hi] at hc
                rw [Option.some.inj hc]
              rw [hdr] at hrd
              simp only [rdLets] at hrd
              cases h1 : rdLet (rdExp row ws n) row ws ⟨#[c]⟩ d k1 with
              | none =>
                rw [h1] at hrd
                cases hrd
              | some y =>
                obtain ⟨t1, k3⟩ := y
                rw [h1] at hrd
                simp only at hrd
                cases h2 : rdLets (rdExp row ws n) row ws (sh.cps.toList.drop (i + 1)) d k3 with
                | none =>
                  rw [h2] at hrd
                  cases hrd
                | some y2 =>
                  obtain ⟨ts2, k4⟩ := y2
                  rw [h2] at hrd
                  cases hrd
                  refine ⟨.ref r, rfl, .str ⟨#[c]⟩, rfl, .int (d : Int), rfl, r, wl, row, ws, k1, ⟨#[c]⟩, d, t1, k3, rfl, g, h1, fun H4 v o4 g4 tv => ?_⟩
                  have nDr : D ≠ r := fun z => by
                    obtain ⟨dx4, e4⟩ := g3.ins
                    rw [← z, nD] at e4
                    cases e4
                  have nDl : D ≠ wl := fun z => by
                    have e4 := g3.lst
                    rw [← z, nD] at e4
                    cases e4
                  have eD4 := o4 _ _ nDr eD
                  have hvl : vs.length = i := a2.1.symm.trans hlen
                  refine ⟨vs, eD4, by rw [hvl]; exact Nat.lt_of_lt_of_le hi (Nat.le_trans hsh (by decide)), ts ++ [t1], vs ++ [v], k3, ts2, (o.trans o4).mut nD, g4.updne nDr nDl, upd_same, ?_, h2, by rw [List.append_assoc]; exact happ, by rw [List.length_append, hlen]; rfl⟩
                  exact ((a2.keep (g.tups o4)).snoc tv).keep fun p2 vs2 e5 => by
                    rw [upd_ne (fun z => by
                      rw [z, eD4] at e5
                      cases e5)]
                    exact e5
            · rintro H' ⟨ts, vs, k1, ts', o, g, eD, a2, hrd, happ, hlen⟩
              rw [show sh.cps.toList.drop sh.cps.size = [] from List.drop_eq_nil_of_le (Nat.le_of_eq Array.length_toList)] at hrd
              simp only [rdLets] at hrd
              cases hrd
              rw [List.append_nil] at happ
              subst happ
              refine ⟨.str (ws.getD k ""), rfl, .ref p, rfl, .ref D, rfl, D, vs, rfl, .inr (.inl (.inl eD)), ?_⟩
              have hvl : vs.length ≤ 3 := by
                rw [← a2.1, hlen, ← Array.length_toList]
                exact hsh
              refine ⟨?_, fun p2 np2 => ?_⟩
              · rw [List.append_nil, List.length_cons, List.length_cons]
                exact Nat.le_trans (Nat.add_le_add_right (Nat.add_le_add_right hvl 1) 1) (by decide)
              · rw [List.append_nil]
                have ep4 := g3.tups o _ _ ep3
                refine q _ _ ((((Oth.of s1).same s2).trans (o3.trans o)).same (same_new np2)) (g.same (same_new np2)) (.mk upd_same ?_)
                exact .cons (.str _) (.cons (.mk (tup_upd np2 _ _ ep4) (.cons (.int _) (.cons (.int _) .nil))) (a2.keep (tup_upd np2)))
        · cases he
end

end
section
variable {P : Program} {w : World} {K : PySem.W.Frag} {mg : Str → Option Value} {base : Heap}
/-! ### uses, rows, modules -/
theorem lc_enum {a : Addr} {xs : List V} {g : TG} {tt : TT} {te : TE} {vs : List Nat} {σ : L2.St} {H1 : Hp} {D : Addr} {Qd : Hp → Prop} (Pv : Nat → Hp → Prop)
    (h0 : Pv 0 (upd H1 D (.lst [])))
    (hl : ∀ i H, i ≤ xs.length → Pv i H → SqL K H a xs)
    (hs : ∀ (i : Nat) x H T, xs[i]? = some x → Pv i H → H T = none → g (.ref T) (wipe σ vs) (upd H T (.tup [.int (i : Int), x])) fun σ2 H2 => wipe σ2 vs = wipe σ vs ∧ tt σ2 H2 fun b H3 =>
      if b = true then te σ2 H3 fun y H4 => ∃ acc, H4 D = some (.lst acc) ∧ acc.length < sizeLine ∧ Pv (i + 1) (upd H4 D (.lst (acc ++ [y])))
      else Pv (i + 1) H3)
    (hd : ∀ H, Pv xs.length H → Qd H) :
    ∃ W : Nat → Nat → Hp → Prop, (∃ m, W 0 m (upd H1 D (.lst []))) ∧ ∀ i m H, W i m H →
      ((Ite K a).stop i H ∧ Qd H) ∨ ((Ite K a).go i H ∧ ∃ Nx : Hp → Prop, (∀ H', Nx H' → ∃ m', m' < m ∧ W (i + 1) m' H') ∧
        ∀ v H', (Ite K a).yld i H v H' → g v (wipe σ vs) H' fun σ2 H2 => wipe σ2 vs = wipe σ vs ∧ tt σ2 H2 fun b H3 =>
          if b = true then te σ2 H3 fun y H4 => ∃ acc, H4 D = some (.lst acc) ∧ acc.length < sizeLine ∧ Nx (upd H4 D (.lst (acc ++ [y]))) else Nx H3) := by
  refine ⟨fun i m H => m = xs.length - i ∧ i ≤ xs.length ∧ Pv i H, ⟨xs.length, rfl, Nat.zero_le _, h0⟩, ?_⟩
  rintro i m H ⟨rfl, hi, p⟩
  by_cases hlt : i < xs.length
  · refine .inr ⟨⟨xs, xs[i], hl i H hi p, List.getElem?_eq_getElem hlt⟩, Pv (i + 1), fun H' q => ⟨xs.length - (i + 1), by omega, rfl, by omega, q⟩, ?_⟩
    rintro v H' ⟨T, x, rfl, nT, rfl, hx⟩
    exact hs i x H T (hx xs (hl i H hi p)) p nT
  · have e : i = xs.length := by omega
    subst e
    exact .inl ⟨⟨xs, hl _ H hi p, Nat.le_refl _⟩, hd H p⟩
theorem all2_map {H : Hp} {α : Type} {a : α → Td} {b : α → V} : ∀ (l : List α), (∀ i, TdR H (a i) (b i)) → All2 H (l.map a) (l.map b)
  | [], _ => .nil
  | _ :: l, h => .cons (h _) (all2_map l h)
def rowTab : List (Str × Str) := [("clock", "X"), ("in", "XWX"), ("out", "XWXE"), ("wire", "XWE"), ("box", "XWXKE"), ("cross", "XXKA")]
abbrev exp13 (row : Int) (ws : List Str) (d k : Nat) : Option (Td × Nat) := rdExp row ws 13 d k
def rdHanded (row : Int) (ws : List Str) : Nat → Nat → Option (List Td × Nat)
  | 0, k => some ([], k)
  | n + 1, k => if k < ws.length then
      (match exp13 row ws 1 k with
      | none => none
      | some (t, k1) => match rdHanded row ws n k1 with
        | none => none
        | some (ts, k2) => some (t :: ts, k2))
    else some ([], k)
def manyV (ws : List Str) (k : Nat) : Nat := (numV (ws.getD (k + 2) "")).toNat
def rdUse (row : Int) (ws : List Str) (k : Nat) : Option (Td × Nat) :=
  if isNm (ws.getD k "") = true ∧ isNm (ws.getD (k + 1) "") = true ∧ isNum (ws.getD (k + 2) "") 0 4 = true ∧ ∀ i, i < manyV ws k → isNm (ws.getD (k + 3 + i) "") = true then
    match rdHanded row ws 6 (k + 3 + manyV ws k) with
    | none => none
    | some (hs, k') => some (.tup [.str "use", .str (ws.getD k ""), .str (ws.getD (k + 1) ""), .tup ((List.range (manyV ws k)).map fun i => .str (ws.getD (k + 3 + i) "")), .tup hs], k')
  else none
def rdRow (row : Int) (line : Str) : Option Td :=
  if (Txt.split line " ").getD 0 "" = "use" then
    match rdUse row (Txt.split line " ") 1 with
    | none => none
    | some (t, k) => if (Txt.split line " ").length ≤ k then some t else none
  else match rowTab.lookup ((Txt.split line " ").getD 0 "") with
    | none => none
    | some sh => match rdLets (exp13 row (Txt.split line " ")) row (Txt.split line " ") sh.cps.toList 0 1 with
      | none => none
      | some (ts, k) => if (Txt.split line " ").length ≤ k then some (.tup (.str ((Txt.split line " ").getD 0 "") :: ts)) else none
def spUse (C : Addr) : Sp := fun vs H Q _ => ∃ (r wl : Addr) (row : Int) (ws : List Str) (k : Nat) (t : Td) (k' : Nat),
  vs = [.ref r] ∧ RWat C H r wl row ws k ∧ rdUse row ws k = some (t, k') ∧ ∀ H' v, Oth r H H' → RWat C H' r wl row ws k' → TdR H' t v → Q v H'
structure OkLine (line : Str) : Prop where
  len : line.length ≤ 999000
  words : ∀ z ∈ Txt.split line " ", z.length ≤ 1000
theorem OkLine.many {line : Str} (h : OkLine line) : (Txt.split line " ").length ≤ 1000000 := by
  have h1 := split_weight line " " (by decide)
  have := h.len
  omega
def spInit (C : Addr) : Sp := fun vs H Q _ => ∃ (x dx : Addr) (row : Int) (line : Str), vs = [.ref x, .int row, .str line] ∧ H x = some (.ins C dx []) ∧ OkLine line ∧
  ∀ wl H', Oth x H H' → RWat C H' x wl row (Txt.split line " ") 0 → Q .non H'
def spRow : Sp := fun vs H Q _ => ∃ (row : Int) (line : Str) (t : Td), vs = [.int row, .str line] ∧ OkLine line ∧ rdRow row line = some t ∧ ∀ H' v, Same H H' → TdR H' t v → Q v H'
def spMod : Sp := fun vs H Q _ => ∃ (text : Str) (ts : List Td), vs = [.str text] ∧ (text = "" ∧ ts = [] ∨ text.length ≤ 10000000 ∧ (∀ l ∈ Txt.split text "\n", OkLine l) ∧ text ≠ "" ∧
  ts.length = (Txt.split text "\n").length ∧ (∀ (i : Nat) l t, (Txt.split text "\n")[i]? = some l → ts[i]? = some t → rdRow (i : Int) l = some t)) ∧ ∀ H' v, Same H H' → TdR H' (.tup ts) v → Q v H'
section
variable {C ke kr : Addr}
theorem ok_part_exp {f1 f2 : Addr} {fd1 fd2 : FuncData} (D1 : DefAt K mg "read_part" ["words", "letter", "depth"] s_read_part f1 fd1) (D2 : DefAt K mg "read_expression" ["words", "depth"] s_read_expression f2 fd2)
    (T : Tp3 K w mg ke kr) (R : MR P w K mg base C) (C_is_spot : Cal P w K mg base L2.CX0 2 "is_spot" ["word"] spSpot) :
    ∀ n : Nat, Cal P w K mg base L2.CX0 (5 + 2 * n) "read_expression" ["words", "depth"] (spExp C fun row ws => rdExp row ws n)
  | 0 => by
    refine cal_of D2.fn D2.mgf D2.bs D2.kbs S_read_expression (fun vs H Q E h => ?_) (fun cdv A outer s H vs Q E hq hr h => ?_)
    · obtain ⟨r, wl, row, ws, k, d, t, k', rfl, st, he, q⟩ := h
      rfl
    · obtain ⟨r, wl, row, ws, k, d, t, k', rfl, st, he, q⟩ := h
      cases he
  | n + 1 => ok_expn (L := 5 + 2 * n + 1) D2 T R (by omega) C_is_spot (ok_part (L := 5 + 2 * n) D1 T R (by omega) (ok_part_exp D1 D2 T R C_is_spot n))
theorem ok_init {f : Addr} {fd : FuncData} (F : L2.Fun K "__init__" "RowWords.__init__" s_RowWords_init f fd) (W : ClRW K C) : FnOk P w K mg base L2.CX0 1 f fd ["self", "row", "line"] (spInit C) := by
  have S := S_RowWords_init
  obtain ⟨oc, od, kV, doc, pm, an, cdv, ct, osl, rfl, lk, hcd⟩ := F.ex
  refine fn_of lk hcd S (fun vs H Q E h => ?_) (fun A outer s H vs Q E hr h => ?_)
  · obtain ⟨x, dx, row, line, rfl, _⟩ := h
    rfl
  · obtain ⟨x, dx, row, line, rfl, e, ok, q⟩ := h
    refine ⟨_, (pss_cons (ps_fld (pv 0) (pv 1) rfl)
 (pss_cons (ps_fld (pv 0) (pe_split (pv 2) pe_str) rfl)
 (pss_one (ps_fld (pv 0) pe_int rfl)))), ?_⟩
    refine ⟨.int row, rfl, .ref x, rfl, x, C, dx, _, rfl, e, W.cl, W.n_row, by decide, ?_⟩
    have e1 : upd H x (.ins C dx (putF "row" (.int row) [])) x = some (.ins C dx (putF "row" (.int row) [])) := upd_same
    refine ⟨.str line, rfl, ⟨_, rfl⟩, line, _, rfl, rfl, by decide, Nat.le_trans (Nat.add_le_add_right ok.len 2) (by decide), fun p np => ?_⟩
    have npx : p ≠ x := fun z => by
      rw [z, e1] at np
      cases np
    refine ⟨.ref x, rfl, x, C, dx, _, rfl, (upd_ne npx.symm).trans e1, W.cl, W.n_words, by show 1 < 1000; decide, ?_⟩
    refine ⟨.ref x, rfl, x, C, dx, _, rfl, upd_same, W.cl, W.n_at, by show 2 < 1000; decide, ?_⟩
    refine q p _ ?_ ⟨⟨dx, ?_⟩, ?_, ok.words, ok.many⟩
    · refine Oth.trans (Oth.upd (o := .ins C dx (putF "row" (.int row) []))) (Oth.trans ?_ (Oth.trans Oth.upd Oth.upd))
      exact .of (same_new np)
    · rw [upd_same]
      rfl
    · rw [upd_ne npx, upd_ne npx, upd_same]
theorem ok_use {f : Addr} {fd : FuncData} (D : DefAt K mg "read_use" ["words"] s_read_use f fd) (M : Bi mg) (T : Tp3 K w mg ke kr) (R : MR P w K mg base C)
    (C_read_expression : Cal P w K mg base L2.CX0 31 "read_expression" ["words", "depth"] (spExp C exp13)) : Cal P w K mg base L2.CX0 32 "read_use" ["words"] (spUse C) := by
  have S := S_read_use
  obtain ⟨M_here, M_more, M_coming, M_take, M_take_name, M_take_number, M_take_end⟩ := R
  refine cal_of D.fn D.mgf D.bs D.kbs S (fun vs H Q E h => ?_) (fun cdv A outer s H vs Q E hq hr h => ?_)
  · obtain ⟨r, wl, row, ws, k, t, k', rfl, _⟩ := h
    rfl
  · obtain ⟨r, wl, row, ws, k, t, k', rfl, st, he, q⟩ := h
    refine ⟨_, (pss_cons (ps_set (i := 1) S.nd rfl (.inl rfl) (pe_m0 M_take_name pass0 hq hr (by omega) (pv 0)))
 (pss_cons (ps_set (i := 2) S.nd rfl (.inl rfl) (pe_m0 M_take_name pass0 hq hr (by omega) (pv 0)))
 (pss_cons (ps_set (i := 3) S.nd rfl (.inl rfl) (pe_m M_take_number pass0 hq hr (by omega) (pv 0) (pa_cons pe_int (pa_cons (C8.pe_gc (by rfl) T.c_MOST_CLOCKS) pa_nil))))
 (pss_cons (ps_set (i := 4) S.nd rfl (.inl rfl) (pe_callTy call_tuple_of (by rfl) M.tuple_ (by decide +kernel) (pa_cons (pe_lc (own := [("_", 5)]) (g := gName 5) (tt := tYes) rfl S.nd (pi_range1 (by rfl) M.range_ (pa_cons (pv 3) pa_nil)) (blkOk_by (own := [("_", 5)]) (N := N_read_use) (sc := defScope s_read_use) (by decide +kernel)) (fun _ _ _ _ _ => pg_name (i := 5) S.nd rfl (.inl rfl)) (fun _ _ _ _ _ => pts_nil) (fun _ _ _ _ _ => (pe_m0 M_take_name pass0 hq hr (by omega) (pv 0)))) pa_nil)))
 (pss_cons (ps_set (i := 6) S.nd rfl (.inl rfl) (pe_lst pa_nil))
 (pss_cons (ps_while PassesOwn.never (PW.pt (pw_and (pt_val (pe_m0 M_more pass0 hq hr (by omega) (pv 0))) (pw_and1 (pt_cmpR op_lt (pe_callB call_len_seq (by rfl) M.len_ (by decide +kernel) (pa_cons (pv 6) pa_nil)) (C8.pe_gc (by rfl) T.c_MOST_HANDED) (nomark _)))))
  (pss_one (ps_expr (pe_bm PySem.F.plainAttrs_list PySem.F.slot_list_append PySem.F.type_list_append mt_append (pv 6) (pa_cons (pe_c C_read_expression pass0 hq hr (by omega) (by rfl) (pa_cons (pv 0) (pa_cons pe_int pa_nil))) pa_nil)))))
 (pss_one (ps_ret (pe_tup (pa_cons pe_str (pa_cons (pv 1) (pa_cons (pv 2) (pa_cons (pv 4) (pa_cons (pe_callTy call_tuple_of (by rfl) M.tuple_ (by decide +kernel) (pa_cons (pv 6) pa_nil)) pa_nil)))))))))))))), ?_⟩
    unfold rdUse at he
    split at he
    · next hc =>
      obtain ⟨hn1, hn2, hn3, hn4⟩ := hc
      cases hh : rdHanded row ws 6 (k + 3 + manyV ws k) with
      | none =>
        rw [hh] at he
        cases he
      | some y =>
        obtain ⟨hs, k2⟩ := y
        rw [hh] at he
        cases he
        obtain ⟨dx, e⟩ := st.ins
        refine ⟨.ref r, rfl, r, dx, _, rfl, e, rfl, r, wl, row, ws, k, rfl, st, hn1, fun H1 o1 g1 => ?_⟩
        obtain ⟨dx1, e1⟩ := g1.ins
        refine ⟨.ref r, rfl, r, dx1, _, rfl, e1, rfl, r, wl, row, ws, k + 1, rfl, g1, hn2, fun H2 o2 g2 => ?_⟩
        obtain ⟨dx2, e2⟩ := g2.ins
        refine ⟨.ref r, rfl, r, dx2, _, rfl, e2, rfl, r, wl, row, ws, k + 2, 0, 4, rfl, g2, hn3, by decide, by decide, by decide +kernel, fun H3 o3 g3 => ?_⟩
        have hm4 : numV (ws.getD (k + 2) "") ≤ 4 := by
          unfold isNum at hn3
          rw [Bool.and_eq_true, Bool.and_eq_true, Bool.and_eq_true, decide_eq_true_eq, decide_eq_true_eq] at hn3
          exact hn3.2.2.2
        have hmv : numV (ws.getD (k + 2) "") = (manyV ws k : Int) := by
          unfold manyV numV
          rfl
        have hmy : manyV ws k ≤ 4 := by omega
        -- the clocks
        refine ⟨.int (numV (ws.getD (k + 2) "")), rfl, _, rfl, by omega, by omega, fun D nD => ?_⟩
        have nDr : D ≠ r := fun z => by
          obtain ⟨dx4, e4⟩ := g3.ins
          rw [← z, nD] at e4
          cases e4
        have nDl : D ≠ wl := fun z => by
          have e4 := g3.lst
          rw [← z, nD] at e4
          cases e4
        refine lc_range (fun i H' => Oth r H3 H' ∧ RWat C H' r wl row ws (k + 3 + i) ∧ H' D = some (.lst ((List.range i).map fun i => V.str (ws.getD (k + 3 + i) "")))) ?_ ?_ ?_
        · exact ⟨.of (same_new nD), g3.same (same_new nD), upd_same⟩
        · rintro i H' hi ⟨o, g, eD⟩
          refine ⟨rfl, ?_⟩
          unfold tYes
          refine iteT ?_
          obtain ⟨dx5, e5⟩ := g.ins
          refine ⟨.ref r, rfl, r, dx5, _, rfl, e5, rfl, r, wl, row, ws, k + 3 + i, rfl, g, hn4 i (by unfold manyV; exact hi), fun H4 o4 g4 => ?_⟩
          have eD4 := o4 _ _ nDr eD
          refine ⟨_, eD4, ?_, (o.trans o4).mut nD, g4.updne nDr nDl, ?_⟩
          · rw [List.length_map, List.length_range]
            have : i < manyV ws k := by unfold manyV; exact hi
            exact Nat.lt_of_lt_of_le (show i < 5 by omega) (by decide)
          · rw [upd_same, List.range_succ, List.map_append]
            rfl
        · rintro H4 ⟨o4, g4, eD⟩
          have eM : (numV (ws.getD (k + 2) "")).toNat = manyV ws k := rfl
          rw [eM] at g4 eD
          refine ⟨D, _, rfl, .inl ⟨.inl (.inl eD), fun pc npc => ?_⟩⟩
          have ec5 : upd H4 pc (.tup ((List.range (manyV ws k)).map fun i => V.str (ws.getD (k + 3 + i) ""))) pc = some (.tup ((List.range (manyV ws k)).map fun i => V.str (ws.getD (k + 3 + i) ""))) := upd_same
          have g5 := g4.same (same_new (o := .tup ((List.range (manyV ws k)).map fun i => V.str (ws.getD (k + 3 + i) ""))) npc)
          have o5 := (o3.trans o4).same (same_new (o := .tup ((List.range (manyV ws k)).map fun i => V.str (ws.getD (k + 3 + i) ""))) npc)
          have oA := (o1.trans o2).trans o5
          revert ec5 g5 oA
          generalize upd H4 pc (.tup ((List.range (manyV ws k)).map fun i => V.str (ws.getD (k + 3 + i) ""))) = H5
          intro ec5 g5 oA
          refine ⟨by decide, fun L nL => ?_⟩
          have nLr : L ≠ r := fun z => by
            obtain ⟨dx4, e4⟩ := g5.ins
            rw [← z, nL] at e4
            cases e4
          have nLl : L ≠ wl := fun z => by
            have e4 := g5.lst
            rw [← z, nL] at e4
            cases e4
          have nLc : pc ≠ L := fun z => by
            rw [z, nL] at ec5
            cases ec5
          have key : ∃ W : Nat → L2.St → Hp → Prop, W = fun m σ' H' => σ' = ((((List.set (L2.start N_read_use [V.ref r]) 1 (some (V.str (ws.getD k "")))).set 2 (some (V.str (ws.getD (k + 1) "")))).set 3 (some (V.int (numV (ws.getD (k + 2) ""))))).set 4 (some (.ref pc))).set 6 (some (.ref L)) ∧
            ∃ (ts : List Td) (vs : List V) (k1 : Nat) (ts' : List Td), Oth r H5 H' ∧ RWat C H' r wl row ws k1 ∧ H' L = some (.lst vs) ∧ All2 H' ts vs ∧ rdHanded row ws (6 - ts.length) k1 = some (ts', k') ∧ ts ++ ts' = hs ∧ ts.length ≤ 6 ∧ m = 6 - ts.length := ⟨_, rfl⟩
          obtain ⟨W, hW⟩ := key
          refine ⟨W, ⟨6, ?_⟩, fun m σ' H' hw => ?_⟩
          · rw [hW]
            exact ⟨rfl, [], [], _, hs, .of (same_new nL), g5.same (same_new nL), upd_same, .nil, hh, rfl, by decide, rfl⟩
          · rw [hW] at hw
            obtain ⟨rfl, ts, vs, k1, ts', o, g, eL, a2, hrd, happ, hlen, rfl⟩ := hw
            have DONE : ts' = [] → k1 = k' → tRet (tTup (tCons (tC (V.str "use")) (tCons (tVar 1) (tCons (tVar 2) (tCons (tVar 4) (tCons (tCB (fun xs H_1 Q => ∃ p ys, xs = [V.ref p] ∧
                ((SqL K H_1 p ys ∧ ∀ (l : Addr), H_1 l = none → Q (V.ref l) (upd H_1 l (HO.tup ys))) ∨ SqT K H_1 p ys ∧ Q (V.ref p) H_1)) (tCons (tVar 6) tNil)) tNil))))))
                { nx := fun x H' => Q V.non H', rt := Q } (((((List.set (L2.start N_read_use [V.ref r]) 1 (some (V.str (ws.getD k "")))).set 2 (some (V.str (ws.getD (k + 1) "")))).set 3 (some (V.int (numV (ws.getD (k + 2) ""))))).set 4 (some (.ref pc))).set 6 (some (.ref L))) H' := by
              rintro rfl rfl
              rw [List.append_nil] at happ
              subst happ
              refine ⟨.str (ws.getD k ""), rfl, .str (ws.getD (k + 1) ""), rfl, .ref pc, rfl, .ref L, rfl, L, vs, rfl, .inl ⟨.inl (.inl eL), fun q1 nq1 => ⟨by show 5 ≤ sizeLine; decide, fun q2 nq2 => ?_⟩⟩⟩
              have ec6 := g5.tups o _ _ ec5
              refine q _ _ (((oA.trans o).same (same_new nq1)).same (same_new nq2)) ((g.same (same_new nq1)).same (same_new nq2)) (.mk upd_same ?_)
              refine .cons (.str _) (.cons (.str _) (.cons (.str _) (.cons (.mk (tup_upd nq2 _ _ (tup_upd nq1 _ _ ec6)) ?_) (.cons (.mk (tup_upd nq2 _ _ upd_same) ((a2.keep (tup_upd nq1)).keep (tup_upd nq2))) .nil))))
              exact all2_map _ fun i => .str _
            obtain ⟨dx5, e5⟩ := g.ins
            refine ⟨.ref r, rfl, r, dx5, _, rfl, e5, rfl, r, wl, row, ws, k1, rfl, g, _, rfl, ?_⟩
            by_cases hk1 : k1 < ws.length
            · rw [decide_eq_true hk1]
              refine iteT ⟨.ref L, rfl, L, vs, rfl, .inl (.inl (.inl eL)), _, 6, rfl, rfl, _, rfl, ?_⟩
              have hvs : vs.length = ts.length := a2.1.symm
              by_cases h6 : ts.length < 6
              · rw [decide_eq_true (show (vs.length : Int) < 6 by omega)]
                obtain ⟨n, hn⟩ : ∃ n, 6 - ts.length = n + 1 := ⟨5 - ts.length, by omega⟩
                rw [hn] at hrd
                simp only [rdHanded] at hrd
                rw [if_pos hk1] at hrd
                cases h1 : exp13 row ws 1 k1 with
                | none =>
                  rw [h1] at hrd
                  cases hrd
                | some y =>
                  obtain ⟨t1, k3⟩ := y
                  rw [h1] at hrd
                  simp only at hrd
                  cases h2 : rdHanded row ws n k3 with
                  | none =>
                    rw [h2] at hrd
                    cases hrd
                  | some y2 =>
                    obtain ⟨ts2, k4⟩ := y2
                    rw [h2] at hrd
                    cases hrd
                    refine iteT ⟨fun σ' H'' => W n σ' H'', fun σ' H'' h => ⟨n, by omega, h⟩, ?_⟩
                    refine ⟨.ref L, rfl, .inl ⟨rfl, _, .inl (.inl eL)⟩, .ref r, rfl, r, wl, row, ws, k1, 1, t1, k3, rfl, g, h1, fun H6 v o6 g6 tv => ?_⟩
                    have eL6 := o6 _ _ nLr eL
                    refine ⟨L, vs, v, rfl, rfl, eL6, ?_, ?_⟩
                    · rw [hvs]
                      exact Nat.lt_of_lt_of_le h6 (by decide)
                    · rw [hW]
                      refine ⟨rfl, ts ++ [t1], vs ++ [v], k3, ts2, (o.trans o6).mut nL, g6.updne nLr nLl, upd_same, ?_, ?_, by rw [List.append_assoc]; exact happ, ?_, ?_⟩
                      · exact ((a2.keep (g.tups o6)).snoc tv).keep fun p2 vs2 e5 => by
                          rw [upd_ne (fun z => by
                            rw [z, eL6] at e5
                            cases e5)]
                          exact e5
                      · rw [List.length_append, List.length_singleton, show 6 - (ts.length + 1) = n by omega]
                        exact h2
                      · rw [List.length_append, List.length_singleton]
                        omega
                      · rw [List.length_append, List.length_singleton]
                        omega
              · rw [decide_eq_false (show ¬ (vs.length : Int) < 6 by omega)]
                have h0 : 6 - ts.length = 0 := by omega
                rw [h0] at hrd
                simp only [rdHanded] at hrd
                cases hrd
                exact iteF (DONE rfl rfl)
            · rw [decide_eq_false hk1]
              have hz : ts' = [] ∧ k1 = k' := by
                cases hn : 6 - ts.length with
                | zero =>
                  rw [hn] at hrd
                  simp only [rdHanded] at hrd
                  cases hrd
                  exact ⟨rfl, rfl⟩
                | succ n =>
                  rw [hn] at hrd
                  simp only [rdHanded] at hrd
                  rw [if_neg hk1] at hrd
                  cases hrd
                  exact ⟨rfl, rfl⟩
              exact iteF (iteF (DONE hz.1 hz.2))
    · cases he
theorem ok_row {fi : Addr} {fdi : FuncData} {f : Addr} {fd : FuncData} (D : DefAt K mg "read_row" ["row", "line"] s_read_row f fd) (T : Tp3 K w mg ke kr)
    (e_row : ∀ e ∈ rowTab, ∃ u, PySem.W.nsIn K kr e.1 = some (some u) ∧ RelV (.str e.2) u) (R : MR P w K mg base C) (W : ClRW K C)
    (Mk_RowWords : L2.Mk K C fi) (F_RowWords : FnOk P w K mg base L2.CX0 1 fi fdi ["self", "row", "line"] (spInit C)) (g_RowWords : mg "RowWords" = some (.ref C)) (b_RowWords : L2.Binds K fdi ["self", "row", "line"] [])
    (C_read_part : Cal P w K mg base L2.CX0 32 "read_part" ["words", "letter", "depth"] (spPart C exp13))
    (C_read_use : Cal P w K mg base L2.CX0 32 "read_use" ["words"] (spUse C)) : Cal P w K mg base L2.CX0 33 "read_row" ["row", "line"] spRow := by
  have S := S_read_row
  obtain ⟨M_here, M_more, M_coming, M_take, M_take_name, M_take_number, M_take_end⟩ := R
  obtain ⟨esR, nR, Kr⟩ := T.Kr
  refine cal_of D.fn D.mgf D.bs D.kbs S (fun vs H Q E h => ?_) (fun cdv A outer s H vs Q E hq hr h => ?_)
  · obtain ⟨row, line, t, rfl, _⟩ := h
    rfl
  · obtain ⟨row, line, t, rfl, ok, he, q⟩ := h
    refine ⟨_, (pss_cons (ps_set (i := 2) S.nd rfl (.inr rfl) (pe_make Mk_RowWords F_RowWords (hr.mono (by omega)) (by rfl) g_RowWords b_RowWords .nil pass0 (pa_cons (pv 0) (pa_cons (pv 1) pa_nil))))
 (pss_cons (ps_set (i := 3) S.nd rfl (.inl rfl) (pe_m0 M_coming pass0 hq hr (by omega) (pv 2)))
 (pss_cons (ps_expr (pe_m M_take pass0 hq hr (by omega) (pv 2) (pa_cons (pe_or (pe_cmpR op_eq (pv 3) pe_str (nomark _)) (pe_one (pe_cmpR (op_in_kd Kr) (pv 3) (C8.pe_gc (by rfl) T.c_ROWS) rfl))) pa_nil)))
 (C8.pss_cut (ps_if (pt_cmpR op_eq (pv 3) pe_str (nomark _))
  (pss_one (ps_set (i := 4) S.nd rfl (.inl rfl) (pe_c C_read_use pass0 hq hr (by omega) (by rfl) (pa_cons (pv 2) pa_nil))))
  (pss_cons (ps_setLc (i := 5) (own := [("letter", 6)]) (g := gName 6) (tt := tYes) rfl S.nd rfl rfl (sw_true rfl rfl rfl (by decide +kernel)) (pi_str (pe_ix ix_kdict (C8.pe_gc (by rfl) T.c_ROWS) (pv 3) (fun _ _ => rfl))) (blkOk_by (own := [("letter", 6)]) (N := N_read_row) (sc := defScope s_read_row) (by decide +kernel)) (fun _ _ _ _ _ => pg_name (i := 6) S.nd rfl (.inl rfl)) (fun _ _ _ _ _ => pts_nil) (fun _ _ _ _ _ => (pe_c C_read_part pass0 hq hr (by omega) (by rfl) (pa_cons (pv 2) (pa_cons (pv 6) (pa_cons pe_int pa_nil))))))
 (pss_one (ps_set (i := 4) S.nd rfl (.inl rfl) (pe_tup (pa_cons (pv 3) (StX.pa_star (pv 5) pa_nil)))))))
 (pss_cons (ps_expr (pe_m0 M_take_end pass0 hq hr (by omega) (pv 2)))
 (pss_one (ps_ret (pv 4)))))))), ?_⟩
    refine ⟨.int row, rfl, .str line, rfl, fun r dx nr ndx ndr => ?_⟩
    refine ⟨r, dx, row, line, rfl, upd_same, ok, fun wl H1 o1 g1 => ⟨rfl, ?_⟩⟩
    have sH : Same H H1 := fun b o e => o1 b o (ne_of_none e nr) (by
      rw [upd_ne (ne_of_none e nr), upd_ne (ne_of_none e ndx)]
      exact e)
    unfold rdRow at he
    obtain ⟨dx1, e1⟩ := g1.ins
    generalize hws : Txt.split line " " = ws at he g1
    refine ⟨.ref r, rfl, r, dx1, _, rfl, e1, rfl, r, wl, row, ws, 0, rfl, g1, ?_⟩
    have FIN : ∀ (σ' : L2.St) (H' : Hp), (∃ v k', σ'[2]? = some (some (.ref r)) ∧ σ'[4]? = some (some v) ∧ Oth r H1 H' ∧ RWat C H' r wl row ws k' ∧ ws.length ≤ k' ∧ TdR H' t v) →
        tSeq (tDrop (tMeth C "take_end" (spTakeEnd C) [] E0 (tVar 2) tNil)) (tRet (tVar 4)) { nx := fun x H' => Q V.non H', rt := Q } σ' H' := by
      rintro σ' H' ⟨v, k', h2, h4, o, g, hk, tv⟩
      obtain ⟨dx5, e5⟩ := g.ins
      exact ⟨.ref r, h2, r, dx5, _, rfl, e5, rfl, r, wl, row, ws, k', rfl, g, hk, v, h4, q H' v (fun b u e => o b u (ne_of_none e nr) (sH b u e)) tv⟩
    by_cases hu : ws.getD 0 "" = "use"
    · rw [if_pos hu] at he
      refine ⟨.ref r, rfl, r, dx1, _, rfl, e1, rfl, .str (ws.getD 0 ""), rfl, rfl, _, rfl, ?_⟩
      rw [decVS, decide_eq_true hu]
      refine iteT ⟨r, wl, row, ws, 0, rfl, g1, fun H2 o2 g2 => ⟨_, ?_, FIN⟩⟩
      refine ⟨.str (ws.getD 0 ""), rfl, rfl, _, rfl, ?_⟩
      rw [decVS, decide_eq_true hu]
      cases hh : rdUse row ws 1 with
      | none =>
        rw [hh] at he
        cases he
      | some y =>
        obtain ⟨t2, k2⟩ := y
        rw [hh] at he
        simp only at he
        split at he
        · next hk =>
          cases he
          exact iteT ⟨.ref r, rfl, r, wl, row, ws, 1, t, k2, rfl, g2, hh, fun H3 v o3 g3 tv => ⟨v, k2, rfl, rfl, o2.trans o3, g3, hk, tv⟩⟩
        · cases he
    · rw [if_neg hu] at he
      cases hl : rowTab.lookup (ws.getD 0 "") with
      | none =>
        rw [hl] at he
        cases he
      | some sh =>
        rw [hl] at he
        obtain ⟨u, hu1, hu2⟩ := e_row _ (lookup_mem hl)
        simp only at he
        cases hr2 : rdLets (exp13 row ws) row ws sh.cps.toList 0 1 with
        | none =>
          rw [hr2] at he
          cases he
        | some x =>
          obtain ⟨tsA, kk⟩ := x
          rw [hr2] at he
          simp only at he
          split at he
          · next hk =>
            cases he
            have hsh : sh.cps.toList.length ≤ 5 := (show ∀ e ∈ rowTab, e.2.cps.toList.length ≤ 5 by decide +kernel) _ (lookup_mem hl)
            refine ⟨.ref r, rfl, r, dx1, _, rfl, e1, rfl, .str (ws.getD 0 ""), rfl, rfl, _, rfl, ?_⟩
            rw [decVS, decide_eq_false hu]
            refine iteF ⟨.str (ws.getD 0 ""), rfl, _, some u, rfl, rfl, hu1, ?_⟩
            refine ⟨r, wl, row, ws, 0, rfl, g1, fun H2 o2 g2 => ⟨_, ?_, FIN⟩⟩
            refine ⟨.str (ws.getD 0 ""), rfl, rfl, _, rfl, ?_⟩
            rw [decVS, decide_eq_false hu]
            refine iteF ?_
            refine ⟨.str (ws.getD 0 ""), rfl, kr, _, .str sh, rfl, rfl, ⟨esR, nR, u, Kr.at_, Kr.lit, hu1, hu2⟩, sh, rfl, fun D nD => ?_⟩
            refine lc_str (x := sh) (fun i H' => ∃ (ts : List Td) (vs : List V) (k1 : Nat) (ts' : List Td), Oth r H2 H' ∧ RWat C H' r wl row ws k1 ∧ H' D = some (.lst vs) ∧ All2 H' ts vs ∧
              rdLets (exp13 row ws) row ws (sh.cps.toList.drop i) 0 k1 = some (ts', kk) ∧ ts ++ ts' = tsA ∧ ts.length = i) ?_ ?_ ?_
            · exact ⟨[], [], 1, tsA, .of (same_new nD), g2.same (same_new nD), upd_same, .nil, hr2, rfl, rfl⟩
            · rintro i c H' hc ⟨ts, vs, k1, ts', o, g, eD, a2, hrd, happ, hlen⟩
              refine ⟨rfl, ?_⟩
              unfold tYes
              refine iteT ?_
              have hi : i < sh.cps.toList.length := by
                rcases Nat.lt_or_ge i sh.cps.toList.length with h | h
                · exact h
                · rw [List.getElem?_eq_none h] at hc
                  cases hc
              have hdr : sh.cps.toList.drop i = c :: sh.cps.toList.drop (i + 1) := by
                rw [List.drop_eq_getElem_cons hi]
                rw [List.getElem?_eq_getElem hi] at hc
                rw [Option.some.inj hc]
              rw [hdr] at hrd
              simp only [rdLets] at hrd
              cases h1 : rdLet (exp13 row ws) row ws ⟨#[c]⟩ 0 k1 with
              | none =>
                rw [h1] at hrd
                cases hrd
              | some y =>
                obtain ⟨t1, k3⟩ := y
                rw [h1] at hrd
                simp only at hrd
                cases h2 : rdLets (exp13 row ws) row ws (sh.cps.toList.drop (i + 1)) 0 k3 with
                | none =>
                  rw [h2] at hrd
                  cases hrd
                | some y2 =>
                  obtain ⟨ts2, k4⟩ := y2
                  rw [h2] at hrd
                  cases hrd
                  refine ⟨.ref r, rfl, .str ⟨#[c]⟩, rfl, r, wl, row, ws, k1, ⟨#[c]⟩, 0, t1, k3, rfl, g, h1, fun H4 v o4 g4 tv => ?_⟩
                  have nDr : D ≠ r := fun z => by
                    obtain ⟨dx4, e4⟩ := g2.ins
                    rw [← z, nD] at e4
                    cases e4
                  have nDl : D ≠ wl := fun z => by
                    have e4 := g2.lst
                    rw [← z, nD] at e4
                    cases e4
                  have eD4 := o4 _ _ nDr eD
                  have hvl : vs.length = i := a2.1.symm.trans hlen
                  refine ⟨vs, eD4, by rw [hvl]; exact Nat.lt_of_lt_of_le hi (Nat.le_trans hsh (by decide)), ts ++ [t1], vs ++ [v], k3, ts2, (o.trans o4).mut nD, g4.updne nDr nDl, upd_same, ?_, h2, by rw [List.append_assoc]; exact happ, by rw [List.length_append, hlen]; rfl⟩
                  exact ((a2.keep (g.tups o4)).snoc tv).keep fun p2 vs2 e5 => by
                    rw [upd_ne (fun z => by
                      rw [z, eD4] at e5
                      cases e5)]
                    exact e5
            · rintro H' ⟨ts, vs, k1, ts', o, g, eD, a2, hrd, happ, hlen⟩
              rw [show sh.cps.toList.drop sh.cps.size = [] from List.drop_eq_nil_of_le (Nat.le_of_eq Array.length_toList)] at hrd
              simp only [rdLets] at hrd
              cases hrd
              rw [List.append_nil] at happ
              subst happ
              refine ⟨.str (ws.getD 0 ""), rfl, .ref D, rfl, D, vs, rfl, .inr (.inl (.inl eD)), ?_⟩
              have hvl : vs.length ≤ 5 := by
                rw [← a2.1, hlen, ← Array.length_toList]
                exact hsh
              refine ⟨?_, fun p2 np2 => ?_⟩
              · rw [List.append_nil, List.length_cons]
                exact Nat.le_trans (Nat.add_le_add_right hvl 1) (by decide)
              · rw [List.append_nil]
                refine ⟨.ref p2, kk, rfl, rfl, (o2.trans o).same (same_new np2), g.same (same_new np2), hk, .mk upd_same ?_⟩
                exact .cons (.str _) (a2.keep (tup_upd np2))
          · cases he
theorem split_nl_many (z : Str) : (Txt.split z "\n").length ≤ z.length + 1 := by
  have h := split_weight z "\n" (by decide)
  omega
theorem ok_module {f : Addr} {fd : FuncData} (D : DefAt K mg "read_module" ["text"] s_read_module f fd) (M : Bi mg)
    (C_read_row : Cal P w K mg base L2.CX0 33 "read_row" ["row", "line"] spRow) : Cal P w K mg base L2.CX0 34 "read_module" ["text"] spMod := by
  have S := S_read_module
  refine cal_of D.fn D.mgf D.bs D.kbs S (fun vs H Q E h => ?_) (fun cdv A outer s H vs Q E hq hr h => ?_)
  · obtain ⟨text, ts, rfl, _⟩ := h
    rfl
  · obtain ⟨text, ts, rfl, hcase, q⟩ := h
    refine ⟨_, (pss_cons (ps_if (pt_not (pt_val (pe_callB call_isi (by rfl) M.isinstance_ (by decide +kernel) (pa_cons (pv 0) (pa_cons (pe_bltn (v := .ty "str") (u := .type "str") (by rfl) M.str_ (by decide +kernel) rfl) pa_nil)))))
  (pss_one ps_never)
  pss_nil)
 (pss_cons (ps_if (pt_cmpR op_eq (pv 0) pe_str (nomark _))
  (pss_one (ps_ret (pe_tup pa_nil)))
  pss_nil)
 (pss_one (ps_ret (pe_callTy call_tuple_of (by rfl) M.tuple_ (by decide +kernel) (pa_cons (pe_lc (own := [("row", 1), ("line", 2)]) (g := (gTup K 2 (gCons (gName 1) (gCons (gName 2) gNil)))) (tt := tYes) rfl S.nd (pi_enum (by rfl) M.enumerate_ (pa_cons (pe_split (pv 0) pe_str) pa_nil)) (blkOk_by (own := [("row", 1), ("line", 2)]) (N := N_read_module) (sc := defScope s_read_module) (by decide +kernel)) (fun _ _ _ _ _ => (pg_tup (by rfl) (pgs_cons (pg_name (i := 1) S.nd rfl (.inl rfl)) (pgs_cons (pg_name (i := 2) S.nd rfl (.inl rfl)) pgs_nil)))) (fun _ _ _ _ _ => pts_nil) (fun _ _ _ _ _ => (pe_c C_read_row pass0 hq hr (by omega) (by rfl) (pa_cons (pv 1) (pa_cons (pv 2) pa_nil))))) pa_nil)))))), ?_⟩
    refine ⟨.str text, rfl, _, _, _, _, _, rfl, .ty "str", .base (.str _), (show PySem.W.kitOne K (.type "str") (.type "str") = some true from kit_ty (by decide +kernel)), ?_⟩
    refine ⟨_, rfl, iteF ?_⟩
    refine ⟨.str text, rfl, rfl, _, rfl, ?_⟩
    rw [decVS]
    rcases hcase with ⟨hem, rfl⟩ | ⟨hlen, hok, hne, htl, hts⟩
    · rw [decide_eq_true hem]
      exact iteT ⟨by decide, fun p np => q _ _ (same_new np) (.mk upd_same .nil)⟩
    rw [decide_eq_false hne]
    refine iteF ?_
    have hmany := split_nl_many text
    refine ⟨.str text, rfl, ⟨_, rfl⟩, text, _, rfl, rfl, by decide, Nat.le_trans (Nat.add_le_add_right hlen 2) (by decide), fun p np => ?_⟩
    have hp : upd H p (.lst ((Txt.split text "\n").map V.str)) p = some (.lst ((Txt.split text "\n").map V.str)) := upd_same
    have s1 := same_new (o := .lst ((Txt.split text "\n").map V.str)) np
    revert hp s1
    generalize upd H p (.lst ((Txt.split text "\n").map V.str)) = H1
    generalize Txt.split text "\n" = ls at hok htl hts hmany
    intro hp s1
    refine ⟨p, ls.map V.str, rfl, .inl (.inl hp), fun D nD => ?_⟩
    refine lc_enum (K := K) (a := p) (xs := ls.map V.str) (fun i H' => Same H1 H' ∧ ∃ vs, H' D = some (.lst vs) ∧ All2 H' (ts.take i) vs) ?_ ?_ ?_ ?_
    · exact ⟨same_new nD, [], upd_same, .nil⟩
    · rintro i H' _ ⟨sm, _⟩
      exact .inl (.inl (sm _ _ hp))
    · rintro i x H' T hx ⟨sm, vs, eD, a2⟩ nT
      obtain ⟨l, hl, rfl⟩ : ∃ y, ls[i]? = some y ∧ V.str y = x := by
        rw [List.getElem?_map] at hx
        cases hq : ls[i]? with
        | none =>
          rw [hq] at hx
          cases hx
        | some y =>
          rw [hq] at hx
          exact ⟨y, rfl, Option.some.inj hx⟩
      have hi : i < ls.length := by
        rcases Nat.lt_or_ge i ls.length with h | h
        · exact h
        · rw [List.getElem?_eq_none h] at hl
          cases hl
      have ht : ts[i]? = some ts[i] := List.getElem?_eq_getElem (by omega)
      have smT := sm.trans (same_new (o := .tup [.int (i : Int), .str l]) nT)
      have nDT : D ≠ T := fun z => by
        rw [z, nT] at eD
        cases eD
      refine ⟨T, _, rfl, .inl (.inl upd_same), rfl, _, _, rfl, _, _, rfl, rfl, rfl, ?_⟩
      unfold tYes
      refine iteT ⟨.int (i : Int), rfl, .str l, rfl, (i : Int), l, ts[i], rfl, hok l (List.mem_of_getElem? hl), hts i l _ hl ht, fun H4 v s4 tv => ?_⟩
      have eD4 := s4 _ _ ((upd_ne nDT).trans eD)
      have hvl : vs.length = i := by
        rw [← a2.1, List.length_take]
        omega
      refine ⟨vs, eD4, by rw [hvl]; exact Nat.lt_of_lt_of_le hi (Nat.le_trans hmany (Nat.le_trans (Nat.add_le_add_right hlen 1) (by decide))), same_mut (smT.trans s4) nD, vs ++ [v], upd_same, ?_⟩
      rw [List.take_add_one, ht]
      exact (((a2.keep (tup_upd nT)).keep fun p2 vs2 e5 => s4 _ _ e5).snoc tv).keep fun p2 vs2 e5 => by
        rw [upd_ne (fun z => by
          rw [z, eD4] at e5
          cases e5)]
        exact e5
    · rintro H' ⟨sm, vs, eD, a2⟩
      refine ⟨D, vs, rfl, .inl ⟨.inl (.inl eD), fun l nl => ?_⟩⟩
      rw [List.length_map, ← htl, List.take_of_length_le (Nat.le_refl _)] at a2
      exact q _ _ ((s1.trans sm).trans (same_new nl)) (.mk upd_same (a2.keep (tup_upd nl)))
end

end
/-! ### numbers as texts -/
def strN (i : Nat) : Str := Str.ofString (toString (i : Int))
theorem strN_cps (i : Nat) : (strN i).cps.toList = (Nat.toDigits 10 i).map Char.toNat := by
  unfold strN
  rw [signs_ofString]
  show (Nat.repr i).toList.map Char.toNat = _
  rw [Nat.repr_eq_ofList_toDigits, String.toList_ofList]
theorem dch (n : Nat) (h : n < 10) : Char.toNat (Nat.digitChar n) = 48 + n := by
  match n, h with
  | 0, _ => rfl
  | 1, _ => rfl
  | 2, _ => rfl
  | 3, _ => rfl
  | 4, _ => rfl
  | 5, _ => rfl
  | 6, _ => rfl
  | 7, _ => rfl
  | 8, _ => rfl
  | 9, _ => rfl
  | n + 10, h => omega
theorem digs (i : Nat) : NumText.digitsVal ((Nat.toDigits 10 i).map Char.toNat) = i ∧ (∀ c ∈ (Nat.toDigits 10 i).map Char.toNat, 48 ≤ c ∧ c ≤ 57) ∧ (i = 0 ∨ ∃ c r, (Nat.toDigits 10 i).map Char.toNat = c :: r ∧ 49 ≤ c) := by
  induction i using Nat.strongRecOn with
  | _ i ih =>
    by_cases h : i < 10
    · rw [Nat.toDigits_of_lt_base h]
      refine ⟨?_, ?_, ?_⟩
      · show 0 * 10 + (Char.toNat (Nat.digitChar i) - 48) = i
        rw [dch i h]
        omega
      · intro c hc
        rw [List.map_cons, List.map_nil, List.mem_singleton] at hc
        rw [hc, dch i h]
        omega
      · rcases Nat.eq_zero_or_pos i with e | e
        · exact .inl e
        · refine .inr ⟨_, _, rfl, ?_⟩
          rw [dch i h]
          omega
    · obtain ⟨h1, h2, h3⟩ := ih (i / 10) (by omega)
      rw [Nat.toDigits_of_base_le (by decide) (by omega), List.map_append]
      have hm : i % 10 < 10 := Nat.mod_lt _ (by decide)
      refine ⟨?_, ?_, .inr ?_⟩
      · rw [List.map_cons, List.map_nil, NumText.digitsVal_snoc, h1, dch _ hm]
        omega
      · intro c hc
        rcases List.mem_append.mp hc with hc | hc
        · exact h2 c hc
        · rw [List.map_cons, List.map_nil, List.mem_singleton] at hc
          rw [hc, dch _ hm]
          omega
      · rcases h3 with h3 | ⟨c, r, e, hc⟩
        · omega
        · rw [e]
          exact ⟨c, _, rfl, hc⟩
theorem digs_len : ∀ (k i : Nat), i < 10 ^ (k + 1) → (Nat.toDigits 10 i).length ≤ k + 1 ∧ 1 ≤ (Nat.toDigits 10 i).length
  | 0, i, h => by
    rw [Nat.toDigits_of_lt_base (by omega)]
    exact ⟨Nat.le_refl _, Nat.le_refl _⟩
  | k + 1, i, h => by
    by_cases h1 : i < 10
    · rw [Nat.toDigits_of_lt_base h1]
      exact ⟨by show 1 ≤ _; omega, Nat.le_refl _⟩
    · obtain ⟨a, b⟩ := digs_len k (i / 10) (by rw [Nat.pow_succ] at h; omega)
      rw [Nat.toDigits_of_base_le (by decide) (by omega), List.length_append]
      exact ⟨by show _ + 1 ≤ _; omega, by omega⟩
theorem strN_len (i : Nat) (h : i ≤ 65535) : 1 ≤ (strN i).length ∧ (strN i).length ≤ 5 := by
  have e : (strN i).length = (Nat.toDigits 10 i).length := by
    have e1 : (strN i).length = (strN i).cps.toList.length := Array.length_toList.symm
    rw [e1, strN_cps, List.length_map]
  rw [e]
  have := digs_len 4 i (by omega)
  omega
theorem strN_val (i : Nat) : numV (strN i) = i := by
  unfold numV
  rw [strN_cps, (digs i).1]
theorem strN_zero : strN 0 = "0" := by decide +kernel
theorem strN_num (i lo hi : Nat) (h1 : lo ≤ i) (h2 : i ≤ hi) (hh : hi ≤ 65535) (hl : (strN i).length ≤ (strN hi).length) : isNum (strN i) lo hi = true := by
  obtain ⟨d1, d2, d3⟩ := digs i
  have hlen := strN_len i (by omega)
  unfold isNum
  rw [Bool.and_eq_true, Bool.and_eq_true, Bool.and_eq_true, decide_eq_true_eq, decide_eq_true_eq, strN_val]
  refine ⟨⟨⟨by omega, ?_⟩, ?_⟩, ?_, by omega⟩
  · have : (Str.ofString (toString (hi : Int))).length = (strN hi).length := rfl
    rw [this]
    omega
  · rw [List.all_eq_true]
    intro c hc
    rw [strN_cps] at hc
    exact (dig_iff c).mpr (d2 c hc)
  · rcases d3 with rfl | ⟨c, r, e, hc⟩
    · rw [Bool.or_eq_true]
      left
      rw [strN_zero]
      exact decide_eq_true rfl
    · rw [Bool.or_eq_true]
      right
      rw [strN_cps, e]
      rw [decVS, Bool.not_eq_true', decide_eq_false_iff_not]
      intro z
      have z2 : (⟨#[c]⟩ : Str).cps.toList = ("0" : Str).cps.toList := congrArg (fun s : Str => s.cps.toList) z
      have z3 : ("0" : Str).cps.toList = [48] := by decide +kernel
      rw [z3] at z2
      have z4 : [c] = [48] := z2
      cases z4
      omega
theorem num_w (i : Nat) (h1 : 1 ≤ i) (h2 : i ≤ 8) : isNum (strN i) 1 8 = true :=
  strN_num i 1 8 h1 h2 (by decide) (by
    have e : (strN i).length = (Nat.toDigits 10 i).length := by
      have e1 : (strN i).length = (strN i).cps.toList.length := Array.length_toList.symm
      rw [e1, strN_cps, List.length_map]
    rw [e, Nat.toDigits_of_lt_base (by omega)]
    show 1 ≤ _
    decide +kernel)
theorem num_k (i : Nat) (h2 : i ≤ 65535) : isNum (strN i) 0 65535 = true :=
  strN_num i 0 65535 (by omega) h2 (by decide) (by
    have := (strN_len i h2).2
    have e : (strN 65535).length = 5 := by decide +kernel
    omega)
theorem num_c (i : Nat) (h2 : i ≤ 4) : isNum (strN i) 0 4 = true :=
  strN_num i 0 4 (by omega) h2 (by decide) (by
    have e : (strN i).length = (Nat.toDigits 10 i).length := by
      have e1 : (strN i).length = (strN i).cps.toList.length := Array.length_toList.symm
      rw [e1, strN_cps, List.length_map]
    rw [e, Nat.toDigits_of_lt_base (by omega)]
    show 1 ≤ _
    decide +kernel)
/-! ### what is drawn: expressions, rows -/
mutual
inductive Ex
  | nm (z : Str)
  | op (w : Str) (ps : Ps)
inductive Ps
  | nil
  | int (i : Nat) (r : Ps)
  | str (z : Str) (r : Ps)
  | ex (e : Ex) (r : Ps)
end
mutual
def Ex.words : Ex → List Str
  | .nm z => [z]
  | .op w ps => w :: ps.words
def Ps.words : Ps → List Str
  | .nil => []
  | .int i r => strN i :: r.words
  | .str z r => z :: r.words
  | .ex e r => e.words ++ r.words
end
mutual
def Ex.heard (row : Int) : Ex → Nat → Td
  | .nm z, at_ => .tup [.str "name", plc row at_, .str z]
  | .op w ps, at_ => .tup (.str w :: plc row at_ :: ps.heard row (at_ + 1))
def Ps.heard (row : Int) : Ps → Nat → List Td
  | .nil, _ => []
  | .int i r, at_ => .int i :: r.heard row (at_ + 1)
  | .str z r, at_ => .str z :: r.heard row (at_ + 1)
  | .ex e r, at_ => e.heard row at_ :: r.heard row (at_ + e.words.length)
end
mutual
def Ex.made : Ex → Td
  | .nm z => .tup [.str "name", .str z]
  | .op w ps => .tup (.str w :: ps.made)
def Ps.made : Ps → List Td
  | .nil => []
  | .int i r => .int i :: r.made
  | .str z r => .str z :: r.made
  | .ex e r => e.made :: r.made
end
def okZ (z : Str) : Prop := z.length ≤ 20 ∧ ∀ c ∈ z.cps.toList, c < 256 ∧ c ≠ 32 ∧ c ≠ 10
mutual
def Ex.ok : Ex → Nat → Prop
  | .nm z, _ => isSpot z = true ∧ okZ z
  | .op w ps, d => ∃ sh, expTab.lookup w = some sh ∧ (d < 12 ∨ w = "num") ∧ ps.ok (d + 1) sh.cps.toList
def Ps.ok : Ps → Nat → List Nat → Prop
  | .nil, _, cs => cs = []
  | .int i r, d, cs => ∃ c cs', cs = c :: cs' ∧ ((c = 87 ∧ 1 ≤ i ∧ i ≤ 8) ∨ (c = 75 ∧ i ≤ 65535)) ∧ r.ok d cs'
  | .str z r, d, cs => ∃ c cs', cs = c :: cs' ∧ c = 88 ∧ isNm z = true ∧ okZ z ∧ r.ok d cs'
  | .ex e r, d, cs => ∃ c cs', cs = c :: cs' ∧ ((c = 69 ∧ d ≤ 12 ∧ e.ok d) ∨ (c = 65 ∧ d ≤ 12 ∧ ∃ z, e = .nm z ∧ isNm z = true ∧ okZ z)) ∧ r.ok d cs'
end
theorem getD_at {ws pre post : List Str} {z : Str} {k : Nat} (h : ws = pre ++ z :: post) (hk : pre.length = k) : ws.getD k "" = z := by
  rw [h, List.getD_eq_getElem?_getD, List.getElem?_append_right (by omega), hk, Nat.sub_self]
  rfl
theorem expTab_spot : ∀ e ∈ expTab, isSpot e.1 = false := by decide +kernel
mutual
theorem Ex.rd (row : Int) (ws : List Str) : ∀ (e : Ex) (n d k : Nat) (pre post : List Str), ws = pre ++ (e.words ++ post) → pre.length = k → e.ok d → 14 ≤ n + d → d ≤ 12 →
    rdExp row ws n d k = some (e.heard row k, k + e.words.length)
  | .nm z, n, d, k, pre, post, hw, hk, ho, hn, hd => by
    obtain ⟨n, rfl⟩ : ∃ m, n = m + 1 := ⟨n - 1, by omega⟩
    simp only [Ex.words, Ex.ok] at hw ho
    have hg : ws.getD k "" = z := getD_at (by simpa using hw) hk
    simp only [rdExp, hg, ho.1, if_true]
    rfl
  | .op w ps, n, d, k, pre, post, hw, hk, ho, hn, hd => by
    obtain ⟨n, rfl⟩ : ∃ m, n = m + 1 := ⟨n - 1, by omega⟩
    simp only [Ex.words, Ex.ok] at hw ho
    obtain ⟨sh, hl, hd2, hp⟩ := ho
    have hg : ws.getD k "" = w := getD_at (by simpa using hw) hk
    have hs : isSpot w = false := expTab_spot _ (lookup_mem hl)
    have ih := Ps.rd row ws ps n d (k + 1) (pre ++ [w]) post sh.cps.toList (by rw [hw]; simp) (by rw [List.length_append, hk]; rfl) hp (by omega)
    simp only [rdExp, hg, hs, hl, if_pos hd2, ih, Ex.heard, Ex.words, List.length_cons]
    rw [if_neg (by decide), Nat.add_assoc k 1, Nat.add_comm 1]
theorem Ps.rd (row : Int) (ws : List Str) : ∀ (p : Ps) (n d k : Nat) (pre post : List Str) (cs : List Nat), ws = pre ++ (p.words ++ post) → pre.length = k → p.ok (d + 1) cs → 14 ≤ n + (d + 1) →
    rdLets (rdExp row ws n) row ws cs d k = some (p.heard row k, k + p.words.length)
  | .nil, n, d, k, pre, post, cs, hw, hk, ho, hn => by
    simp only [Ps.ok] at ho
    subst ho
    rfl
  | .int i r, n, d, k, pre, post, cs, hw, hk, ho, hn => by
    simp only [Ps.ok, Ps.words] at ho hw
    obtain ⟨c, cs', rfl, hc, hr⟩ := ho
    have hg : ws.getD k "" = strN i := getD_at (by simpa using hw) hk
    have ih := Ps.rd row ws r n d (k + 1) (pre ++ [strN i]) post cs' (by rw [hw]; simp) (by rw [List.length_append, hk]; rfl) hr hn
    have h1 : rdLet (rdExp row ws n) row ws ⟨#[c]⟩ d k = some (.int i, k + 1) := by
      unfold rdLet
      rw [hg, strN_val]
      rcases hc with ⟨rfl, a, b⟩ | ⟨rfl, a⟩
      · rw [if_neg (by decide +kernel), if_pos (by decide +kernel), if_pos (num_w i a b)]
      · rw [if_neg (by decide +kernel), if_neg (by decide +kernel), if_pos (by decide +kernel), if_pos (num_k i a)]
    simp only [rdLets, h1, ih, Ps.heard, Ps.words, List.length_cons]
    rw [Nat.add_assoc k 1, Nat.add_comm 1]
  | .str z r, n, d, k, pre, post, cs, hw, hk, ho, hn => by
    simp only [Ps.ok, Ps.words] at ho hw
    obtain ⟨c, cs', rfl, rfl, hz, _, hr⟩ := ho
    have hg : ws.getD k "" = z := getD_at (by simpa using hw) hk
    have ih := Ps.rd row ws r n d (k + 1) (pre ++ [z]) post cs' (by rw [hw]; simp) (by rw [List.length_append, hk]; rfl) hr hn
    have h1 : rdLet (rdExp row ws n) row ws ⟨#[88]⟩ d k = some (.str z, k + 1) := by
      unfold rdLet
      rw [hg, if_pos (by decide +kernel), if_pos hz]
    simp only [rdLets, h1, ih, Ps.heard, Ps.words, List.length_cons]
    rw [Nat.add_assoc k 1, Nat.add_comm 1]
  | .ex e r, n, d, k, pre, post, cs, hw, hk, ho, hn => by
    simp only [Ps.ok, Ps.words] at ho hw
    obtain ⟨c, cs', rfl, hc, hr⟩ := ho
    have ih := Ps.rd row ws r n d (k + e.words.length) (pre ++ e.words) post cs' (by rw [hw]; simp) (by rw [List.length_append, hk]) hr hn
    have h1 : rdLet (rdExp row ws n) row ws ⟨#[c]⟩ d k = some (e.heard row k, k + e.words.length) := by
      rcases hc with ⟨rfl, hd, he⟩ | ⟨rfl, _, z, rfl, hz, _⟩
      · unfold rdLet
        rw [if_neg (by decide +kernel), if_neg (by decide +kernel), if_neg (by decide +kernel), if_neg (by decide +kernel)]
        exact Ex.rd row ws e n (d + 1) k pre (r.words ++ post) (by rw [hw]; simp) hk he hn hd
      · simp only [Ex.words] at hw
        have hg : ws.getD k "" = z := getD_at (by simpa using hw) hk
        unfold rdLet
        rw [hg, if_neg (by decide +kernel), if_neg (by decide +kernel), if_neg (by decide +kernel), if_pos (by decide +kernel), if_pos hz]
        rfl
    simp only [rdLets, h1, ih, Ps.heard, Ps.words, List.length_append]
    rw [Nat.add_assoc]
end

/-! ### rows -/
inductive Rw
  | row (w : Str) (ps : Ps)
  | use (x m : Str) (cs : List Str) (es : List Ex)
def wordsL : List Ex → List Str
  | [] => []
  | e :: es => e.words ++ wordsL es
def heardL (row : Int) : List Ex → Nat → List Td
  | [], _ => []
  | e :: es, k => e.heard row k :: heardL row es (k + e.words.length)
def Rw.words : Rw → List Str
  | .row w ps => w :: ps.words
  | .use x m cs es => "use" :: x :: m :: strN cs.length :: (cs ++ wordsL es)
def Rw.heard (row : Int) : Rw → Td
  | .row w ps => .tup (.str w :: ps.heard row 1)
  | .use x m cs es => .tup [.str "use", .str x, .str m, .tup (cs.map .str), .tup (heardL row es (4 + cs.length))]
def Rw.made : Rw → Td
  | .row w ps => .tup (.str w :: ps.made)
  | .use x m cs es => .tup [.str "use", .str x, .str m, .tup (cs.map .str), .tup (es.map Ex.made)]
def okN (z : Str) : Prop := isNm z = true ∧ okZ z
def Rw.ok : Rw → Prop
  | .row w ps => ∃ sh, rowTab.lookup w = some sh ∧ ps.ok 1 sh.cps.toList
  | .use x m cs es => okN x ∧ okN m ∧ cs.length ≤ 4 ∧ (∀ c ∈ cs, okN c) ∧ es.length ≤ 6 ∧ ∀ e ∈ es, e.ok 1
theorem rd_handed (row : Int) (ws : List Str) : ∀ (es : List Ex) (n k : Nat) (pre : List Str), ws = pre ++ wordsL es → pre.length = k → (∀ e ∈ es, e.ok 1) → es.length ≤ n →
    rdHanded row ws n k = some (heardL row es k, ws.length)
  | [], n, k, pre, hw, hk, ho, hn => by
    simp only [wordsL, List.append_nil] at hw
    subst hw
    cases n with
    | zero =>
      simp only [rdHanded, heardL, hk]
    | succ n =>
      simp only [rdHanded, heardL, hk]
      rw [if_neg (by omega)]
  | e :: es, n, k, pre, hw, hk, ho, hn => by
    obtain ⟨n, rfl⟩ : ∃ m, n = m + 1 := ⟨n - 1, by rw [List.length_cons] at hn; omega⟩
    simp only [wordsL] at hw
    have h1 := Ex.rd row ws e 13 1 k pre (wordsL es) hw hk (ho e List.mem_cons_self) (by decide) (by decide)
    have h2 := rd_handed row ws es n (k + e.words.length) (pre ++ e.words) (by rw [hw]; simp) (by rw [List.length_append, hk]) (fun z hz => ho z (List.mem_cons_of_mem _ hz)) (by rw [List.length_cons] at hn; omega)
    have hlt : k < ws.length := by
      have : 1 ≤ e.words.length := by cases e <;> simp [Ex.words]
      rw [hw, List.length_append, List.length_append]
      omega
    have h1' : exp13 row ws 1 k = some (e.heard row k, k + e.words.length) := h1
    simp only [rdHanded, if_pos hlt, h1', h2, heardL]
theorem rowTab_use : ∀ e ∈ rowTab, e.1 ≠ Str.ofString "use" := by decide +kernel
theorem rowTab_ne : ∀ e ∈ rowTab, e.1 ≠ Str.ofString "" := by decide +kernel
theorem range_map {α : Type} {cs : List Str} {f : Nat → Str} (g : Str → α) (h : ∀ i z, cs[i]? = some z → f i = z) : (List.range cs.length).map (fun i => g (f i)) = cs.map g := by
  apply List.ext_getElem?
  intro i
  rw [List.getElem?_map, List.getElem?_map]
  by_cases hi : i < cs.length
  · rw [List.getElem?_range hi, List.getElem?_eq_getElem hi]
    show some (g (f i)) = some (g cs[i])
    rw [h i _ (List.getElem?_eq_getElem hi)]
  · rw [List.getElem?_eq_none (l := List.range cs.length) (by rw [List.length_range]; omega), List.getElem?_eq_none (l := cs) (by omega)]
    rfl
theorem Rw.rd (row : Int) (line : Str) (r : Rw) (ho : r.ok) (hs : Txt.split line " " = r.words) : rdRow row line = some (r.heard row) := by
  unfold rdRow
  rw [hs]
  cases r with
  | row w ps =>
    obtain ⟨sh, hl, hp⟩ := ho
    have hw : (Rw.row w ps).words = [w] ++ (ps.words ++ []) := by simp [Rw.words]
    have h0 : (Rw.row w ps).words.getD 0 "" = w := rfl
    have hnu : w ≠ "use" := rowTab_use _ (lookup_mem hl)
    have ih := Ps.rd row _ ps 13 0 1 [w] [] sh.cps.toList hw rfl hp (by decide)
    have ih' : rdLets (exp13 row (Rw.row w ps).words) row (Rw.row w ps).words sh.cps.toList 0 1 = some (ps.heard row 1, 1 + ps.words.length) := ih
    simp only [h0, if_neg hnu, hl, ih']
    rw [if_pos (by simp only [Rw.words, List.length_cons]; omega)]
    rfl
  | use x m cs es =>
    obtain ⟨hx, hm, hc, hcs, he, hes⟩ := ho
    have h0 : (Rw.use x m cs es).words.getD 0 "" = "use" := rfl
    have h1 : (Rw.use x m cs es).words.getD 1 "" = x := rfl
    have h2 : (Rw.use x m cs es).words.getD 2 "" = m := rfl
    have h3 : (Rw.use x m cs es).words.getD 3 "" = strN cs.length := rfl
    have hmany : manyV (Rw.use x m cs es).words 1 = cs.length := by
      unfold manyV
      rw [show 1 + 2 = 3 from rfl, h3, strN_val]
      rfl
    have hat : ∀ i z, cs[i]? = some z → (Rw.use x m cs es).words.getD (4 + i) "" = z := by
      intro i z hi
      have e : (Rw.use x m cs es).words = ([Str.ofString "use", x, m, strN cs.length] : List Str) ++ (cs ++ wordsL es) := rfl
      have hlt : i < cs.length := by
        rcases Nat.lt_or_ge i cs.length with h | h
        · exact h
        · rw [List.getElem?_eq_none h] at hi
          cases hi
      rw [List.getD_eq_getElem?_getD, e, List.getElem?_append_right (by show 4 ≤ 4 + i; omega)]
      have e4 : 4 + i - ([Str.ofString "use", x, m, strN cs.length] : List Str).length = i := by show 4 + i - 4 = i; omega
      rw [e4, List.getElem?_append_left hlt, hi]
      rfl
    have hh := rd_handed row (Rw.use x m cs es).words es 6 (4 + cs.length) (([Str.ofString "use", x, m, strN cs.length] : List Str) ++ cs) (by simp [Rw.words]) (by simp; omega) hes he
    have hcond : isNm ((Rw.use x m cs es).words.getD 1 "") = true ∧ isNm ((Rw.use x m cs es).words.getD (1 + 1) "") = true ∧ isNum ((Rw.use x m cs es).words.getD (1 + 2) "") 0 4 = true ∧
        ∀ i, i < manyV (Rw.use x m cs es).words 1 → isNm ((Rw.use x m cs es).words.getD (1 + 3 + i) "") = true := by
      rw [h1, show 1 + 1 = 2 from rfl, h2, show 1 + 2 = 3 from rfl, h3, hmany]
      refine ⟨hx.1, hm.1, num_c _ hc, fun i hi => ?_⟩
      rw [show 1 + 3 + i = 4 + i by omega, hat i cs[i] (List.getElem?_eq_getElem hi)]
      exact (hcs _ (List.getElem_mem hi)).1
    have hu : rdUse row (Rw.use x m cs es).words 1 = some ((Rw.use x m cs es).heard row, (Rw.use x m cs es).words.length) := by
      unfold rdUse
      rw [if_pos hcond, hmany, show 1 + 3 + cs.length = 4 + cs.length by omega, hh]
      simp only [Rw.heard, h1, show 1 + 1 = 2 from rfl, h2]
      rw [range_map Td.str (f := fun i => (Rw.use x m cs es).words.getD (1 + 3 + i) "") (fun i z hi => by rw [show 1 + 3 + i = 4 + i by omega]; exact hat i z hi)]
    rw [if_pos h0, hu]
    simp only [Nat.le_refl, if_true]
/-! ### their words -/
theorem okZ_dec {z : Str} (h : (decide (z.length ≤ 20) && z.cps.toList.all fun c => decide (c < 256 ∧ c ≠ 32 ∧ c ≠ 10)) = true) : okZ z := by
  rw [Bool.and_eq_true, decide_eq_true_eq, List.all_eq_true] at h
  exact ⟨h.1, fun c hc => of_decide_eq_true (h.2 c hc)⟩
theorem expTab_okZ : ∀ e ∈ expTab, okZ e.1 := fun e he => okZ_dec ((show ∀ e ∈ expTab, (decide (e.1.length ≤ 20) && e.1.cps.toList.all fun c => decide (c < 256 ∧ c ≠ 32 ∧ c ≠ 10)) = true by decide +kernel) e he)
theorem rowTab_okZ : ∀ e ∈ rowTab, okZ e.1 := fun e he => okZ_dec ((show ∀ e ∈ rowTab, (decide (e.1.length ≤ 20) && e.1.cps.toList.all fun c => decide (c < 256 ∧ c ≠ 32 ∧ c ≠ 10)) = true by decide +kernel) e he)
theorem strN_okZ (i : Nat) (h : i ≤ 65535) : okZ (strN i) := by
  have := strN_len i h
  refine ⟨by omega, fun c hc => ?_⟩
  rw [strN_cps] at hc
  have := (digs i).2.1 c hc
  omega
theorem isNm_okZ {z : Str} (h : isNm z = true) : okZ z := by
  unfold isNm at h
  rw [Bool.and_eq_true, Bool.and_eq_true, decide_eq_true_eq, List.all_eq_true] at h
  refine ⟨by omega, fun c hc => ?_⟩
  have h2 := of_decide_eq_true (h.2.2 c hc)
  exact (show ∀ c ∈ letters.cps.toList, c < 256 ∧ c ≠ 32 ∧ c ≠ 10 by decide +kernel) c h2
theorem nm_nodot {z : Str} (h : isNm z = true) : ¬ 46 ∈ TL.tl z := by
  intro hc
  unfold isNm at h
  rw [Bool.and_eq_true, Bool.and_eq_true, decide_eq_true_eq, List.all_eq_true] at h
  have h2 := of_decide_eq_true (h.2.2 46 hc)
  exact absurd h2 (by decide +kernel)
theorem okN_of {z : Str} (h : isNm z = true) : okN z := ⟨h, isNm_okZ h⟩
mutual
theorem Ex.okw : ∀ (e : Ex) (d : Nat), e.ok d → ∀ z ∈ e.words, okZ z
  | .nm z, d, h, y, hy => by
    simp only [Ex.words, List.mem_singleton] at hy
    rw [hy]
    exact h.2
  | .op w ps, d, h, y, hy => by
    obtain ⟨sh, hl, _, hp⟩ := h
    simp only [Ex.words, List.mem_cons] at hy
    rcases hy with rfl | hy
    · exact expTab_okZ _ (lookup_mem hl)
    · exact Ps.okw ps _ _ hp y hy
theorem Ps.okw : ∀ (p : Ps) (d : Nat) (cs : List Nat), p.ok d cs → ∀ z ∈ p.words, okZ z
  | .nil, d, cs, h, y, hy => by
    simp only [Ps.words] at hy
    cases hy
  | .int i r, d, cs, h, y, hy => by
    obtain ⟨c, cs', rfl, hc, hr⟩ := h
    simp only [Ps.words, List.mem_cons] at hy
    rcases hy with rfl | hy
    · exact strN_okZ i (by omega)
    · exact Ps.okw r _ _ hr y hy
  | .str z r, d, cs, h, y, hy => by
    obtain ⟨c, cs', rfl, hc, hz, hk, hr⟩ := h
    simp only [Ps.words, List.mem_cons] at hy
    rcases hy with rfl | hy
    · exact hk
    · exact Ps.okw r _ _ hr y hy
  | .ex e r, d, cs, h, y, hy => by
    obtain ⟨c, cs', rfl, hc, hr⟩ := h
    simp only [Ps.words, List.mem_append] at hy
    rcases hy with hy | hy
    · rcases hc with ⟨_, _, he⟩ | ⟨_, _, z, rfl, hz, hk⟩
      · exact Ex.okw e _ he y hy
      · simp only [Ex.words, List.mem_singleton] at hy
        rw [hy]
        exact hk
    · exact Ps.okw r _ _ hr y hy
end
theorem wordsL_mem : ∀ {es : List Ex}, (∀ e ∈ es, e.ok 1) → ∀ z ∈ wordsL es, okZ z
  | [], _, z, hz => by cases hz
  | e :: es, h, z, hz => by
    simp only [wordsL, List.mem_append] at hz
    rcases hz with hz | hz
    · exact Ex.okw e 1 (h e List.mem_cons_self) z hz
    · exact wordsL_mem (fun y hy => h y (List.mem_cons_of_mem _ hy)) z hz
theorem Rw.okw (r : Rw) (h : r.ok) : ∀ z ∈ r.words, okZ z := by
  intro z hz
  cases r with
  | row w ps =>
    obtain ⟨sh, hl, hp⟩ := h
    simp only [Rw.words, List.mem_cons] at hz
    rcases hz with rfl | hz
    · exact rowTab_okZ _ (lookup_mem hl)
    · exact Ps.okw ps _ _ hp z hz
  | use x m cs es =>
    obtain ⟨hx, hm, hc, hcs, he, hes⟩ := h
    simp only [Rw.words, List.mem_cons, List.mem_append] at hz
    rcases hz with rfl | rfl | rfl | rfl | hz | hz
    · exact okZ_dec (by decide +kernel)
    · exact hx.2
    · exact hm.2
    · exact strN_okZ _ (by omega)
    · exact (hcs z hz).2
    · exact wordsL_mem hes z hz
theorem Rw.words_ne (r : Rw) : r.words ≠ [] := by cases r <;> simp [Rw.words]
def Rw.line (r : Rw) : Str := Txt.join " " r.words
theorem Rw.split (r : Rw) (h : r.ok) : Txt.split r.line " " = r.words :=
  TL.split_join (s := 32) (S := []) (by decide +kernel) (by decide +kernel) r.words_ne fun p hp hc => ((r.okw h p hp).2 32 hc).2.1 rfl
theorem join_len_le (sep : Str) (parts : List Str) (L : Nat) (h : ∀ p ∈ parts, p.length ≤ L) : (Txt.join sep parts).length ≤ parts.length * (L + sep.length) := by
  show (Builtin.Str.glued sep parts).length ≤ _
  rw [StrLaws.glued_eq_join]
  refine Nat.le_trans (StrLaws.join_length_le sep parts) ?_
  have : (parts.map (·.length)).sum ≤ parts.length * L := by
    induction parts with
    | nil => exact Nat.zero_le _
    | cons p ps ih =>
      have h1 := h p List.mem_cons_self
      have h2 := ih fun z hz => h z (List.mem_cons_of_mem _ hz)
      rw [List.map_cons, List.sum_cons, List.length_cons, Nat.succ_mul]
      omega
  rw [Nat.mul_add]
  omega
theorem Rw.okLine (r : Rw) (h : r.ok) (hl : r.words.length ≤ 300) : OkLine r.line := by
  refine ⟨?_, ?_⟩
  · have := join_len_le " " r.words 20 fun p hp => (r.okw h p hp).1
    have e : (" " : Str).length = 1 := rfl
    rw [e] at this
    show (Txt.join " " r.words).length ≤ _
    omega
  · rw [r.split h]
    exact fun z hz => Nat.le_trans (r.okw h z hz).1 (by decide)
theorem mem_joinL {c : Nat} {S : List Nat} : ∀ {ls : List (List Nat)}, c ∈ TL.joinL S ls → c ∈ S ∨ ∃ l ∈ ls, c ∈ l
  | [], h => by cases h
  | [x], h => .inr ⟨x, List.mem_cons_self, by simpa [TL.joinL] using h⟩
  | x :: y :: r, h => by
    rw [TL.joinL.eq_3, List.mem_append, List.mem_append] at h
    rcases h with h | h | h
    · exact .inr ⟨x, List.mem_cons_self, h⟩
    · exact .inl h
    · rcases mem_joinL h with h | ⟨l, hl, hc⟩
      · exact .inl h
      · exact .inr ⟨l, List.mem_cons_of_mem _ hl, hc⟩
theorem tl_txtjoin (sep : Str) (ps : List Str) : TL.tl (Txt.join sep ps) = TL.joinL (TL.tl sep) (ps.map TL.tl) := by
  show TL.tl (Builtin.Str.glued sep ps) = _
  rw [StrLaws.glued_eq_join, TL.tl_join]
theorem Rw.line_nl (r : Rw) (h : r.ok) : ¬ 10 ∈ TL.tl r.line := by
  intro hc
  unfold Rw.line at hc
  rw [tl_txtjoin] at hc
  rcases mem_joinL hc with hc | ⟨l, hl, hc⟩
  · exact absurd hc (by decide +kernel)
  · obtain ⟨p, hp, rfl⟩ := List.mem_map.mp hl
    exact ((r.okw h p hp).2 10 hc).2.2 rfl
def textOf (rs : List Rw) : Str := Txt.join "\n" (rs.map Rw.line)
theorem textOf_split (rs : List Rw) (h : ∀ r ∈ rs, r.ok) (hne : rs ≠ []) : Txt.split (textOf rs) "\n" = rs.map Rw.line :=
  TL.split_join (s := 10) (S := []) (by decide +kernel) (by decide +kernel) (by simpa using hne) fun p hp hc => by
    obtain ⟨r, hr, rfl⟩ := List.mem_map.mp hp
    exact r.line_nl (h r hr) hc
def heardM : List Rw → Nat → List Td
  | [], _ => []
  | r :: rs, i => r.heard (i : Int) :: heardM rs (i + 1)

/-! ### shown -/
mutual
def pd : Td → PyData
  | .str z => .str z
  | .int i => .int i
  | .tup xs => .tuple (pdL xs)
def pdL : List Td → List PyData
  | [] => []
  | x :: xs => pd x :: pdL xs
end
theorem dpall {K : PySem.W.Frag} {H : Hp} : ∀ (xs : List Td) (vs : List V), xs.length = vs.length → (∀ (i : Nat) x v, xs[i]? = some x → vs[i]? = some v → Dp K H v (pd x)) → DpAll K H vs (pdL xs)
  | [], [], _, _ => by
    rw [pdL]
    exact .nil
  | [], _ :: _, h, _ => by cases h
  | _ :: _, [], h, _ => by cases h
  | x :: xs, v :: vs, h, ha => by
    rw [pdL]
    exact .cons (ha 0 x v rfl rfl) (dpall xs vs (Nat.succ.inj h) fun i y u h1 h2 => ha (i + 1) y u h1 h2)
theorem dp_of {K : PySem.W.Frag} {H : Hp} {t : Td} {v : V} (h : TdR H t v) : Dp K H v (pd t) := by
  induction h with
  | str z =>
    rw [pd]
    exact .str z
  | int i =>
    rw [pd]
    exact .int i
  | tup e hl ha ih =>
    rw [pd]
    exact .tup (.inl (.inl e)) (dpall _ _ hl ih)
structure SR (t : Td) (n L : Nat) : Prop where
  sh : (pd t).showable = true
  hd : (pd t).hasDict = false
  dp : (pd t).depth ≤ n
  ln : (pd t).shown.length + 2 ≤ L
  cl : (pd t).canLay0 = true
structure SRL (ts : List Td) (n L : Nat) : Prop where
  sh : PyData.showableAll (pdL ts) = true
  hd : PyData.hasDictAll (pdL ts) = false
  dp : PyData.depthAll (pdL ts) ≤ n
  ln : ((PyData.shownAll (pdL ts)).map (·.length)).sum + 2 * ts.length ≤ L
  cl : PyData.canLayAll0 (pdL ts) = true
theorem shownAll_len : ∀ ts : List Td, (PyData.shownAll (pdL ts)).length = ts.length
  | [] => by simp [pdL, PyData.shownAll]
  | t :: ts => by
    rw [pdL, PyData.shownAll, List.length_cons, List.length_cons, shownAll_len ts]
theorem SRL.nil {n : Nat} : SRL [] n 0 := by
  constructor
  · simp [pdL, PyData.showableAll]
  · simp [pdL, PyData.hasDictAll]
  · simp [pdL, PyData.depthAll]
  · simp [pdL, PyData.shownAll]
  · rw [pdL, PyData.canLayAll0]
theorem SRL.cons {t : Td} {ts : List Td} {n L M : Nat} (h : SR t n L) (hs : SRL ts n M) : SRL (t :: ts) n (L + M) := by
  obtain ⟨a1, a2, a3, a4, a5⟩ := h
  obtain ⟨b1, b2, b3, b4, b5⟩ := hs
  constructor
  · rw [pdL, PyData.showableAll, a1, b1]
    rfl
  · rw [pdL, PyData.hasDictAll, a2, b2]
    rfl
  · rw [pdL, PyData.depthAll]
    exact Nat.max_le.mpr ⟨a3, b3⟩
  · rw [pdL, PyData.shownAll, List.map_cons, List.sum_cons, List.length_cons]
    omega
  · rw [pdL, PyData.canLayAll0, a5, b5]
    rfl
theorem SRL.mono {ts : List Td} {n m L M : Nat} (h : SRL ts n L) (hn : n ≤ m) (hl : L ≤ M) : SRL ts m M := ⟨h.sh, h.hd, Nat.le_trans h.dp hn, Nat.le_trans h.ln hl, h.cl⟩
theorem SR.mono {t : Td} {n m L M : Nat} (h : SR t n L) (hn : n ≤ m) (hl : L ≤ M) : SR t m M := ⟨h.sh, h.hd, Nat.le_trans h.dp hn, Nat.le_trans h.ln hl, h.cl⟩
theorem SRL.tup {ts : List Td} {n L : Nat} (h : SRL ts n L) : SR (.tup ts) (n + 1) (L + 5) := by
  obtain ⟨b1, b2, b3, b4, b5⟩ := h
  constructor
  · rw [pd, PyData.showable, b1]
  · rw [pd, PyData.hasDict, b2]
  · rw [pd, PyData.depth]
    omega
  · rw [pd, PyData.shown]
    have := tupleText_len_le (PyData.shownAll (pdL ts))
    rw [shownAll_len] at this
    omega
  · rw [pd, PyData.canLay0, b5]
theorem SR.str {z : Str} (h : okZ z) (n : Nat) : SR (.str z) n 204 := by
  constructor
  · rw [pd, PyData.showable]
  · rw [pd, PyData.hasDict]
  · rw [pd, PyData.depth]
    omega
  · rw [pd, PyData.shown]
    have := StrLaws.reprText_len z fun c hc => Nat.lt_trans (h.2 c hc).1 (by decide)
    have := h.1
    omega
  · rw [pd, PyData.canLay0, PyData.strOk, ← Array.all_toList, List.all_eq_true]
    exact fun c hc => decide_eq_true (Nat.lt_trans (h.2 c hc).1 (by decide))
theorem SR.nat {i : Nat} (h : i ≤ 9999999) (n : Nat) : SR (.int (i : Int)) n 9 := by
  constructor
  · rw [pd, PyData.showable, decide_eq_true_eq]
    have h2 : ((i : Int).natAbs) < 2 ^ 24 := by omega
    rcases Nat.eq_zero_or_pos (i : Int).natAbs with e | e
    · rw [e]
      decide
    · have := (Nat.log2_lt (Nat.ne_of_gt e)).mpr h2
      omega
  · rw [pd, PyData.hasDict]
  · rw [pd, PyData.depth]
    omega
  · rw [pd, PyData.shown]
    have e : (strN i).length = (Nat.toDigits 10 i).length := by
      have e1 : (strN i).length = (strN i).cps.toList.length := Array.length_toList.symm
      rw [e1, strN_cps, List.length_map]
    have := digs_len 6 i (by omega)
    show (strN i).length + 2 ≤ 9
    omega
  · rw [pd, PyData.canLay0]
theorem SR.plc {row k : Nat} (h : row ≤ 9999999) (h2 : k ≤ 9999999) (n : Nat) : SR (plc (row : Int) k) (n + 1) 23 :=
  (SRL.tup (SRL.cons (SR.nat h n) (SRL.cons (SR.nat h2 n) SRL.nil))).mono (Nat.le_refl _) (by omega)
theorem okZ_name : okZ (Str.ofString "name") := okZ_dec (by decide +kernel)
theorem okZ_use : okZ (Str.ofString "use") := okZ_dec (by decide +kernel)
theorem nm_sr (row : Nat) (hr : row ≤ 9999999) {z : Str} (d k : Nat) (h : okZ z) (hd : d ≤ 12) (hk : k ≤ 9999999) : SR ((Ex.nm z).heard (row : Int) k) (15 - d) 450 := by
  simp only [Ex.heard]
  exact ((SRL.tup (SRL.cons (SR.str okZ_name 1) (SRL.cons (SR.plc hr hk 0) (SRL.cons (SR.str h 1) SRL.nil)))).mono (by omega) (by omega))
mutual
theorem Ex.sr (row : Nat) (hr : row ≤ 9999999) : ∀ (e : Ex) (d k : Nat), e.ok d → d ≤ 12 → k + e.words.length ≤ 9999999 → SR (e.heard (row : Int) k) (15 - d) (450 * e.words.length)
  | .nm z, d, k, h, hd, hk => by
    simp only [Ex.heard, Ex.words] at hk ⊢
    have hk' : k ≤ 9999999 := by omega
    refine ((SRL.tup (SRL.cons (SR.str okZ_name 1) (SRL.cons (SR.plc hr hk' 0) (SRL.cons (SR.str h.2 1) SRL.nil)))).mono (by omega) (by show _ ≤ 450 * 1; omega))
  | .op w ps, d, k, h, hd, hk => by
    simp only [Ex.heard, Ex.words, List.length_cons] at hk ⊢
    obtain ⟨sh, hl, hd2, hp⟩ := h
    have ih := Ps.sr row hr ps (d + 1) (k + 1) _ hp (by omega)
    refine ((SRL.tup (SRL.cons (SR.str (expTab_okZ _ (lookup_mem hl)) _) (SRL.cons (SR.plc hr (by omega) (13 - d)) (SRL.mono ih (m := 13 - d + 1) (by omega) (Nat.le_refl _))))).mono (by omega) (by omega))
theorem Ps.sr (row : Nat) (hr : row ≤ 9999999) : ∀ (p : Ps) (d k : Nat) (cs : List Nat), p.ok d cs → k + p.words.length ≤ 9999999 → SRL (p.heard (row : Int) k) (15 - d) (450 * p.words.length)
  | .nil, d, k, cs, h, hk => by
    simp only [Ps.heard, Ps.words]
    exact SRL.nil
  | .int i r, d, k, cs, h, hk => by
    simp only [Ps.heard, Ps.words, List.length_cons] at hk ⊢
    obtain ⟨c, cs', rfl, hc, hrr⟩ := h
    exact (SRL.cons (SR.nat (by omega) _) (Ps.sr row hr r d (k + 1) cs' hrr (by omega))).mono (Nat.le_refl _) (by omega)
  | .str z r, d, k, cs, h, hk => by
    simp only [Ps.heard, Ps.words, List.length_cons] at hk ⊢
    obtain ⟨c, cs', rfl, hc, hz, hz2, hrr⟩ := h
    exact (SRL.cons (SR.str hz2 _) (Ps.sr row hr r d (k + 1) cs' hrr (by omega))).mono (Nat.le_refl _) (by omega)
  | .ex e r, d, k, cs, h, hk => by
    simp only [Ps.heard, Ps.words, List.length_append] at hk ⊢
    obtain ⟨c, cs', rfl, hc, hrr⟩ := h
    have ih := Ps.sr row hr r d (k + e.words.length) cs' hrr (by omega)
    rcases hc with ⟨_, hd, he⟩ | ⟨_, hd, z, rfl, hz, hz2⟩
    · exact (SRL.cons (Ex.sr row hr e d k he hd (by omega)) ih).mono (Nat.le_refl _) (by omega)
    · exact (SRL.cons (nm_sr row hr d k hz2 hd (by omega)) ih).mono (Nat.le_refl _) (by simp only [Ex.words, List.length_singleton]; omega)
end
theorem SRL.strs : ∀ {cs : List Str}, (∀ c ∈ cs, okZ c) → ∀ n, SRL (cs.map Td.str) n (204 * cs.length)
  | [], _, _ => SRL.nil
  | c :: cs, h, n => (SRL.cons (SR.str (h c List.mem_cons_self) n) (SRL.strs (fun z hz => h z (List.mem_cons_of_mem _ hz)) n)).mono (Nat.le_refl _) (by rw [List.length_cons]; omega)
theorem SRL.exs (row : Nat) (hr : row ≤ 9999999) : ∀ (es : List Ex) (k : Nat), (∀ e ∈ es, e.ok 1) → k + (wordsL es).length ≤ 9999999 → SRL (heardL (row : Int) es k) 14 (450 * (wordsL es).length)
  | [], k, _, _ => SRL.nil
  | e :: es, k, h, hk => by
    simp only [wordsL, heardL, List.length_append] at hk ⊢
    exact (SRL.cons (Ex.sr row hr e 1 k (h e List.mem_cons_self) (by decide) (by omega)) (SRL.exs row hr es (k + e.words.length) (fun z hz => h z (List.mem_cons_of_mem _ hz)) (by omega))).mono (Nat.le_refl _) (by omega)
theorem Rw.sr (row : Nat) (hr : row ≤ 9999999) (r : Rw) (h : r.ok) (hl : r.words.length ≤ 300) : SR (r.heard (row : Int)) 20 200000 := by
  cases r with
  | row w ps =>
    obtain ⟨sh, hlk, hp⟩ := h
    simp only [Rw.words, List.length_cons] at hl
    exact (SRL.tup (SRL.cons (SR.str (rowTab_okZ _ (lookup_mem hlk)) _) (Ps.sr row hr ps 1 1 _ hp (by omega)))).mono (by decide) (by omega)
  | use x m cs es =>
    obtain ⟨hx, hm, hc, hcs, he, hes⟩ := h
    simp only [Rw.words, List.length_cons, List.length_append] at hl
    have h1 := SRL.tup (SRL.strs (fun c hc => (hcs c hc).2) 14)
    have h2 := SRL.tup (SRL.exs row hr es (4 + cs.length) hes (by omega))
    exact (SRL.tup (SRL.cons (SR.str okZ_use _) (SRL.cons (SR.str hx.2 _) (SRL.cons (SR.str hm.2 _) (SRL.cons h1 (SRL.cons h2 SRL.nil)))))).mono (by decide) (by omega)
theorem SRL.rows : ∀ (rs : List Rw) (i : Nat), (∀ r ∈ rs, r.ok ∧ r.words.length ≤ 300) → i + rs.length ≤ 9999999 → SRL (heardM rs i) 20 (200000 * rs.length)
  | [], i, _, _ => SRL.nil
  | r :: rs, i, h, hi => by
    simp only [heardM, List.length_cons] at hi ⊢
    have h1 := h r List.mem_cons_self
    exact (SRL.cons (Rw.sr i (by omega) r h1.1 h1.2) (SRL.rows rs (i + 1) (fun z hz => h z (List.mem_cons_of_mem _ hz)) (by omega))).mono (Nat.le_refl _) (by omega)
theorem heardM_len : ∀ (rs : List Rw) (i : Nat), (heardM rs i).length = rs.length
  | [], _ => rfl
  | r :: rs, i => by
    rw [heardM, List.length_cons, List.length_cons, heardM_len rs (i + 1)]
theorem heardM_get : ∀ (rs : List Rw) (i j : Nat) (r : Rw), rs[j]? = some r → (heardM rs i)[j]? = some (r.heard ((i + j : Nat) : Int))
  | [], i, j, r, h => by cases h
  | r0 :: rs, i, 0, r, h => by
    cases h
    rfl
  | r0 :: rs, i, j + 1, r, h => by
    have := heardM_get rs (i + 1) j r h
    rw [show i + (j + 1) = i + 1 + j by omega]
    exact this
theorem heardM_rd (rs : List Rw) (h : ∀ r ∈ rs, r.ok) : ∀ (i : Nat) l t, (rs.map Rw.line)[i]? = some l → (heardM rs 0)[i]? = some t → rdRow (i : Int) l = some t := by
  intro i l t h1 h2
  rw [List.getElem?_map] at h1
  cases hr : rs[i]? with
  | none =>
    rw [hr] at h1
    cases h1
  | some r =>
    rw [hr] at h1
    cases h1
    have h3 := heardM_get rs 0 i r hr
    rw [h2, Nat.zero_add] at h3
    have hok := h r (List.mem_of_getElem? hr)
    rw [Option.some.inj h3]
    exact r.rd _ _ hok (r.split hok)

section
variable {P : Program} {w : World} {K : PySem.W.Frag} {mg : Str → Option Value} {base : Heap}
/-! ### the law's hand: shapes, numbers -/
def lowTab : List (Str × Str) := [("num", "wk"), ("not", "e"), ("and", "ee"), ("or", "ee"), ("xor", "ee"), ("sum", "ee"), ("same", "ee"), ("below", "ee"), ("join", "ee"), ("pick", "eee"), ("cut", "we"), ("bit", "ke")]
def shKv0 : List (L2.Key × V) := [(.inr "num", .str "wk"), (.inr "not", .str "e"), (.inr "pick", .str "eee"), (.inr "cut", .str "we"), (.inr "bit", .str "ke")]
def eeWords : List Str := ["and", "or", "xor", "sum", "same", "below", "join"]
def shKv (i : Nat) : List (L2.Key × V) := (eeWords.take i).foldl (fun kvs z => putK kvs (Sum.inr z) (.str "ee")) shKv0
def spShapes : Sp := fun vs H Q _ => vs = [] ∧ ∀ p H', Same H H' → H p = none → H' p = some (.dK (shKv 7)) → Q (.ref p) H'
theorem shKv_len : ∀ i, i ≤ 7 → (shKv i).length ≤ 12
  | 0, _ => by decide +kernel
  | 1, _ => by decide +kernel
  | 2, _ => by decide +kernel
  | 3, _ => by decide +kernel
  | 4, _ => by decide +kernel
  | 5, _ => by decide +kernel
  | 6, _ => by decide +kernel
  | 7, _ => by decide +kernel
  | n + 8, h => by omega
theorem shKv_succ (i : Nat) {z : Str} (h : eeWords[i]? = some z) : shKv (i + 1) = putK (shKv i) (Sum.inr z) (.str "ee") := by
  unfold shKv
  rw [List.take_add_one, h, List.foldl_append]
  rfl
theorem ok_shapes {f : Addr} {fd : FuncData} (D : DefAt K mg "_law_shapes" [] s_l_shapes f fd) : Cal P w K mg base L2.CX0 1 "_law_shapes" [] spShapes := by
  have S := S_l_shapes
  refine cal_of D.fn D.mgf D.bs D.kbs S (fun vs H Q E h => ?_) (fun cdv A outer s H vs Q E hq hr h => ?_)
  · obtain ⟨rfl, _⟩ := h
    rfl
  · obtain ⟨rfl, q⟩ := h
    refine ⟨_, (pss_cons (ps_set (i := 0) S.nd rfl (.inl rfl) (pe_disp (pps_cons pe_str pe_str (pps_cons pe_str pe_str (pps_cons pe_str pe_str (pps_cons pe_str pe_str (pps_cons pe_str pe_str pps_nil))))) (by rfl) (by rfl) (fun z => by cases z) (by decide)))
 (pss_cons (ps_for PassesOwn.never rfl (pi_tup (pe_tup (pa_cons pe_str (pa_cons pe_str (pa_cons pe_str (pa_cons pe_str (pa_cons pe_str (pa_cons pe_str (pa_cons pe_str pa_nil))))))))) (pg_name (i := 1) S.nd rfl (.inl rfl))
  (pss_one (ps_dput (hu_of hr) (pv 0) (pv 1) pe_str rfl)))
 (pss_one (ps_ret (pv 0))))), ?_⟩
    intro p np
    refine ⟨upd_same, shKv0, rfl, by decide, ?_⟩
    have e1 : upd (upd H p (.dK [])) p (.dK (mergeK [] shKv0)) p = some (.dK (shKv 0)) := upd_same
    have s1 : Same H (upd (upd H p (.dK [])) p (.dK (mergeK [] shKv0))) := same_mut (same_new np) np
    revert e1 s1
    generalize upd (upd H p (.dK [])) p (.dK (mergeK [] shKv0)) = H1
    intro e1 s1
    refine ⟨by show 7 ≤ sizeLine; decide, fun l nl => ?_⟩
    have el : upd H1 l (.tup (eeWords.map V.str)) l = some (.tup (eeWords.map V.str)) := upd_same
    have s2 : Same H1 (upd H1 l (.tup (eeWords.map V.str))) := same_new nl
    refine ⟨l, rfl, ⟨eeWords.map V.str, .inl (.inl el)⟩, ?_⟩
    have npl : l ≠ p := fun z => by
      rw [z, e1] at nl
      cases nl
    refine for_tup (K := K) (a := l) (xs := eeWords.map V.str) (fun i σ H' => H' p = some (.dK (shKv i)) ∧ Same H H' ∧ H' l = some (.tup (eeWords.map V.str)) ∧ ∃ x, σ = [some (.ref p), x]) ?_ ?_ ?_ ?_
    · exact ⟨s2 _ _ e1, s1.trans s2, el, _, rfl⟩
    · rintro i σ H' _ ⟨_, _, e, _⟩
      exact .inl (.inl e)
    · rintro i x σ H' hx ⟨ep, sm, elt, x1, rfl⟩
      obtain ⟨z, hz, rfl⟩ : ∃ y, eeWords[i]? = some y ∧ V.str y = x := by
        rw [List.getElem?_map] at hx
        cases hq : eeWords[i]? with
        | none =>
          rw [hq] at hx
          cases hx
        | some y =>
          rw [hq] at hx
          exact ⟨y, rfl, Option.some.inj hx⟩
      have hi : i < 7 := by
        rcases Nat.lt_or_ge i 7 with h | h
        · exact h
        · rw [List.getElem?_eq_none h] at hz
          cases hz
      refine ⟨.ref p, rfl, .str z, rfl, p, _, rfl, DPut.k (k := Sum.inr z) ep (Nat.lt_of_le_of_lt (shKv_len i (by omega)) (by decide)), ?_⟩
      refine ⟨?_, same_mut sm np, ?_, _, rfl⟩
      · rw [upd_same, shKv_succ i hz]
      · rw [upd_ne npl]
        exact elt
    · rintro σ H' ⟨ep, sm, elt, x1, rfl⟩
      exact ⟨.ref p, rfl, q p H' sm np ep⟩
theorem shapes_get : ∀ e ∈ lowTab, valV (shKv 7) (Sum.inr e.1) = some (.str e.2) := by decide +kernel
def spNumber : Sp := fun vs H Q _ => ∃ (d c : Addr) (t : Nat) (z : Str), vs = [.ref d, .str z] ∧ Deck H d c t ∧ t < 100000000000 ∧
  ∀ (n t' : Nat) (H' : Hp), (z = "w" → 1 ≤ n ∧ n ≤ 8) → n ≤ 65535 → t ≤ t' → t' ≤ t + 4 → But d c H H' → Deck H' d c t' → Q (.int (n : Int)) H'
theorem ok_number2 {f : Addr} {fd : FuncData} (D : DefAt K mg "_law_number" ["_law_deck_here", "_law_kind"] s_l_number f fd)
    (C_l_draw : Cal P w K mg base L2.CX0 1 "_law_draw" ["_law_deck_here", "_law_sides"] spDraw) : Cal P w K mg base L2.CX0 2 "_law_number" ["_law_deck_here", "_law_kind"] spNumber := by
  have S := S_l_number
  refine cal_of D.fn D.mgf D.bs D.kbs S (fun vs H Q E h => ?_) (fun cdv A outer s H vs Q E hq hr h => ?_)
  · obtain ⟨d, c, t, z, rfl, _⟩ := h
    rfl
  · obtain ⟨d, c, t, z, rfl, dk, ht, q⟩ := h
    refine ⟨_, (pss_cons (ps_if (pt_cmpR op_eq (pv 1) pe_str (nomark _))
  (pss_one (ps_ret (pe_op op_add pe_int (pe_c C_l_draw pass0 hq hr (by omega) (by rfl) (pa_cons (pv 0) (pa_cons pe_int pa_nil))))))
  pss_nil)
 (pss_one (ps_ret (pe_ix ix_list (pe_lst (pa_cons (pe_c C_l_draw pass0 hq hr (by omega) (by rfl) (pa_cons (pv 0) (pa_cons pe_int pa_nil))) (pa_cons (pe_op op_add pe_int (pe_c C_l_draw pass0 hq hr (by omega) (by rfl) (pa_cons (pv 0) (pa_cons pe_int pa_nil)))) (pa_cons (pe_c C_l_draw pass0 hq hr (by omega) (by rfl) (pa_cons (pv 0) (pa_cons pe_int pa_nil))) (pa_cons pe_int pa_nil))))) (pe_c C_l_draw pass0 hq hr (by omega) (by rfl) (pa_cons (pv 0) (pa_cons pe_int pa_nil))) (fun _ _ => rfl))))), ?_⟩
    refine ⟨.str z, rfl, rfl, _, rfl, ?_⟩
    rw [decVS]
    by_cases hz : z = "w"
    · rw [decide_eq_true hz]
      refine iteT ⟨.ref d, rfl, d, c, 8, t, rfl, by decide, by decide, dk, by omega, fun r H1 r0 r1 b1 dk1 => ?_⟩
      obtain ⟨n, rfl⟩ := Int.eq_ofNat_of_zero_le r0
      refine ⟨1, (n : Int), rfl, rfl, ?_⟩
      show Q (V.int (1 + (n : Int))) H1
      rw [show (1 : Int) + (n : Int) = ((n + 1 : Nat) : Int) by omega]
      exact q (n + 1) (t + 1) H1 (fun _ => by omega) (by omega) (by omega) (by omega) b1 dk1
    · rw [decide_eq_false hz]
      refine iteF ?_
      refine ⟨.ref d, rfl, d, c, 12, t, rfl, by decide, by decide, dk, by omega, fun r1 H1 a0 a1 b1 dk1 => ?_⟩
      refine ⟨.ref d, rfl, d, c, 3, t + 1, rfl, by decide, by decide, dk1, by omega, fun r2 H2 a2 a3 b2 dk2 => ?_⟩
      refine ⟨9, r2, rfl, rfl, ?_⟩
      refine ⟨.ref d, rfl, d, c, 65536, t + 1 + 1, rfl, by decide, by decide, dk2, by omega, fun r3 H3 a4 a5 b3 dk3 => ?_⟩
      refine ⟨by show 4 ≤ sizeLine; decide, fun p np => ?_⟩
      have bt := ((b1.trans b2).trans b3).same (same_new (o := .lst [.int r1, .int (9 + r2), .int r3, .int 65535]) np)
      have dk4 := dk3.new (o := .lst [.int r1, .int (9 + r2), .int r3, .int 65535]) np
      have fp := dk3.free np
      have ep : (upd H3 p (.lst [.int r1, .int (9 + r2), .int r3, .int 65535])) p = some (.lst [.int r1, .int (9 + r2), .int r3, .int 65535]) := upd_same
      refine ⟨.ref d, rfl, d, c, 4, t + 1 + 1 + 1, rfl, by decide, by decide, dk4, by omega, fun r4 H4 a6 a7 b4 dk5 => ?_⟩
      obtain ⟨n, en, n6⟩ : ∃ n : Nat, atI [V.int r1, .int (9 + r2), .int r3, .int 65535] r4 = some (.int (n : Int)) ∧ n ≤ 65535 := by
        have h : r4 = 0 ∨ r4 = 1 ∨ r4 = 2 ∨ r4 = 3 := by omega
        rcases h with rfl | rfl | rfl | rfl
        · obtain ⟨n, rfl⟩ := Int.eq_ofNat_of_zero_le a0
          exact ⟨n, rfl, by omega⟩
        · obtain ⟨n, e⟩ := Int.eq_ofNat_of_zero_le (show 0 ≤ 9 + r2 by omega)
          exact ⟨n, congrArg (fun i => some (V.int i)) e, by omega⟩
        · obtain ⟨n, rfl⟩ := Int.eq_ofNat_of_zero_le a4
          exact ⟨n, rfl, by omega⟩
        · exact ⟨65535, rfl, by omega⟩
      exact ⟨p, _, r4, _, rfl, rfl, .inl (.inl (b4 _ _ fp.1 fp.2 ep)), en, q n _ H4 (fun h => absurd h hz) n6 (by omega) (by omega) (bt.trans b4) dk5⟩

end
section
variable {P : Program} {w : World} {K : PySem.W.Frag} {mg : Str → Option Value} {base : Heap}
/-! ### the law's hand: expressions -/
abbrev Pt := Nat ⊕ Ex
def ptMade : Pt → Td
  | .inl i => .int (i : Int)
  | .inr e => e.made
def ptWords : Pt → Nat
  | .inl _ => 1
  | .inr e => e.words.length
def Ps.of : List Pt → Ps
  | [] => .nil
  | .inl i :: qs => .int i (Ps.of qs)
  | .inr e :: qs => .ex e (Ps.of qs)
def okPt (d c : Nat) : Pt → Prop
  | .inl i => (c = 87 ∧ 1 ≤ i ∧ i ≤ 8) ∨ (c = 75 ∧ i ≤ 65535)
  | .inr e => c = 69 ∧ d ≤ 12 ∧ e.ok d
theorem Ps.of_ok {d : Nat} : ∀ {qs : List Pt} {cs : List Nat}, qs.length = cs.length → (∀ (i : Nat) q c, qs[i]? = some q → cs[i]? = some c → okPt d c q) → (Ps.of qs).ok d cs
  | [], [], _, _ => by
    simp only [Ps.of, Ps.ok]
  | [], _ :: _, h, _ => by cases h
  | _ :: _, [], h, _ => by cases h
  | .inl i :: qs, c :: cs, h, ho => by
    simp only [Ps.of, Ps.ok]
    exact ⟨c, cs, rfl, ho 0 _ _ rfl rfl, Ps.of_ok (Nat.succ.inj h) fun i q c h1 h2 => ho (i + 1) q c h1 h2⟩
  | .inr e :: qs, c :: cs, h, ho => by
    simp only [Ps.of, Ps.ok]
    exact ⟨c, cs, rfl, .inl (ho 0 _ _ rfl rfl), Ps.of_ok (Nat.succ.inj h) fun i q c h1 h2 => ho (i + 1) q c h1 h2⟩
theorem Ps.of_words : ∀ qs : List Pt, (Ps.of qs).words.length = (qs.map ptWords).sum
  | [] => rfl
  | .inl i :: qs => by
    simp only [Ps.of, Ps.words, List.length_cons, List.map_cons, List.sum_cons, Ps.of_words qs, ptWords]
    omega
  | .inr e :: qs => by
    simp only [Ps.of, Ps.words, List.length_append, List.map_cons, List.sum_cons, Ps.of_words qs, ptWords]
theorem Ps.of_made : ∀ qs : List Pt, (Ps.of qs).made = qs.map ptMade
  | [] => rfl
  | .inl i :: qs => by simp only [Ps.of, Ps.made, List.map_cons, Ps.of_made qs, ptMade]
  | .inr e :: qs => by simp only [Ps.of, Ps.made, List.map_cons, Ps.of_made qs, ptMade]
theorem spot1 {a : Str} (h : isNm a = true) : isSpot a = true := by
  have hs : Txt.split a "." = [a] := by
    have h1 : Txt.split (Txt.join "." [a]) "." = [a] := TL.split_join (s := 46) (S := []) (by decide +kernel) (by decide +kernel) (by simp) fun p hp hc => by
      rw [List.mem_singleton.mp hp] at hc
      exact nm_nodot h hc
    have e : Txt.join (Str.ofString ".") [a] = a := str_ext (by
      have := tl_txtjoin (Str.ofString ".") [a]
      refine this.trans ?_
      show _ = TL.tl a
      simp [TL.joinL])
    rw [e] at h1
    exact h1
  unfold isSpot
  rw [hs]
  simp [h]
theorem spot2 {a b : Str} (ha : isNm a = true) (hb : isNm b = true) : isSpot (a ++ (Str.ofString "." ++ b)) = true := by
  have hs : Txt.split (a ++ (Str.ofString "." ++ b)) "." = [a, b] := by
    have h1 : Txt.split (Txt.join "." [a, b]) "." = [a, b] := TL.split_join (s := 46) (S := []) (by decide +kernel) (by decide +kernel) (by simp) fun p hp hc => by
      rcases List.mem_cons.mp hp with rfl | hp
      · exact nm_nodot ha hc
      · rw [List.mem_singleton.mp hp] at hc
        exact nm_nodot hb hc
    have e : Txt.join (Str.ofString ".") [a, b] = a ++ (Str.ofString "." ++ b) := str_ext (by
      have := tl_txtjoin (Str.ofString ".") [a, b]
      refine this.trans ?_
      show _ = TL.tl (a ++ (Str.ofString "." ++ b))
      rw [TL.tl_append, TL.tl_append]
      simp [TL.joinL])
    rw [e] at h1
    exact h1
  unfold isSpot
  rw [hs]
  simp [ha, hb]
def But3 (d c rm : Addr) (H H' : Hp) : Prop := ∀ b o, b ≠ d → b ≠ c → b ≠ rm → H b = some o → H' b = some o
theorem But3.of {d c rm : Addr} {H H' : Hp} (h : But d c H H') : But3 d c rm H H' := fun b o h1 h2 _ e => h b o h1 h2 e
theorem But3.same {d c rm : Addr} {H H' : Hp} (h : Same H H') : But3 d c rm H H' := fun b o _ _ _ e => h b o e
theorem But3.trans {d c rm : Addr} {H H1 H2 : Hp} (a : But3 d c rm H H1) (b : But3 d c rm H1 H2) : But3 d c rm H H2 := fun x o h1 h2 h3 e => b x o h1 h2 h3 (a x o h1 h2 h3 e)
theorem But3.upd {d c rm : Addr} {H : Hp} {o : HO} : But3 d c rm H (upd H rm o) := fun b u _ _ h3 e => by
  rw [upd_ne h3]
  exact e
theorem But3.mut {d c rm p : Addr} {H H' : Hp} {o : HO} (a : But3 d c rm H H') (h : H p = none) : But3 d c rm H (L2.upd H' p o) := fun b u h1 h2 h3 e => by
  rw [upd_ne (ne_of_none e h)]
  exact a b u h1 h2 h3 e
theorem But3.tups {d c rm : Addr} {t : Nat} {xs : List V} {H H' : Hp} (dk : Deck H d c t) (er : H rm = some (.lst xs)) (a : But3 d c rm H H') : ∀ p vs, H p = some (.tup vs) → H' p = some (.tup vs) := fun p vs e => by
  obtain ⟨cs, sd, e1, e2, _⟩ := dk.ex
  exact a p _ (fun z => by
    rw [z, e1] at e
    cases e) (fun z => by
    rw [z, e2] at e
    cases e) (fun z => by
    rw [z, er] at e
    cases e) e
def spLE (L : Nat) : Sp := fun vs H Q _ => ∃ (d c rm : Addr) (t left : Nat) (n : Int), vs = [.ref d, .int (left : Int), .ref rm] ∧ 1 ≤ left ∧ left ≤ L ∧ Deck H d c t ∧ t + 40 * 4 ^ left < 100000000000 ∧
  H rm = some (.lst [.int n]) ∧ rm ≠ d ∧ rm ≠ c ∧
  ∀ (e : Ex) (n' : Int) (t' : Nat) (H' : Hp) (v : V), (∀ dd, dd + left ≤ 13 → e.ok dd) → e.words.length + 7 * n'.toNat ≤ 3 + 7 * n.toNat → t ≤ t' → t' ≤ t + 40 * 4 ^ left →
    But3 d c rm H H' → Deck H' d c t' → H' rm = some (.lst [.int n']) → TdR H' e.made v → Q v H'
theorem okZ_append {a b : Str} (ha : okZ a) (hb : okZ b) (hl : a.length + b.length ≤ 20) : okZ (a ++ b) := by
  refine ⟨by rw [strLen_append]; exact hl, fun c hc => ?_⟩
  have hc2 : c ∈ TL.tl (a ++ b) := hc
  rw [TL.tl_append] at hc2
  rcases List.mem_append.mp hc2 with h | h
  · exact ha.2 c h
  · exact hb.2 c h
theorem nm_len {z : Str} (h : isNm z = true) : z.length ≤ 6 := by
  unfold isNm at h
  rw [Bool.and_eq_true, decide_eq_true_eq] at h
  omega
theorem or3 {ta tb tc : TT} {σ : L2.St} {H : Hp} {Q : Bool → Hp → Prop} {a b c : Bool} (ha : ∀ Q', Q' a H → ta σ H Q') (hb : ∀ Q', Q' b H → tb σ H Q') (hc : ∀ Q', Q' c H → tc σ H Q')
    (h : Q (a || (b || c)) H) : tOr ta (tOr tb tc) σ H Q := by
  refine ha _ ?_
  cases a
  · refine iteF (hb _ ?_)
    cases b
    · exact iteF (hc _ h)
    · exact iteT h
  · exact iteT h
theorem seq_or3 {ta tb tc : TT} {t u r : TS} {D : Ends} {σ : L2.St} {H : Hp} {a b c : Bool} (ha : ∀ Q', Q' a H → ta σ H Q') (hb : ∀ Q', Q' b H → tb σ H Q') (hc : ∀ Q', Q' c H → tc σ H Q')
    (h : tSeq (tIfS (fun _ H Q => Q (a || (b || c)) H) t u) r D σ H) : tSeq (tIfS (tOr ta (tOr tb tc)) t u) r D σ H := by
  show tOr ta (tOr tb tc) σ H _
  exact or3 ha hb hc h
theorem for_str {x : Str} {g : TG} {tb : TS} {D : Ends} {σ : L2.St} {H : Hp} (Pv : Nat → L2.St → Hp → Prop) (h0 : Pv 0 σ H)
    (hs : ∀ (i : Nat) (c : Nat) (σ : L2.St) (H : Hp), x.cps.toList[i]? = some c → Pv i σ H → g (.str ⟨#[c]⟩) σ H fun σ2 H2 => tb { nx := Pv (i + 1), rt := D.rt, bk := D.nx, ct := Pv (i + 1) } σ2 H2)
    (hd : ∀ (σ : L2.St) (H : Hp), Pv x.cps.size σ H → D.nx σ H) :
    ∃ W : Nat → Nat → L2.St → Hp → Prop, (∃ m, W 0 m σ H) ∧ ∀ (i m : Nat) (σ : L2.St) (H : Hp), W i m σ H → ((Its x).stop i H ∧ D.nx σ H) ∨ ((Its x).go i H ∧
      ∃ N : L2.St → Hp → Prop, (∀ σ' H', N σ' H' → ∃ m', m' < m ∧ W (i + 1) m' σ' H') ∧
        ∀ (v : V) (H' : Hp), (Its x).yld i H v H' → g v σ H' fun σ2 H2 => tb { nx := N, rt := D.rt, bk := D.nx, ct := N } σ2 H2) := by
  refine ⟨fun i m σ H => m = x.cps.size - i ∧ i ≤ x.cps.size ∧ Pv i σ H, ⟨x.cps.size, rfl, Nat.zero_le _, h0⟩, ?_⟩
  rintro i m σ H ⟨rfl, hi, p⟩
  by_cases hlt : i < x.cps.size
  · refine .inr ⟨hlt, Pv (i + 1), fun σ' H' q => ⟨x.cps.size - (i + 1), by omega, rfl, by omega, q⟩, ?_⟩
    rintro v H' ⟨rfl, c, e, rfl⟩
    exact hs i c σ H' (by rw [Array.getElem?_toList]; exact e) p
  · have e : i = x.cps.size := by omega
    subst e
    exact .inl ⟨Nat.le_refl _, hd σ H p⟩
def sorts : List Str := ["not", "pick", "cut", "bit", "and", "or", "xor", "sum", "same", "below", "join"]
def pairOk (low sh : Str) : Bool := decide (low.cps.toList.length = sh.cps.toList.length) && decide (sh.cps.toList.length ≤ 3) &&
  ((low.cps.toList.zip sh.cps.toList).all fun x => (decide (x = (101, 69))) || (decide (x = (119, 87)) || decide (x = (107, 75))))
theorem sorts_ok : ∀ w ∈ sorts, (match lowTab.lookup w, expTab.lookup w with
    | some low, some sh => pairOk low sh
    | _, _ => false) = true := by decide +kernel
theorem sorts_len : ∀ w ∈ sorts, w.length ≤ 5 := by decide +kernel
theorem pair_at {low sh : Str} (h : pairOk low sh = true) {i c : Nat} (hc : low.cps.toList[i]? = some c) : ∃ c', sh.cps.toList[i]? = some c' ∧ ((c = 101 ∧ c' = 69) ∨ (c = 119 ∧ c' = 87) ∨ (c = 107 ∧ c' = 75)) := by
  unfold pairOk at h
  rw [Bool.and_eq_true, Bool.and_eq_true, decide_eq_true_eq, decide_eq_true_eq, List.all_eq_true] at h
  obtain ⟨⟨h1, _⟩, h2⟩ := h
  have hi : i < low.cps.toList.length := by
    rcases Nat.lt_or_ge i low.cps.toList.length with h | h
    · exact h
    · rw [List.getElem?_eq_none h] at hc
      cases hc
  have hi2 : i < sh.cps.toList.length := by omega
  refine ⟨sh.cps.toList[i], List.getElem?_eq_getElem hi2, ?_⟩
  have hz : (low.cps.toList.zip sh.cps.toList)[i]? = some (c, sh.cps.toList[i]) := by
    rw [List.getElem?_zip_eq_some]
    exact ⟨hc, List.getElem?_eq_getElem hi2⟩
  have := h2 _ (List.mem_of_getElem? hz)
  rw [Bool.or_eq_true, Bool.or_eq_true, decide_eq_true_eq, decide_eq_true_eq, decide_eq_true_eq] at this
  rcases this with e | e | e
  · exact .inl (Prod.mk.inj e)
  · exact .inr (.inl (Prod.mk.inj e))
  · exact .inr (.inr (Prod.mk.inj e))
theorem sg_eq (c : Nat) (z : Str) (k : Nat) (hz : z.cps.toList = [k]) : ((⟨#[c]⟩ : Str) = z) ↔ c = k := by
  constructor
  · intro e
    have e2 : (⟨#[c]⟩ : Str).cps.toList = z.cps.toList := congrArg (fun s : Str => s.cps.toList) e
    rw [hz] at e2
    exact List.singleton_inj.mp e2
  · rintro rfl
    exact str_ext hz.symm
theorem part_two {L : Nat} {d c rm : Addr} {tt lf B : Nat} {nn : Int} {ch c' : Nat} {left : Nat} {Q0 : VK} {σ : L2.St} {H : Hp}
    (h0 : σ[0]? = some (some (.ref d))) (h2 : σ[2]? = some (some (.ref rm))) (h8 : σ[8]? = some (some (.int (lf : Int)))) (h9 : σ[9]? = some (some (.str ⟨#[ch]⟩)))
    (l1 : 1 ≤ lf) (l2 : lf ≤ L) (l3 : lf + 1 ≤ left) (dk : Deck H d c tt) (hB : 40 * 4 ^ lf + 4 ≤ B) (ht : tt + B < 100000000000) (er : H rm = some (.lst [.int nn])) (nrd : rm ≠ d) (nrc : rm ≠ c)
    (hc : (ch = 101 ∧ c' = 69) ∨ (ch = 119 ∧ c' = 87) ∨ (ch = 107 ∧ c' = 75))
    (hstep : ∀ (q1 : Pt) (nn' : Int) (t6 : Nat) (H6 : Hp) (v : V), (∀ dd, dd + left ≤ 13 → okPt (dd + 1) c' q1) → ptWords q1 + 7 * nn'.toNat ≤ 3 + 7 * nn.toNat → tt ≤ t6 → t6 ≤ tt + B →
      But3 d c rm H H6 → Deck H6 d c t6 → H6 rm = some (.lst [.int nn']) → TdR H6 (ptMade q1) v → Q0 v H6) :
    tIf (tTest (tOp rEq (tVar 9) (tC (V.str "e")))) (tCall (spLE L) [] E0 (tCons (tVar 0) (tCons (tVar 8) (tCons (tVar 2) tNil)))) (tCall spNumber [] E0 (tCons (tVar 0) (tCons (tVar 9) tNil))) σ H Q0 := by
  refine ⟨.str ⟨#[ch]⟩, h9, rfl, _, rfl, ?_⟩
  rw [decVS]
  by_cases he : ch = 101
  · rw [decide_eq_true ((sg_eq ch "e" 101 (by decide +kernel)).mpr he)]
    have hc' : c' = 69 := by omega
    refine iteT ⟨.ref d, h0, .int (lf : Int), h8, .ref rm, h2, d, c, rm, tt, lf, nn, rfl, l1, l2, dk, by omega, er, nrd, nrc, fun e n' t' H' v ho hw ht1 ht2 b6 dk6 er6 tv => ?_⟩
    exact hstep (.inr e) n' t' H' v (fun dd hdd => ⟨hc', by omega, ho _ (by omega)⟩) hw ht1 (by omega) b6 dk6 er6 tv
  · rw [decide_eq_false (fun h => he ((sg_eq ch "e" 101 (by decide +kernel)).mp h))]
    refine iteF ⟨.ref d, h0, .str ⟨#[ch]⟩, h9, d, c, tt, ⟨#[ch]⟩, rfl, dk, by omega, fun m t' H' hw hk ht1 ht2 b6 dk6 => ?_⟩
    refine hstep (.inl m) nn t' H' _ (fun dd hdd => ?_) (by show 1 + _ ≤ _; omega) ht1 (by omega) (.of b6) dk6 (b6 _ _ nrd nrc er) (.int _)
    rcases hc with ⟨h, _⟩ | ⟨h, h'⟩ | ⟨h, h'⟩
    · exact absurd h he
    · exact .inl ⟨h', hw ((sg_eq ch "w" 119 (by decide +kernel)).mpr h)⟩
    · exact .inr ⟨h', hk⟩
theorem ok_le {L : Nat} (hLm : L < 1000000) {f : Addr} {fd : FuncData} (D : DefAt K mg "_law_expression" ["_law_deck_here", "_law_left", "_law_room"] s_l_expression f fd) (M : Bi mg)
    (C_l_draw : Cal P w K mg base L2.CX0 1 "_law_draw" ["_law_deck_here", "_law_sides"] spDraw)
    (C_l_name : Cal P w K mg base L2.CX0 3 "_law_name" ["_law_deck_here"] spName)
    (C_l_shapes : Cal P w K mg base L2.CX0 1 "_law_shapes" [] spShapes)
    (C_l_number : Cal P w K mg base L2.CX0 2 "_law_number" ["_law_deck_here", "_law_kind"] spNumber)
    (C_l_expression : Cal P w K mg base L2.CX0 (4 + L) "_law_expression" ["_law_deck_here", "_law_left", "_law_room"] (spLE L)) :
    Cal P w K mg base L2.CX0 (4 + L + 1) "_law_expression" ["_law_deck_here", "_law_left", "_law_room"] (spLE (L + 1)) := by
  have S := S_l_expression
  refine cal_of D.fn D.mgf D.bs D.kbs S (fun vs H Q E h => ?_) (fun cdv A outer s H vs Q E hq hr h => ?_)
  · obtain ⟨d, c, rm, t, left, n, rfl, _⟩ := h
    rfl
  · obtain ⟨d, c, rm, t, left, n, rfl, h1, hL, dk, ht, er, nrd, nrc, q⟩ := h
    refine ⟨_, (pss_cons (ps_set (i := 3) S.nd rfl (.inl rfl) (pe_c0 C_l_shapes pass0 hq hr (by omega) (by rfl)))
 (pss_cons (ps_set (i := 4) S.nd rfl (.inl rfl) (pe_c C_l_draw pass0 hq hr (by omega) (by rfl) (pa_cons (pv 0) (pa_cons pe_int pa_nil))))
 (pss_cons (ps_asg (pe_op op_sub (pe_ix ix_list (pv 2) pe_int (fun _ _ => rfl)) pe_int) (pg_sub (pv 2) pe_int set_list))
 (pss_cons (ps_if (PW.pt (pw_or (pt_cmpR op_lt (pv 1) pe_int (nomark _)) (pw_or (pt_cmpR op_lt (pe_ix ix_list (pv 2) pe_int (fun _ _ => rfl)) pe_int (nomark _)) (pw_or1 (pt_cmpR op_lt (pv 4) pe_int (nomark _))))))
  (pss_cons (ps_if (pt_cmpR op_eq (pe_c C_l_draw pass0 hq hr (by omega) (by rfl) (pa_cons (pv 0) (pa_cons pe_int pa_nil))) pe_int (nomark _))
  (pss_one (ps_ret (pe_tup (pa_cons pe_str (pa_cons (pe_c C_l_number pass0 hq hr (by omega) (by rfl) (pa_cons (pv 0) (pa_cons pe_str pa_nil))) (pa_cons (pe_c C_l_number pass0 hq hr (by omega) (by rfl) (pa_cons (pv 0) (pa_cons pe_str pa_nil))) pa_nil))))))
  pss_nil)
 (pss_cons (ps_set (i := 5) S.nd rfl (.inl rfl) (pe_c C_l_name pass0 hq hr (by omega) (by rfl) (pa_cons (pv 0) pa_nil)))
 (pss_one (ps_ret (pe_tup (pa_cons pe_str (pa_cons (pe_op op_add_str (pv 5) (pe_ix ix_list (pe_lst (pa_cons pe_str (pa_cons (pe_op op_add_str pe_str (pe_c C_l_name pass0 hq hr (by omega) (by rfl) (pa_cons (pv 0) pa_nil))) pa_nil))) (pe_callTy call_int1 (by rfl) M.int_ (by decide +kernel) (pa_cons (pe_cmpR op_eq (pe_c C_l_draw pass0 hq hr (by omega) (by rfl) (pa_cons (pv 0) (pa_cons pe_int pa_nil))) pe_int (nomark _)) pa_nil)) (fun _ _ => rfl))) pa_nil)))))))
  pss_nil)
 (pss_cons (ps_set (i := 6) S.nd rfl (.inl rfl) (pe_lst (pa_cons pe_str (pa_cons pe_str (pa_cons pe_str (pa_cons pe_str (pa_cons pe_str (pa_cons pe_str (pa_cons pe_str (pa_cons pe_str (pa_cons pe_str (pa_cons pe_str (pa_cons pe_str pa_nil)))))))))))))
 (pss_cons (ps_set (i := 5) S.nd rfl (.inl rfl) (pe_ix ix_list (pv 6) (pe_c C_l_draw pass0 hq hr (by omega) (by rfl) (pa_cons (pv 0) (pa_cons pe_int pa_nil))) (fun _ _ => rfl)))
 (pss_cons (ps_par (i := 7) (j := 8) rfl S.nd rfl rfl (by decide) rfl rfl (pa_cons (pe_lst (pa_cons (pv 5) pa_nil)) (pa_cons (pe_op op_sub (pv 1) pe_int) pa_nil)) (by rfl))
 (pss_cons (ps_for PassesOwn.never rfl (pi_str (pe_dget (hu_of hr) (pv 3) (pv 5) (fun _ _ => rfl))) (pg_name (i := 9) S.nd rfl (.inl rfl))
  (pss_cons (ps_expr (pe_bm PySem.F.plainAttrs_list PySem.F.slot_list_append PySem.F.type_list_append mt_append (pv 7) (pa_cons (pe_ifExp (pt_cmpR op_eq (pv 9) pe_str (nomark _)) (pe_c C_l_expression pass0 hq hr (by omega) (by rfl) (pa_cons (pv 0) (pa_cons (pv 8) (pa_cons (pv 2) pa_nil)))) (pe_c C_l_number pass0 hq hr (by omega) (by rfl) (pa_cons (pv 0) (pa_cons (pv 9) pa_nil)))) pa_nil)))
 (pss_one (ps_set (i := 8) S.nd rfl (.inl rfl) (pe_op op_add (pe_c C_l_draw pass0 hq hr (by omega) (by rfl) (pa_cons (pv 0) (pa_cons (pv 8) pa_nil))) pe_int)))))
 (pss_one (ps_ret (pe_callTy call_tuple_of (by rfl) M.tuple_ (by decide +kernel) (pa_cons (pv 7) pa_nil)))))))))))), ?_⟩
    have p4 : 4 ≤ 4 ^ left := by
      have := Nat.pow_le_pow_right (show 0 < 4 by decide) h1
      omega
    refine ⟨rfl, fun p H1 s1 np ep => ?_⟩
    have dk1 := dk.same s1
    have er1 := s1 _ _ er
    refine ⟨.ref d, rfl, d, c, 12, t, rfl, by decide, by decide, dk1, by omega, fun way H2 w0 w1 b2 dk2 => ?_⟩
    have er2 := b2 _ _ nrd nrc er1
    refine ⟨.ref rm, rfl, rm, [.int n], 0, .int n, rfl, rfl, .inl (.inl er2), rfl, n, 1, rfl, rfl, ?_⟩
    refine ⟨.ref rm, rfl, rm, [.int n], 0, 0, rfl, rfl, er2, rfl, ?_⟩
    have er3 : upd H2 rm (.lst ([V.int n].set 0 (.int (n - 1)))) rm = some (.lst [.int (n - 1)]) := upd_same
    have dk3 : Deck (upd H2 rm (.lst ([V.int n].set 0 (.int (n - 1))))) d c (t + 1) := dk2.mut nrd.symm nrc.symm
    have b3 : But3 d c rm H (upd H2 rm (.lst ([V.int n].set 0 (.int (n - 1))))) := ((But3.same s1).trans (.of b2)).trans .upd
    have ndp : d ≠ p := fun z => by
      obtain ⟨cs, sd, e1, _⟩ := dk.ex
      rw [← z, e1] at np
      cases np
    have ncp : c ≠ p := fun z => by
      obtain ⟨cs, sd, _, e1, _⟩ := dk.ex
      rw [← z, e1] at np
      cases np
    have nrp : rm ≠ p := fun z => by
      rw [← z, er] at np
      cases np
    have ep3 : upd H2 rm (.lst ([V.int n].set 0 (.int (n - 1)))) p = some (.dK (shKv 7)) := by
      rw [upd_ne nrp.symm]
      exact b2 _ _ ndp.symm ncp.symm ep
    revert er3 dk3 b3 ep3
    generalize upd H2 rm (.lst ([V.int n].set 0 (.int (n - 1)))) = H3
    intro er3 dk3 b3 ep3
    dsimp only
    refine seq_or3 (a := decide ((left : Int) < 2)) (b := decide (n - 1 < 0)) (c := decide (way < 3)) (fun Q' q' => ⟨.int (left : Int), rfl, _, _, rfl, rfl, _, rfl, q'⟩)
      (fun Q' q' => ⟨.ref rm, rfl, rm, _, 0, _, rfl, rfl, .inl (.inl er3), rfl, _, _, rfl, rfl, _, rfl, q'⟩) (fun Q' q' => ⟨.int way, rfl, _, _, rfl, rfl, _, rfl, q'⟩) ?_
    show if (decide ((left : Int) < 2) || (decide (n - 1 < 0) || decide (way < 3))) = true then _ else _
    cases hcond : (decide ((left : Int) < 2) || (decide (n - 1 < 0) || decide (way < 3))) with
    | true =>
      refine iteT ?_
      refine ⟨.ref d, rfl, d, c, 3, t + 1, rfl, by decide, by decide, dk3, by omega, fun r3 H4 _ _ b4 dk4 => ?_⟩
      have er4 := b4 _ _ nrd nrc er3
      have b34 := b3.trans (.of b4)
      refine ⟨rfl, _, rfl, ite2 (fun _ => ?_) (fun _ => ?_)⟩
      · refine ⟨.ref d, rfl, d, c, t + 1 + 1, "w", rfl, dk4, by omega, fun n1 t5 H5 hw hk ht5 ht5' b5 dk5 => ?_⟩
        refine ⟨.ref d, rfl, d, c, t5, "k", rfl, dk5, by omega, fun n2 t6 H6 _ hk2 ht6 ht6' b6 dk6 => ?_⟩
        refine ⟨by show 3 ≤ sizeLine; decide, fun p2 np2 => ?_⟩
        have er6 := b6 _ _ nrd nrc (b5 _ _ nrd nrc er4)
        refine q (.op "num" (Ps.of [.inl n1, .inl n2])) (n - 1) t6 _ _ (fun dd hdd => ?_) ?_ (by omega) (by omega) ((b34.trans ((But3.of b5).trans (.of b6))).trans (.same (same_new np2))) (dk6.same (same_new np2)) (same_new np2 _ _ er6) ?_
        · rw [Ex.ok]
          refine ⟨"WK", rfl, .inr rfl, Ps.of_ok rfl fun i q' c' e1 e2 => ?_⟩
          match i, e1, e2 with
          | 0, e1, e2 =>
            cases e1
            cases e2
            exact .inl ⟨rfl, hw rfl⟩
          | 1, e1, e2 =>
            cases e1
            cases e2
            exact .inr ⟨rfl, hk2⟩
        · show 3 + 7 * (n - 1).toNat ≤ _
          omega
        · exact .mk upd_same (.cons (.str _) (.cons (.int _) (.cons (.int _) .nil)))
      · refine ⟨.ref d, rfl, d, c, t + 1 + 1, rfl, dk4, by omega, fun z1 t5 H5 hz1 ht5 ht5' b5 dk5 => ?_⟩
        refine ⟨.str z1, rfl, .ref d, rfl, d, c, t5, rfl, dk5, by omega, fun z2 t6 H6 hz2 ht6 ht6' b6 dk6 => ?_⟩
        have l1 := nm_len hz1
        have l2 := nm_len hz2
        refine ⟨Str.ofString ".", z2, rfl, rfl, Nat.le_trans (show 1 + z2.length ≤ 7 by omega) (by decide), by show 2 ≤ sizeLine; decide, fun p2 np2 => ?_⟩
        have fp := dk6.free np2
        refine ⟨.ref d, rfl, d, c, 4, t6, rfl, by decide, by decide, dk6.new np2, by omega, fun r4 H7 _ _ b7 dk7 => ?_⟩
        have eL := b7 p2 _ fp.1 fp.2 upd_same
        have er6 := b6 _ _ nrd nrc (b5 _ _ nrd nrc er4)
        have er7 := b7 _ _ nrd nrc (same_new np2 _ _ er6)
        refine ⟨rfl, .inr ⟨_, rfl, ?_⟩⟩
        obtain ⟨y, ey, hy, hyz, hyl⟩ : ∃ y : Str, (∀ b : Bool, True → atI [V.str (Str.ofString ""), .str (Str.ofString "." ++ z2)] (if b then (1 : Int) else 0) = some (.str (if b then Str.ofString "." ++ z2 else Str.ofString ""))) ∧
            (∀ b : Bool, isSpot (z1 ++ (if b then Str.ofString "." ++ z2 else Str.ofString "")) = true) ∧ (∀ b : Bool, okZ (z1 ++ (if b then Str.ofString "." ++ z2 else Str.ofString ""))) ∧
            (∀ b : Bool, z1.length + (if b then Str.ofString "." ++ z2 else Str.ofString "").length ≤ 20) := by
          have e0 : z1 ++ Str.ofString "" = z1 := str_ext ((TL.tl_append _ _).trans (List.append_nil _))
          refine ⟨"", fun b _ => ?_, fun b => ?_, fun b => ?_, fun b => ?_⟩
          · cases b <;> rfl
          · cases b
            · show isSpot (z1 ++ Str.ofString "") = true
              rw [e0]
              exact spot1 hz1
            · exact spot2 hz1 hz2
          · cases b
            · show okZ (z1 ++ Str.ofString "")
              rw [e0]
              exact isNm_okZ hz1
            · exact okZ_append (isNm_okZ hz1) (okZ_append (okZ_dec (by decide +kernel)) (isNm_okZ hz2) (by show 1 + z2.length ≤ 20; omega)) (by show z1.length + (Str.ofString "." ++ z2).length ≤ 20; rw [strLen_append]; show z1.length + (1 + z2.length) ≤ 20; omega)
          · cases b
            · show z1.length + 0 ≤ 20
              omega
            · show z1.length + (Str.ofString "." ++ z2).length ≤ 20
              rw [strLen_append]
              show z1.length + (1 + z2.length) ≤ 20
              omega
        refine ⟨p2, _, _, _, rfl, rfl, .inl (.inl eL), ey _ trivial, z1, _, rfl, rfl, Nat.le_trans (hyl _) (by decide), ?_⟩
        refine ⟨by show 2 ≤ sizeLine; decide, fun p3 np3 => ?_⟩
        refine q (.nm (z1 ++ (if (decide (V.int r4 = V.int 0)) = true then Str.ofString "." ++ z2 else Str.ofString ""))) (n - 1) (t6 + 1) _ _ (fun dd _ => ?_) ?_ (by omega) (by omega) ?_ (dk7.same (same_new np3)) (same_new np3 _ _ er7) ?_
        · simp only [Ex.ok]
          exact ⟨hy _, hyz _⟩
        · show 1 + 7 * (n - 1).toNat ≤ _
          omega
        · exact ((b34.trans ((But3.of b5).trans (.of b6))).trans ((But3.same (same_new np2)).trans (.of b7))).trans (.same (same_new np3))
        · exact .mk upd_same (.cons (.str _) (.cons (.str _) .nil))
    | false =>
      refine iteF ?_
      have hand : ¬ ((left : Int) < 2) ∧ ¬ (n - 1 < 0) := by
        rw [Bool.or_eq_false_iff, Bool.or_eq_false_iff, decide_eq_false_iff_not, decide_eq_false_iff_not] at hcond
        exact ⟨hcond.1, hcond.2.1⟩
      obtain ⟨hleft, hn1⟩ := hand
      refine ⟨by show 11 ≤ sizeLine; decide, fun ps nps => ?_⟩
      have eps : upd H3 ps (.lst (sorts.map V.str)) ps = some (.lst (sorts.map V.str)) := upd_same
      have dkS := dk3.new (o := .lst (sorts.map V.str)) nps
      have erS := same_new (o := .lst (sorts.map V.str)) nps _ _ er3
      have epS := same_new (o := .lst (sorts.map V.str)) nps _ _ ep3
      have bS := b3.trans (.same (same_new (o := .lst (sorts.map V.str)) nps))
      have fps := dk3.free nps
      refine ⟨.ref ps, rfl, .ref d, rfl, d, c, 11, t + 1, rfl, by decide, by decide, dkS, by omega, fun r5 H5 r50 r51 b5 dk5 => ?_⟩
      have eps5 := b5 _ _ fps.1 fps.2 eps
      have er5 := b5 _ _ nrd nrc erS
      have ep5 := b5 _ _ ndp.symm ncp.symm epS
      have bS5 := bS.trans (.of b5)
      obtain ⟨y, ey1, ey2⟩ := atI_lt (xs := sorts.map V.str) r50 r51 rfl
      obtain ⟨wd, hwd, rfl⟩ : ∃ z, sorts[r5.toNat]? = some z ∧ V.str z = y := by
        rw [List.getElem?_map] at ey2
        cases hq : sorts[r5.toNat]? with
        | none =>
          rw [hq] at ey2
          cases ey2
        | some z =>
          rw [hq] at ey2
          exact ⟨z, rfl, Option.some.inj ey2⟩
      have hmem := List.mem_of_getElem? hwd
      have hso := sorts_ok wd hmem
      cases hlow : lowTab.lookup wd with
      | none =>
        rw [hlow] at hso
        cases hso
      | some low =>
        cases hsh : expTab.lookup wd with
        | none =>
          rw [hlow, hsh] at hso
          cases hso
        | some sh =>
          rw [hlow, hsh] at hso
          have hpo : pairOk low sh = true := hso
          have hdg : valV (shKv 7) (Sum.inr wd) = some (.str low) := shapes_get _ (lookup_mem hlow)
          refine ⟨ps, _, r5, .str wd, rfl, rfl, .inl (.inl eps5), ey1, ?_⟩
          refine ⟨.str wd, rfl, by show 1 ≤ sizeLine; decide, fun pf npf => ⟨.int (left : Int), rfl, _, _, rfl, rfl, _, _, rfl, ?_⟩⟩
          have epf : upd H5 pf (.lst [.str wd]) pf = some (.lst [.str wd]) := upd_same
          have dk6 := dk5.new (o := .lst [.str wd]) npf
          have er6 := same_new (o := .lst [.str wd]) npf _ _ er5
          have ep6 := same_new (o := .lst [.str wd]) npf _ _ ep5
          have b6 := bS5.trans (.same (same_new (o := .lst [.str wd]) npf))
          have fpf := dk5.free npf
          have nfr : rm ≠ pf := fun z => by
            rw [← z, er5] at npf
            cases npf
          have nfp : p ≠ pf := fun z => by
            rw [← z, ep5] at npf
            cases npf
          have fpfH : H pf = none := by
            cases hq : H pf with
            | none => rfl
            | some o =>
              have := bS5 pf o fpf.1 fpf.2 nfr.symm hq
              rw [npf] at this
              cases this
          revert epf dk6 er6 ep6 b6
          generalize upd H5 pf (.lst [.str wd]) = H6
          intro epf dk6 er6 ep6 b6
          have g6 : DGet H6 p (.str wd) (some (.str low)) := by
            have := DGet.k (k := Sum.inr wd) ep6
            rw [hdg] at this
            exact this
          refine ⟨.ref p, rfl, .str wd, rfl, p, _, rfl, g6, low, rfl, ?_⟩
          have hsl : sh.cps.toList.length = low.cps.toList.length ∧ sh.cps.toList.length ≤ 3 := by
            unfold pairOk at hpo
            rw [Bool.and_eq_true, Bool.and_eq_true, decide_eq_true_eq, decide_eq_true_eq] at hpo
            exact ⟨hpo.1.1.symm, hpo.1.2⟩
          obtain ⟨l1, hl1⟩ : ∃ l1 : Nat, left = l1 + 1 := ⟨left - 1, by omega⟩
          have pw : 4 ^ left = 4 * 4 ^ l1 := by rw [hl1, Nat.pow_succ]; omega
          have pw4 : 4 ≤ 4 ^ l1 := by
            have := Nat.pow_le_pow_right (show 0 < 4 by decide) (show 1 ≤ l1 by omega)
            omega
          refine for_str (x := low) (fun i σ H' => ∃ (qs : List Pt) (vs : List V) (nn : Int) (tt lf : Nat) (x9 : Option V),
            σ = [some (.ref d), some (.int (left : Int)), some (.ref rm), some (.ref p), some (.int way), some (.str wd), some (.ref ps), some (.ref pf), some (.int (lf : Int)), x9] ∧
            But3 d c rm H H' ∧ Deck H' d c tt ∧ H' rm = some (.lst [.int nn]) ∧ H' pf = some (.lst (.str wd :: vs)) ∧ All2 H' (qs.map ptMade) vs ∧ qs.length = i ∧
            (∀ dd, dd + left ≤ 13 → ∀ (j : Nat) q1 c1, qs[j]? = some q1 → sh.cps.toList[j]? = some c1 → okPt (dd + 1) c1 q1) ∧
            (qs.map ptWords).sum + 7 * nn.toNat ≤ 3 * i + 7 * (n - 1).toNat ∧ 1 ≤ lf ∧ lf + 1 ≤ left ∧ t ≤ tt ∧ tt ≤ t + 2 + i * (40 * 4 ^ l1 + 5)) ?_ ?_ ?_
          · refine ⟨[], [], n - 1, t + 1 + 1, l1, none, ?_, b6, dk6, er6, epf, .nil, rfl, (fun dd _ j q1 c1 e _ => by cases e), ?_, by omega, by omega, by omega, by omega⟩
            · have : (left : Int) - 1 = (l1 : Int) := by omega
              show [some (V.ref d), some (V.int (left : Int)), some (.ref rm), some (.ref p), some (.int way), some (.str wd), some (.ref ps), some (.ref pf), some (V.int ((left : Int) - 1)), none] = _
              rw [this]
            · show 0 + _ ≤ _
              omega
          · rintro i ch σ H' hch ⟨qs, vs, nn, tt, lf, x9, rfl, bb, dkk, err, epp, a2, hql, hok, hws, hl1', hl2', ht1, ht2⟩
            have hi : i < low.cps.toList.length := by
              rcases Nat.lt_or_ge i low.cps.toList.length with h | h
              · exact h
              · rw [List.getElem?_eq_none h] at hch
                cases hch
            obtain ⟨c', hc', hcc⟩ := pair_at hpo hch
            have hlp : 4 ^ lf ≤ 4 ^ l1 := Nat.pow_le_pow_right (by decide) (by omega)
            have hi3 : i ≤ 2 := by omega
            have him : i * (40 * 4 ^ l1 + 5) ≤ 2 * (40 * 4 ^ l1 + 5) := Nat.mul_le_mul_right _ hi3
            refine ⟨.ref pf, rfl, .inl ⟨rfl, _, .inl (.inl epp)⟩, ?_⟩
            refine part_two (L := L) (d := d) (c := c) (rm := rm) (tt := tt) (lf := lf) (B := 40 * 4 ^ l1 + 4) (nn := nn) (ch := ch) (c' := c') (left := left) rfl rfl rfl rfl hl1' (by omega) hl2' dkk (by omega) (by omega) err nrd nrc hcc ?_
            intro q1 nn' t6 H7 v hok1 hw1 ht61 ht62 b7 dk7 er7 tv
            have epf7 := b7 _ _ fpf.1 fpf.2 nfr.symm epp
            have hvl : vs.length = i := by
              rw [← a2.1, List.length_map]
              exact hql
            refine ⟨pf, _, v, rfl, rfl, epf7, ?_, ?_⟩
            · rw [List.length_cons, hvl]
              exact Nat.lt_of_le_of_lt (show i + 1 ≤ 3 by omega) (by decide)
            have dk8 : Deck (upd H7 pf (.lst (.str wd :: vs ++ [v]))) d c t6 := dk7.mut fpf.1.symm fpf.2.symm
            have a28 : All2 (upd H7 pf (.lst (.str wd :: vs ++ [v]))) ((qs ++ [q1]).map ptMade) (vs ++ [v]) := by
              rw [List.map_append]
              exact (All2.snoc (a2.keep (b7.tups dkk err)) tv).keep fun p2 vs2 e5 => by
                rw [upd_ne (fun z => by
                  rw [z, epf7] at e5
                  cases e5)]
                exact e5
            refine ⟨.ref d, rfl, .int (lf : Int), rfl, d, c, lf, t6, rfl, by omega, by omega, dk8, by omega, fun r8 H8 r80 r81 b8 dk9 => ?_⟩
            obtain ⟨k8, rfl⟩ := Int.eq_ofNat_of_zero_le r80
            refine ⟨(k8 : Int), 1, rfl, rfl, ?_⟩
            have er8 : upd H7 pf (.lst (.str wd :: vs ++ [v])) rm = some (.lst [.int nn']) := by
              rw [upd_ne nfr]
              exact er7
            refine ⟨qs ++ [q1], vs ++ [v], nn', t6 + 1, k8 + 1, _, rfl, ((bb.trans b7).mut fpfH).trans (.of b8), dk9, b8 _ _ nrd nrc er8, b8 _ _ fpf.1 fpf.2 upd_same, a28.keep ((But3.of b8).tups dk8 er8), ?_, ?_, ?_, by omega, by omega, by omega, ?_⟩
            · rw [List.length_append, hql]
              rfl
            · intro dd hdd j q2 c1 e1 e2
              rcases Nat.lt_or_ge j qs.length with hj | hj
              · rw [List.getElem?_append_left hj] at e1
                exact hok dd hdd j q2 c1 e1 e2
              · rw [List.getElem?_append_right hj] at e1
                have hj0 : j - qs.length = 0 := by
                  rcases Nat.eq_zero_or_pos (j - qs.length) with h | h
                  · exact h
                  · rw [List.getElem?_eq_none (by rw [List.length_singleton]; omega)] at e1
                    cases e1
                rw [hj0] at e1
                cases e1
                obtain rfl : j = i := by omega
                rw [hc'] at e2
                cases e2
                exact hok1 dd hdd
            · rw [List.map_append, List.sum_append, List.map_cons, List.map_nil, List.sum_cons, List.sum_nil]
              omega
            · rw [Nat.succ_mul]
              omega
          · rintro σ H' ⟨qs, vs, nn, tt, lf, x9, rfl, bb, dkk, err, epp, a2, hql, hok, hws, hl1', hl2', ht1, ht2⟩
            have hsz : low.cps.size ≤ 3 := by
              rw [← Array.length_toList]
              omega
            have him : low.cps.size * (40 * 4 ^ l1 + 5) ≤ 3 * (40 * 4 ^ l1 + 5) := Nat.mul_le_mul_right _ hsz
            refine ⟨.ref pf, rfl, pf, _, rfl, .inl ⟨.inl (.inl epp), fun p9 np9 => ?_⟩⟩
            refine q (.op wd (Ps.of qs)) nn tt _ _ (fun dd hdd => ?_) ?_ (by omega) (by omega) (bb.trans (.same (same_new np9))) (dkk.same (same_new np9)) (same_new np9 _ _ err) ?_
            · rw [Ex.ok]
              exact ⟨sh, hsh, .inl (by omega), Ps.of_ok (by rw [hql, hsl.1, Array.length_toList]) (hok dd hdd)⟩
            · rw [Ex.words, List.length_cons, Ps.of_words]
              omega
            · rw [Ex.made, Ps.of_made]
              exact .mk upd_same (.cons (.str _) (a2.keep (tup_upd np9)))

end
section
variable {P : Program} {w : World} {K : PySem.W.Frag} {mg : Str → Option Value} {base : Heap}
/-! ### the law's hand: rows -/
theorem le_all {f : Addr} {fd : FuncData} (D : DefAt K mg "_law_expression" ["_law_deck_here", "_law_left", "_law_room"] s_l_expression f fd) (M : Bi mg)
    (C_l_draw : Cal P w K mg base L2.CX0 1 "_law_draw" ["_law_deck_here", "_law_sides"] spDraw)
    (C_l_name : Cal P w K mg base L2.CX0 3 "_law_name" ["_law_deck_here"] spName)
    (C_l_shapes : Cal P w K mg base L2.CX0 1 "_law_shapes" [] spShapes)
    (C_l_number : Cal P w K mg base L2.CX0 2 "_law_number" ["_law_deck_here", "_law_kind"] spNumber) :
    ∀ L : Nat, L < 1000000 → Cal P w K mg base L2.CX0 (4 + L) "_law_expression" ["_law_deck_here", "_law_left", "_law_room"] (spLE L)
  | 0, _ => by
    refine cal_of (k := 3) D.fn D.mgf D.bs D.kbs S_l_expression (fun vs H Q E h => ?_) (fun cdv A outer s H vs Q E hq hr h => ?_)
    · obtain ⟨d, c, rm, t, left, n, rfl, _⟩ := h
      rfl
    · obtain ⟨d, c, rm, t, left, n, rfl, h1, h2, _⟩ := h
      omega
  | L + 1, h => ok_le (by omega) D M C_l_draw C_l_name C_l_shapes C_l_number (le_all D M C_l_draw C_l_name C_l_shapes C_l_number L (by omega))
def spLRow : Sp := fun vs H Q _ => ∃ (d c : Addr) (t deep : Nat), vs = [.ref d, .int (deep : Int)] ∧ Deck H d c t ∧ 1 ≤ deep ∧ deep ≤ 12 ∧ t + 700000000 < 100000000000 ∧
  ∀ (r : Rw) (t' : Nat) (H' : Hp) (v : V), r.ok → r.words.length ≤ 300 → t ≤ t' → t' ≤ t + 700000000 → But d c H H' → Deck H' d c t' → TdR H' r.made v → Q v H'
theorem but_fresh {d c rm : Addr} {H H1 H' : Hp} (s : But d c H H1) (n : H rm = none) (b : But3 d c rm H1 H') : But d c H H' := fun a o h1 h2 e => b a o h1 h2 (ne_of_none e n) (s a o h1 h2 e)
theorem but_none {d c p : Addr} {H H' : Hp} (b : But d c H H') (h1 : p ≠ d) (h2 : p ≠ c) (n : H' p = none) : H p = none := by
  cases hq : H p with
  | none => rfl
  | some o =>
    have := b p o h1 h2 hq
    rw [n] at this
    cases this
theorem but_tups {d c : Addr} {t : Nat} {H H' : Hp} (dk : Deck H d c t) (a : But d c H H') : ∀ p vs, H p = some (.tup vs) → H' p = some (.tup vs) := fun p vs e => by
  obtain ⟨cs, sd, e1, e2, _⟩ := dk.ex
  exact a p _ (fun z => by
    rw [z, e1] at e
    cases e) (fun z => by
    rw [z, e2] at e
    cases e) e
theorem wordsL_len {B : Nat} : ∀ {es : List Ex}, (∀ e ∈ es, e.words.length ≤ B) → (wordsL es).length ≤ B * es.length
  | [], _ => Nat.zero_le _
  | e :: es, h => by
    have h1 := h e List.mem_cons_self
    have h2 := wordsL_len (es := es) fun z hz => h z (List.mem_cons_of_mem _ hz)
    simp only [wordsL, List.length_append, List.length_cons]
    rw [Nat.mul_succ]
    omega
theorem ok_lrow {f : Addr} {fd : FuncData} (D : DefAt K mg "_law_row" ["_law_deck_here", "_law_deep"] s_l_row f fd) (M : Bi mg)
    (C_l_draw : Cal P w K mg base L2.CX0 1 "_law_draw" ["_law_deck_here", "_law_sides"] spDraw)
    (C_l_name : Cal P w K mg base L2.CX0 3 "_law_name" ["_law_deck_here"] spName)
    (C_l_number : Cal P w K mg base L2.CX0 2 "_law_number" ["_law_deck_here", "_law_kind"] spNumber)
    (C_l_expression : Cal P w K mg base L2.CX0 16 "_law_expression" ["_law_deck_here", "_law_left", "_law_room"] (spLE 12)) :
    Cal P w K mg base L2.CX0 17 "_law_row" ["_law_deck_here", "_law_deep"] spLRow := by
  have S := S_l_row
  refine cal_of D.fn D.mgf D.bs D.kbs S (fun vs H Q E h => ?_) (fun cdv A outer s H vs Q E hq hr h => ?_)
  · obtain ⟨d, c, t, deep, rfl, _⟩ := h
    rfl
  · obtain ⟨d, c, t, deep, rfl, dk, hd1, hd2, ht, q⟩ := h
    refine ⟨_, (pss_cons (ps_set (i := 2) S.nd rfl (.inl rfl) (pe_c C_l_draw pass0 hq hr (by omega) (by rfl) (pa_cons (pv 0) (pa_cons pe_int pa_nil))))
 (pss_cons (ps_par (i := 3) (j := 4) rfl S.nd rfl rfl (by decide) rfl rfl (pa_cons (pe_c C_l_name pass0 hq hr (by omega) (by rfl) (pa_cons (pv 0) pa_nil)) (pa_cons (pe_c C_l_name pass0 hq hr (by omega) (by rfl) (pa_cons (pv 0) pa_nil)) pa_nil)) (by rfl))
 (pss_cons (ps_par (i := 5) (j := 6) rfl S.nd rfl rfl (by decide) rfl rfl (pa_cons (pe_c C_l_number pass0 hq hr (by omega) (by rfl) (pa_cons (pv 0) (pa_cons pe_str pa_nil))) (pa_cons (pe_c C_l_number pass0 hq hr (by omega) (by rfl) (pa_cons (pv 0) (pa_cons pe_str pa_nil))) pa_nil)) (by rfl))
 (pss_cons (ps_if (pt_cmpR op_eq (pv 2) pe_int (nomark _))
  (pss_one (ps_ret (pe_tup (pa_cons pe_str (pa_cons (pv 3) pa_nil)))))
  pss_nil)
 (pss_cons (ps_if (pt_cmpR op_eq (pv 2) pe_int (nomark _))
  (pss_one (ps_ret (pe_tup (pa_cons pe_str (pa_cons (pv 3) (pa_cons (pv 5) (pa_cons (pv 4) pa_nil)))))))
  pss_nil)
 (pss_cons (ps_if (pt_cmpR op_eq (pv 2) pe_int (nomark _))
  (pss_one (ps_ret (pe_tup (pa_cons pe_str (pa_cons (pv 3) (pa_cons (pv 4) (pa_cons (pv 6) (pa_cons (pe_tup (pa_cons pe_str (pa_cons (pe_c C_l_name pass0 hq hr (by omega) (by rfl) (pa_cons (pv 0) pa_nil)) pa_nil))) pa_nil))))))))
  pss_nil)
 (pss_cons (ps_if (pt_cmpR op_lt (pv 2) pe_int (nomark _))
  (pss_cons (ps_set (i := 7) S.nd rfl (.inl rfl) (pe_callTy call_tuple_of (by rfl) M.tuple_ (by decide +kernel) (pa_cons (pe_lc (own := [("_law_k", 8)]) (g := gName 8) (tt := tYes) rfl S.nd (pi_range1 (by rfl) M.range_ (pa_cons (pe_c C_l_draw pass0 hq hr (by omega) (by rfl) (pa_cons (pv 0) (pa_cons pe_int pa_nil))) pa_nil)) (blkOk_by (own := [("_law_k", 8)]) (N := N_l_row) (sc := defScope s_l_row) (by decide +kernel)) (fun _ _ _ _ _ => pg_name (i := 8) S.nd rfl (.inl rfl)) (fun _ _ _ _ _ => pts_nil) (fun _ _ _ _ _ => (pe_c C_l_name pass0 hq hr (by omega) (by rfl) (pa_cons (pv 0) pa_nil)))) pa_nil)))
 (pss_one (ps_ret (pe_tup (pa_cons pe_str (pa_cons (pv 3) (pa_cons (pv 4) (pa_cons (pv 7) (pa_cons (pe_callTy call_tuple_of (by rfl) M.tuple_ (by decide +kernel) (pa_cons (pe_lc (own := [("_law_k", 8)]) (g := gName 8) (tt := tYes) rfl S.nd (pi_range1 (by rfl) M.range_ (pa_cons (pe_c C_l_draw pass0 hq hr (by omega) (by rfl) (pa_cons (pv 0) (pa_cons pe_int pa_nil))) pa_nil)) (blkOk_by (own := [("_law_k", 8)]) (N := N_l_row) (sc := defScope s_l_row) (by decide +kernel)) (fun _ _ _ _ _ => pg_name (i := 8) S.nd rfl (.inl rfl)) (fun _ _ _ _ _ => pts_nil) (fun _ _ _ _ _ => (pe_c C_l_expression pass0 hq hr (by omega) (by rfl) (pa_cons (pv 0) (pa_cons pe_int (pa_cons (pe_lst (pa_cons pe_int pa_nil)) pa_nil)))))) pa_nil)) pa_nil)))))))))
  pss_nil)
 (pss_cons (ps_set (i := 9) S.nd rfl (.inl rfl) (pe_c C_l_expression pass0 hq hr (by omega) (by rfl) (pa_cons (pv 0) (pa_cons (pv 1) (pa_cons (pe_lst (pa_cons pe_int pa_nil)) pa_nil)))))
 (pss_one (ps_ret (pe_ix ix_list (pe_lst (pa_cons (pe_tup (pa_cons pe_str (pa_cons (pv 3) (pa_cons (pv 5) (pa_cons (pv 4) (pa_cons (pv 9) pa_nil)))))) (pa_cons (pe_tup (pa_cons pe_str (pa_cons (pv 3) (pa_cons (pv 5) (pa_cons (pv 9) pa_nil))))) (pa_cons (pe_tup (pa_cons pe_str (pa_cons (pv 3) (pa_cons (pv 5) (pa_cons (pv 4) (pa_cons (pv 6) (pa_cons (pv 9) pa_nil))))))) pa_nil)))) (pe_op op_sub (pv 2) pe_int) (fun _ _ => rfl)))))))))))), ?_⟩
    refine ⟨.ref d, rfl, d, c, 8, t, rfl, by decide, by decide, dk, by omega, fun way H1 w0 w1 b1 dk1 => ?_⟩
    refine ⟨.ref d, rfl, d, c, t + 1, rfl, dk1, by omega, fun x t2 H2 hx ht2 ht2' b2 dk2 => ?_⟩
    refine ⟨.ref d, rfl, d, c, t2, rfl, dk2, by omega, fun ck t3 H3 hck ht3 ht3' b3 dk3 => ?_⟩
    refine ⟨_, _, rfl, ?_⟩
    refine ⟨.ref d, rfl, d, c, t3, "w", rfl, dk3, by omega, fun bd t4 H4 hbd hbd2 ht4 ht4' b4 dk4 => ?_⟩
    refine ⟨.ref d, rfl, d, c, t4, "k", rfl, dk4, by omega, fun nu t5 H5 _ hnu ht5 ht5' b5 dk5 => ?_⟩
    refine ⟨_, _, rfl, ?_⟩
    have hbw := hbd rfl
    have B5 : But d c H H5 := (((b1.trans b2).trans b3).trans b4).trans b5
    refine ⟨.int way, rfl, rfl, _, rfl, ite2 (fun _ => ?_) (fun hw0 => ?_)⟩
    · refine ⟨.str x, rfl, by show 2 ≤ sizeLine; decide, fun p np => ?_⟩
      refine q (.row "clock" (.str x .nil)) t5 _ _ ⟨"X", rfl, ?_⟩ (by simp [Rw.words, Ps.words]) (by omega) (by omega) (B5.same (same_new np)) (dk5.same (same_new np)) (.mk upd_same (.cons (.str _) (.cons (.str _) .nil)))
      exact ⟨88, [], rfl, rfl, hx, isNm_okZ hx, rfl⟩
    refine ⟨.int way, rfl, rfl, _, rfl, ite2 (fun _ => ?_) (fun hw1 => ?_)⟩
    · refine ⟨.str x, rfl, .int (bd : Int), rfl, .str ck, rfl, by show 4 ≤ sizeLine; decide, fun p np => ?_⟩
      refine q (.row "in" (.str x (.int bd (.str ck .nil)))) t5 _ _ ⟨"XWX", rfl, ?_⟩ (by simp [Rw.words, Ps.words]) (by omega) (by omega) (B5.same (same_new np)) (dk5.same (same_new np)) (.mk upd_same (.cons (.str _) (.cons (.str _) (.cons (.int _) (.cons (.str _) .nil)))))
      exact ⟨88, _, rfl, rfl, hx, isNm_okZ hx, 87, _, rfl, .inl ⟨rfl, hbw⟩, 88, _, rfl, rfl, hck, isNm_okZ hck, rfl⟩
    refine ⟨.int way, rfl, rfl, _, rfl, ite2 (fun _ => ?_) (fun hw2 => ?_)⟩
    · refine ⟨.str x, rfl, .str ck, rfl, .int (nu : Int), rfl, .ref d, rfl, d, c, t5, rfl, dk5, by omega, fun z t6 H6 hz ht6 ht6' b6 dk6 => ?_⟩
      refine ⟨by show 2 ≤ sizeLine; decide, fun p1 np1 => ⟨by show 5 ≤ sizeLine; decide, fun p np => ?_⟩⟩
      refine q (.row "cross" (.str x (.str ck (.int nu (.ex (.nm z) .nil))))) t6 _ _ ⟨"XXKA", rfl, ?_⟩ (by simp [Rw.words, Ps.words, Ex.words]) (by omega) (by omega) (((B5.trans b6).same (same_new np1)).same (same_new np)) ((dk6.same (same_new np1)).same (same_new np))
        (.mk upd_same (.cons (.str _) (.cons (.str _) (.cons (.str _) (.cons (.int _) (.cons (.mk (tup_upd np _ _ upd_same) (.cons (.str _) (.cons (.str _) .nil))) .nil))))))
      exact ⟨88, _, rfl, rfl, hx, isNm_okZ hx, 88, _, rfl, rfl, hck, isNm_okZ hck, 75, _, rfl, .inr ⟨rfl, hnu⟩, 65, _, rfl, .inr ⟨rfl, by decide, z, rfl, hz, isNm_okZ hz⟩, rfl⟩
    refine ⟨.int way, rfl, _, _, rfl, rfl, _, rfl, ite2 (fun _ => ?_) (fun hw5 => ?_)⟩
    · -- a use
      refine ⟨.ref d, rfl, d, c, 5, t5, rfl, by decide, by decide, dk5, by omega, fun m H6 m0 m1 b6 dk6 => ⟨m, rfl, by omega, by omega, fun D1 nD1 => ?_⟩⟩
      have fD1 := dk6.free nD1
      refine lc_range (fun i H' => ∃ (tt : Nat) (cs : List Str), But d c H6 H' ∧ Deck H' d c tt ∧ t5 ≤ tt ∧ tt ≤ t5 + 1 + 12 * i ∧ H' D1 = some (.lst (cs.map V.str)) ∧ cs.length = i ∧ ∀ z ∈ cs, okN z) ?_ ?_ ?_
      · exact ⟨t5 + 1, [], .of (same_new nD1), dk6.new nD1, by omega, by omega, upd_same, rfl, fun z hz => by cases hz⟩
      · rintro i H' hi ⟨tt, cs, bb, dkk, h1, h2, eD, hl, hcs⟩
        refine ⟨rfl, ?_⟩
        unfold tYes
        refine iteT ⟨.ref d, rfl, d, c, tt, rfl, dkk, by omega, fun z t7 H7 hz ht7 ht7' b7 dk7 => ?_⟩
        have eD7 := b7 _ _ fD1.1 fD1.2 eD
        refine ⟨_, eD7, ?_, t7, cs ++ [z], (bb.trans b7).mut nD1, dk7.mut fD1.1.symm fD1.2.symm, by omega, by omega, ?_, by rw [List.length_append, hl]; rfl, ?_⟩
        · rw [List.length_map, hl]
          exact Nat.lt_of_lt_of_le (show i < 5 by omega) (by decide)
        · rw [upd_same, List.map_append]
          rfl
        · intro y hy
          rcases List.mem_append.mp hy with h | h
          · exact hcs y h
          · rw [List.mem_singleton.mp h]
            exact okN_of hz
      · rintro H7 ⟨t7, cs, b7, dk7, h71, h72, eD, hcl, hcs⟩
        have hm4 : m.toNat ≤ 4 := by omega
        refine ⟨D1, _, rfl, .inl ⟨.inl (.inl eD), fun pc npc => ?_⟩⟩
        have epc : upd H7 pc (.tup (cs.map V.str)) pc = some (.tup (cs.map V.str)) := upd_same
        have dk8 := dk7.new (o := .tup (cs.map V.str)) npc
        have b8 : But d c H (upd H7 pc (.tup (cs.map V.str))) := ((B5.trans b6).trans b7).same (same_new npc)
        revert epc dk8 b8
        generalize upd H7 pc (.tup (cs.map V.str)) = H8
        intro epc dk8 b8
        refine ⟨.str x, rfl, .str ck, rfl, .ref pc, rfl, .ref d, rfl, d, c, 7, t7, rfl, by decide, by decide, dk8, by omega, fun m2 H9 m20 m21 b9 dk9 => ⟨m2, rfl, by omega, by omega, fun D2 nD2 => ?_⟩⟩
        have fD2 := dk9.free nD2
        refine lc_range (fun i H' => ∃ (tt : Nat) (es : List Ex) (vs : List V), But d c H9 H' ∧ Deck H' d c tt ∧ t7 ≤ tt ∧ tt ≤ t7 + 1 + 2560 * i ∧ H' D2 = some (.lst vs) ∧ All2 H' (es.map Ex.made) vs ∧ es.length = i ∧ ∀ e ∈ es, e.ok 1 ∧ e.words.length ≤ 31) ?_ ?_ ?_
        · exact ⟨t7 + 1, [], [], .of (same_new nD2), dk9.new nD2, by omega, by omega, upd_same, .nil, rfl, fun z hz => by cases hz⟩
        · rintro i H' hi ⟨tt, es, vs, bb, dkk, h1, h2, eD2, a2, hl, hes⟩
          refine ⟨rfl, ?_⟩
          unfold tYes
          refine iteT ⟨.ref d, rfl, by show 1 ≤ sizeLine; decide, fun rm nrm => ?_⟩
          have frm := dkk.free nrm
          have nDr : D2 ≠ rm := fun z => by
            rw [z, nrm] at eD2
            cases eD2
          have dkm := dkk.new (o := .lst [.int 4]) nrm
          have erm : upd H' rm (.lst [.int 4]) rm = some (.lst [.int 4]) := upd_same
          refine ⟨d, c, rm, tt, 3, 4, rfl, by decide, by decide, dkm, by omega, erm, frm.1, frm.2, fun e n' t9 H10 v hok hw ht91 ht92 b10 dk10 er10 tv => ?_⟩
          have eD10 := b10 _ _ fD2.1 fD2.2 nDr (same_new (o := .lst [.int 4]) nrm _ _ eD2)
          have hvl : vs.length = i := by
            rw [← a2.1, List.length_map]
            exact hl
          refine ⟨vs, eD10, ?_, t9, es ++ [e], vs ++ [v], (but_fresh (H1 := upd H' rm (.lst [.int 4])) (bb.same (same_new nrm)) (but_none bb frm.1 frm.2 nrm) b10).mut nD2, dk10.mut fD2.1.symm fD2.2.symm, by omega, by omega, upd_same, ?_, by rw [List.length_append, hl]; rfl, ?_⟩
          · rw [hvl]
            exact Nat.lt_of_lt_of_le (show i < 7 by omega) (by decide)
          · rw [List.map_append]
            exact (All2.snoc ((a2.keep (tup_upd nrm)).keep (b10.tups dkm erm)) tv).keep fun p2 vs2 e5 => by
              rw [upd_ne (fun z => by
                rw [z, eD10] at e5
                cases e5)]
              exact e5
          · intro y hy
            rcases List.mem_append.mp hy with h | h
            · exact hes y h
            · rw [List.mem_singleton.mp h]
              exact ⟨hok 1 (by omega), by omega⟩
        · rintro H10 ⟨t10, es, vs, b10, dk10, h1, h2, eD2, a2, hl, hes⟩
          refine ⟨D2, vs, rfl, .inl ⟨.inl (.inl eD2), fun p1 np1 => ⟨by show 5 ≤ sizeLine; decide, fun p np => ?_⟩⟩⟩
          have epc10 := but_tups dk8 (b9.trans b10) _ _ epc
          have hwl := wordsL_len (es := es) (B := 31) fun e he => (hes e he).2
          refine q (.use x ck cs es) t10 _ _ ⟨okN_of hx, okN_of hck, by omega, hcs, by omega, fun e he => (hes e he).1⟩ ?_ (by omega) (by omega) ((((b8.trans b9).trans b10).same (same_new np1)).same (same_new np)) ((dk10.same (same_new np1)).same (same_new np)) ?_
          · simp only [Rw.words, List.length_cons, List.length_append]
            have : es.length ≤ 6 := by omega
            have : 31 * es.length ≤ 31 * 6 := Nat.mul_le_mul_left _ this
            omega
          · refine .mk upd_same (.cons (.str _) (.cons (.str _) (.cons (.str _) (.cons (.mk (tup_upd np _ _ (tup_upd np1 _ _ epc10)) ?_) (.cons (.mk (tup_upd np _ _ upd_same) ((a2.keep (tup_upd np1)).keep (tup_upd np))) .nil)))))
            exact all2_map _ fun z => .str z
    · have hway : way = 5 ∨ way = 6 ∨ way = 7 := by
        have : ¬ way < 5 := fun h => hw5 (decide_eq_true h)
        omega
      refine ⟨.ref d, rfl, .int (deep : Int), rfl, by show 1 ≤ sizeLine; decide, fun rm nrm => ?_⟩
      have frm := dk5.free nrm
      have dkm := dk5.new (o := .lst [.int 16]) nrm
      have erm : upd H5 rm (.lst [.int 16]) rm = some (.lst [.int 16]) := upd_same
      have hpw : 4 ^ deep ≤ 16777216 := Nat.pow_le_pow_right (n := 4) (by decide) hd2
      refine ⟨d, c, rm, t5, deep, 16, rfl, hd1, hd2, dkm, by omega, erm, frm.1, frm.2, fun e n' t6 H6 v hok hw ht61 ht62 b6 dk6 er6 tv => ?_⟩
      have B6 : But d c H H6 := but_fresh (B5.same (same_new nrm)) (but_none B5 frm.1 frm.2 nrm) b6
      have ok1 := hok 1 (by omega)
      have hwd : e.words.length ≤ 115 := by omega
      refine ⟨.str x, rfl, .int (bd : Int), rfl, .str ck, rfl, v, rfl, by show 5 ≤ sizeLine; decide, fun p1 np1 => ?_⟩
      refine ⟨.str x, rfl, .int (bd : Int), rfl, v, rfl, by show 4 ≤ sizeLine; decide, fun p2 np2 => ?_⟩
      refine ⟨.str x, rfl, .int (bd : Int), rfl, .str ck, rfl, .int (nu : Int), rfl, v, rfl, by show 6 ≤ sizeLine; decide, fun p3 np3 => ?_⟩
      refine ⟨by show 3 ≤ sizeLine; decide, fun pl npl => ⟨.int way, rfl, _, _, rfl, rfl, ?_⟩⟩
      have ep1 : (upd (upd (upd (upd H6 p1 (.tup [.str "out", .str x, .int (bd : Int), .str ck, v])) p2 (.tup [.str "wire", .str x, .int (bd : Int), v])) p3 (.tup [.str "box", .str x, .int (bd : Int), .str ck, .int (nu : Int), v])) pl (.lst [.ref p1, .ref p2, .ref p3])) p1 = some (.tup [.str "out", .str x, .int (bd : Int), .str ck, v]) :=
        same_new npl _ _ (same_new np3 _ _ (same_new np2 _ _ upd_same))
      have ep2 : (upd (upd (upd (upd H6 p1 (.tup [.str "out", .str x, .int (bd : Int), .str ck, v])) p2 (.tup [.str "wire", .str x, .int (bd : Int), v])) p3 (.tup [.str "box", .str x, .int (bd : Int), .str ck, .int (nu : Int), v])) pl (.lst [.ref p1, .ref p2, .ref p3])) p2 = some (.tup [.str "wire", .str x, .int (bd : Int), v]) :=
        same_new npl _ _ (same_new np3 _ _ upd_same)
      have ep3 : (upd (upd (upd (upd H6 p1 (.tup [.str "out", .str x, .int (bd : Int), .str ck, v])) p2 (.tup [.str "wire", .str x, .int (bd : Int), v])) p3 (.tup [.str "box", .str x, .int (bd : Int), .str ck, .int (nu : Int), v])) pl (.lst [.ref p1, .ref p2, .ref p3])) p3 = some (.tup [.str "box", .str x, .int (bd : Int), .str ck, .int (nu : Int), v]) :=
        same_new npl _ _ upd_same
      have sF : Same H6 (upd (upd (upd (upd H6 p1 (.tup [.str "out", .str x, .int (bd : Int), .str ck, v])) p2 (.tup [.str "wire", .str x, .int (bd : Int), v])) p3 (.tup [.str "box", .str x, .int (bd : Int), .str ck, .int (nu : Int), v])) pl (.lst [.ref p1, .ref p2, .ref p3])) :=
        (((same_new np1).trans (same_new np2)).trans (same_new np3)).trans (same_new npl)
      have tvF := tv.keep fun p vs e => sF p _ e
      refine ⟨pl, [.ref p1, .ref p2, .ref p3], way - 5, ?_⟩
      rcases hway with rfl | rfl | rfl
      · refine ⟨.ref p1, rfl, rfl, .inl (.inl upd_same), rfl, ?_⟩
        refine q (.row "out" (.str x (.int bd (.str ck (.ex e .nil))))) t6 _ _ ⟨"XWXE", rfl, ?_⟩ (by simp only [Rw.words, Ps.words, List.length_cons, List.append_nil]; omega) (by omega) (by omega) (B6.same sF) (dk6.same sF) (.mk ep1 (.cons (.str _) (.cons (.str _) (.cons (.int _) (.cons (.str _) (.cons tvF .nil))))))
        exact ⟨88, _, rfl, rfl, hx, isNm_okZ hx, 87, _, rfl, .inl ⟨rfl, hbw⟩, 88, _, rfl, rfl, hck, isNm_okZ hck, 69, _, rfl, .inl ⟨rfl, by decide, ok1⟩, rfl⟩
      · refine ⟨.ref p2, rfl, rfl, .inl (.inl upd_same), rfl, ?_⟩
        refine q (.row "wire" (.str x (.int bd (.ex e .nil)))) t6 _ _ ⟨"XWE", rfl, ?_⟩ (by simp only [Rw.words, Ps.words, List.length_cons, List.append_nil]; omega) (by omega) (by omega) (B6.same sF) (dk6.same sF) (.mk ep2 (.cons (.str _) (.cons (.str _) (.cons (.int _) (.cons tvF .nil)))))
        exact ⟨88, _, rfl, rfl, hx, isNm_okZ hx, 87, _, rfl, .inl ⟨rfl, hbw⟩, 69, _, rfl, .inl ⟨rfl, by decide, ok1⟩, rfl⟩
      · refine ⟨.ref p3, rfl, rfl, .inl (.inl upd_same), rfl, ?_⟩
        refine q (.row "box" (.str x (.int bd (.str ck (.int nu (.ex e .nil)))))) t6 _ _ ⟨"XWXKE", rfl, ?_⟩ (by simp only [Rw.words, Ps.words, List.length_cons, List.append_nil]; omega) (by omega) (by omega) (B6.same sF) (dk6.same sF) (.mk ep3 (.cons (.str _) (.cons (.str _) (.cons (.int _) (.cons (.str _) (.cons (.int _) (.cons tvF .nil)))))))
        exact ⟨88, _, rfl, rfl, hx, isNm_okZ hx, 87, _, rfl, .inl ⟨rfl, hbw⟩, 88, _, rfl, rfl, hck, isNm_okZ hck, 75, _, rfl, .inr ⟨rfl, hnu⟩, 69, _, rfl, .inl ⟨rfl, by decide, ok1⟩, rfl⟩

end
section
variable {P : Program} {w : World} {K : PySem.W.Frag} {mg : Str → Option Value} {base : Heap}
/-! ### the law's hand: laid out -/
def rStrIS : List V → Hp → VK → Prop := fun xs H Q => (∃ i, xs = [.int i] ∧ i.natAbs.log2 < 1920 ∧ Q (.str (Str.ofString (toString i))) H) ∨ ∃ z, xs = [.str z] ∧ Q (.str z) H
theorem call_strIS {X : Cx} : CallR X (.type "str") rStrIS := by
  intro pins s σ H xs us Q I r h
  rcases h with ⟨i, rfl, hz, q⟩ | ⟨z, rfl, q⟩
  · exact call_str_int pins s σ H _ us Q I r ⟨i, rfl, hz, q⟩
  · obtain ⟨u, rfl, ru⟩ := vals1 r
    obtain ⟨t, rfl⟩ := ru
    exact P.str_of_str ⟨.str z, H, I, ⟨t, rfl⟩, q⟩
theorem TdR.inv_tup {H : Hp} {ts : List Td} {v : V} (h : TdR H (.tup ts) v) : ∃ a vs, v = .ref a ∧ H a = some (.tup vs) ∧ All2 H ts vs := by
  cases h with
  | tup e hl ha => exact ⟨_, _, rfl, e, hl, ha⟩
theorem TdR.inv_str {H : Hp} {z : Str} {v : V} (h : TdR H (.str z) v) : v = .str z := by
  cases h
  rfl
theorem TdR.inv_int {H : Hp} {i : Int} {v : V} (h : TdR H (.int i) v) : v = .int i := by
  cases h
  rfl
theorem All2.inv_cons {H : Hp} {t : Td} {ts : List Td} {vs : List V} (h : All2 H (t :: ts) vs) : ∃ v vs', vs = v :: vs' ∧ TdR H t v ∧ All2 H ts vs' := by
  cases vs with
  | nil => exact absurd h.1 (by simp)
  | cons v vs => exact ⟨v, vs, rfl, h.2 0 _ _ rfl rfl, Nat.succ.inj h.1, fun i x u h1 h2 => h.2 (i + 1) x u h1 h2⟩
theorem All2.inv_nil {H : Hp} {vs : List V} (h : All2 H [] vs) : vs = [] := by
  cases vs with
  | nil => rfl
  | cons v vs => exact absurd h.1 (by simp)
theorem All2.same {H H' : Hp} {ts : List Td} {vs : List V} (h : All2 H ts vs) (s : Same H H') : All2 H' ts vs := h.keep fun p vs e => s p _ e
theorem TdR.same {H H' : Hp} {t : Td} {v : V} (h : TdR H t v) (s : Same H H') : TdR H' t v := h.keep fun p vs e => s p _ e
theorem Ps.made_words : ∀ p : Ps, p.made.length ≤ p.words.length
  | .nil => Nat.le_refl _
  | .int i r => by
    have := r.made_words
    simp only [Ps.made, Ps.words, List.length_cons]
    omega
  | .str i r => by
    have := r.made_words
    simp only [Ps.made, Ps.words, List.length_cons]
    omega
  | .ex e r => by
    have := r.made_words
    have h1 : 1 ≤ e.words.length := by cases e <;> simp [Ex.words]
    simp only [Ps.made, Ps.words, List.length_cons, List.length_append]
    omega
def spLO (n : Nat) : Sp := fun vs H Q _ => ∃ (v : V) (row : Int) (k : Nat) (e : Ex) (d : Nat), vs = [v, .int row, .int (k : Int)] ∧ TdR H e.made v ∧ e.ok d ∧ d ≤ 12 ∧ 14 ≤ d + n ∧ e.words.length ≤ 1000 ∧
  ∀ (p pw : Addr) (vh : V) (H' : Hp), Same H H' → H p = none → H pw = none → H' p = some (.tup [.ref pw, vh]) → H' pw = some (.lst (e.words.map V.str)) → TdR H' (e.heard row k) vh → Q (.ref p) H'
theorem atI_zero {v : V} {vs : List V} : atI (v :: vs) 0 = some v := atI_nat (xs := v :: vs) (j := 0) rfl
theorem expTab_name : ∀ e ∈ expTab, e.1 ≠ Str.ofString "name" := by decide +kernel
theorem expTab_let : ∀ e ∈ expTab, ∀ c ∈ e.2.cps.toList, c ≠ 65 ∧ c ≠ 88 := by decide +kernel
inductive Pq
  | int (m : Nat)
  | str (z : Str)
  | ex (e : Ex)
def Pq.made : Pq → Td
  | .int m => .int (m : Int)
  | .str z => .str z
  | .ex e => e.made
def Pq.words : Pq → List Str
  | .int m => [strN m]
  | .str z => [z]
  | .ex e => e.words
def Pq.heard (row : Int) : Pq → Nat → Td
  | .int m, _ => .int (m : Int)
  | .str z, _ => .str z
  | .ex e, k => e.heard row k
def Ps.put : Pq → Ps → Ps
  | .int m, r => .int m r
  | .str z, r => .str z r
  | .ex e, r => .ex e r
theorem Ps.put_made (q : Pq) (r : Ps) : (Ps.put q r).made = q.made :: r.made := by cases q <;> simp [Ps.put, Ps.made, Pq.made]
theorem Ps.put_words (q : Pq) (r : Ps) : (Ps.put q r).words = q.words ++ r.words := by cases q <;> simp [Ps.put, Ps.words, Pq.words]
theorem Ps.put_heard (row : Int) (q : Pq) (r : Ps) (k : Nat) : (Ps.put q r).heard row k = q.heard row k :: r.heard row (k + q.words.length) := by cases q <;> simp [Ps.put, Ps.heard, Pq.heard, Pq.words]
theorem Ps.cases2 (p : Ps) : p = .nil ∨ ∃ q r, p = Ps.put q r := by
  cases p with
  | nil => exact .inl rfl
  | int m r => exact .inr ⟨.int m, r, rfl⟩
  | str z r => exact .inr ⟨.str z, r, rfl⟩
  | ex e r => exact .inr ⟨.ex e, r, rfl⟩
theorem Ps.put_ok {q : Pq} {r : Ps} {d : Nat} {cs : List Nat} (h : (Ps.put q r).ok d cs) (hl : ∀ c ∈ cs, c ≠ 65 ∧ c ≠ 88) :
    ((∃ m, m ≤ 65535 ∧ q = .int m) ∨ ∃ e, q = .ex e ∧ d ≤ 12 ∧ e.ok d) ∧ ∃ cs', r.ok d cs' ∧ ∀ c ∈ cs', c ≠ 65 ∧ c ≠ 88 := by
  cases q with
  | int m =>
    obtain ⟨c, cs', rfl, hc, hr⟩ := h
    exact ⟨.inl ⟨m, by omega, rfl⟩, cs', hr, fun c hc => hl c (List.mem_cons_of_mem _ hc)⟩
  | str z =>
    obtain ⟨c, cs', rfl, rfl, _⟩ := h
    exact absurd rfl (hl 88 List.mem_cons_self).2
  | ex e =>
    obtain ⟨c, cs', rfl, hc, hr⟩ := h
    rcases hc with ⟨_, h1, h2⟩ | ⟨rfl, _⟩
    · exact ⟨.inr ⟨e, rfl, h1, h2⟩, cs', hr, fun c hc => hl c (List.mem_cons_of_mem _ hc)⟩
    · exact absurd rfl (hl 65 List.mem_cons_self).1
theorem cut1 {v : V} {vs : List V} : cutV (v :: vs) (some 1) none = vs := by
  have h : HT.sIx (v :: vs).length 0 (some 1) = 1 := by
    show min 1 (vs.length + 1) = 1
    omega
  have h2 : HT.sIx (v :: vs).length (v :: vs).length none = vs.length + 1 := rfl
  unfold cutV
  rw [h, h2]
  exact List.take_of_length_le (by show vs.length ≤ _; omega)
theorem cut1_not {v : V} {vs : List V} : ¬(HT.sIx (v :: vs).length 0 (some 1) = 0 ∧ HT.sIx (v :: vs).length (v :: vs).length none = (v :: vs).length) := by
  have h : HT.sIx (v :: vs).length 0 (some 1) = 1 := by
    show min 1 (vs.length + 1) = 1
    omega
  rw [h]
  exact fun z => absurd z.1 (by decide)
theorem log_small {m : Nat} (h : m ≤ 65535) : ((m : Nat) : Int).natAbs.log2 < 1920 := by
  have h2 : ((m : Nat) : Int).natAbs < 2 ^ 24 := by omega
  rcases Nat.eq_zero_or_pos ((m : Nat) : Int).natAbs with e | e
  · rw [e]
    decide
  · have := (Nat.log2_lt (Nat.ne_of_gt e)).mpr h2
    omega
theorem lo_two {n : Nat} {q1 : Pq} {x : V} {row : Int} {k : Nat} {tv tcall tstr : TE} {σ : L2.St} {H : Hp} {Q0 : VK} (tx : TdR H q1.made x)
    (hv : ∀ H' Q', Q' x H' → tv σ H' Q')
    (hs : (∀ e, q1 ≠ .ex e) → ∀ Q' : VK, Q' (.str (q1.words.headD "")) H → tstr σ H Q')
    (hc : ∀ e, q1 = .ex e → ∀ Q' : VK, spLO n [x, .int row, .int (k : Int)] H Q' E0 → tcall σ H Q')
    (hok : ∀ e, q1 = .ex e → ∃ d', e.ok d' ∧ d' ≤ 12 ∧ 14 ≤ d' + n ∧ e.words.length ≤ 1000)
    (hstep : ∀ (pr pw2 : Addr) (vh : V) (H2 : Hp), Same H H2 → H2 pr = some (.tup [.ref pw2, vh]) → H2 pw2 = some (.lst (q1.words.map V.str)) → TdR H2 (q1.heard row k) vh → Q0 (.ref pr) H2) :
    tIf (tB (tCB (rIsi K) (tCons tv (tCons (tC (V.ty "tuple")) tNil)))) tcall (tTup (tCons (tLst (tCons tstr tNil)) (tCons tv tNil))) σ H Q0 := by
  cases q1 with
  | int m =>
    obtain rfl := tx.inv_int
    refine hv _ _ ⟨_, _, _, _, _, rfl, .ty "tuple", .base (.int _), (show PySem.W.kitOne K (.type "int") (.type "tuple") = some false from kit_ty (by decide +kernel)), ⟨_, rfl, iteF ?_⟩⟩
    refine hs (fun e h => by cases h) _ ⟨by show 1 ≤ sizeLine; decide, fun pw2 np2 => hv _ _ ⟨by show 2 ≤ sizeLine; decide, fun pr npr => ?_⟩⟩
    exact hstep pr pw2 _ _ ((same_new np2).trans (same_new npr)) upd_same (same_new npr _ _ upd_same) (.int _)
  | str z =>
    obtain rfl := tx.inv_str
    refine hv _ _ ⟨_, _, _, _, _, rfl, .ty "tuple", .base (.str _), (show PySem.W.kitOne K (.type "str") (.type "tuple") = some false from kit_ty (by decide +kernel)), ⟨_, rfl, iteF ?_⟩⟩
    refine hs (fun e h => by cases h) _ ⟨by show 1 ≤ sizeLine; decide, fun pw2 np2 => hv _ _ ⟨by show 2 ≤ sizeLine; decide, fun pr npr => ?_⟩⟩
    exact hstep pr pw2 _ _ ((same_new np2).trans (same_new npr)) upd_same (same_new npr _ _ upd_same) (.str _)
  | ex e =>
    have hm : ∃ ts, e.made = .tup ts := by cases e <;> exact ⟨_, by rw [Ex.made]⟩
    obtain ⟨ts, hts⟩ := hm
    have tx2 : TdR H e.made x := tx
    have tx3 := tx2
    rw [hts] at tx3
    obtain ⟨a, vs, rfl, ea, _⟩ := tx3.inv_tup
    obtain ⟨d', o1, o2, o3, o4⟩ := hok e rfl
    refine hv _ _ ⟨_, _, _, _, _, rfl, .ty "tuple", .base (.tup ea), (show PySem.W.kitOne K (.type "tuple") (.type "tuple") = some true from kit_ty (by decide +kernel)), ⟨_, rfl, iteT ?_⟩⟩
    refine hc e rfl _ ⟨_, row, k, e, d', rfl, tx2, o1, o2, o3, o4, fun p pw vh H' s _ _ ep epw tvh => ?_⟩
    exact hstep p pw vh H' s ep epw tvh
theorem ok_lo {n : Nat} {f : Addr} {fd : FuncData} (D : DefAt K mg "_law_laid_out" ["_law_part", "_law_row_here", "_law_at"] s_l_laid_out f fd) (M : Bi mg)
    (C_l_laid_out : Cal P w K mg base L2.CX0 (1 + n) "_law_laid_out" ["_law_part", "_law_row_here", "_law_at"] (spLO n)) :
    Cal P w K mg base L2.CX0 (1 + n + 1) "_law_laid_out" ["_law_part", "_law_row_here", "_law_at"] (spLO (n + 1)) := by
  have S := S_l_laid_out
  refine cal_of D.fn D.mgf D.bs D.kbs S (fun vs H Q E h => ?_) (fun cdv A outer s H vs Q E hq hr h => ?_)
  · obtain ⟨v, row, k, e, d, rfl, _⟩ := h
    rfl
  · obtain ⟨v, row, k, e, d, rfl, tv, ho, hd, hn, hw, q⟩ := h
    refine ⟨_, (pss_cons (ps_if (pt_cmpR op_eq (pe_ix ix_tup (pv 0) pe_int (fun _ _ => rfl)) pe_str (nomark _))
  (pss_one (ps_ret (pe_tup (pa_cons (pe_lst (pa_cons (pe_ix ix_tup (pv 0) pe_int (fun _ _ => rfl)) pa_nil)) (pa_cons (pe_tup (pa_cons pe_str (pa_cons (pe_tup (pa_cons (pv 1) (pa_cons (pv 2) pa_nil))) (pa_cons (pe_ix ix_tup (pv 0) pe_int (fun _ _ => rfl)) pa_nil)))) pa_nil)))))
  pss_nil)
 (pss_cons (ps_par (i := 3) (j := 4) rfl S.nd rfl rfl (by decide) rfl rfl (pa_cons (pe_lst (pa_cons (pe_ix ix_tup (pv 0) pe_int (fun _ _ => rfl)) pa_nil)) (pa_cons (pe_lst (pa_cons (pe_ix ix_tup (pv 0) pe_int (fun _ _ => rfl)) (pa_cons (pe_tup (pa_cons (pv 1) (pa_cons (pv 2) pa_nil))) pa_nil))) pa_nil)) (by rfl))
 (pss_cons (ps_for PassesOwn.never rfl (pi_tup (pe_slice sl_tup (pv 0) (po_some pe_int) po_none)) (pg_name (i := 5) S.nd rfl (.inl rfl))
  (pss_cons (ps_asg (pe_ifExp (pt_val (pe_callB call_isi (by rfl) M.isinstance_ (by decide +kernel) (pa_cons (pv 5) (pa_cons (pe_bltn (v := .ty "tuple") (u := .type "tuple") (by rfl) M.tuple_ (by decide +kernel) rfl) pa_nil)))) (pe_c C_l_laid_out pass0 hq hr (by omega) (by rfl) (pa_cons (pv 5) (pa_cons (pv 1) (pa_cons (pe_op op_add (pv 2) (pe_callB call_len_seq (by rfl) M.len_ (by decide +kernel) (pa_cons (pv 3) pa_nil))) pa_nil)))) (pe_tup (pa_cons (pe_lst (pa_cons (pe_callTy call_str_int (by rfl) M.str_ (by decide +kernel) (pa_cons (pv 5) pa_nil)) pa_nil)) (pa_cons (pv 5) pa_nil)))) (pg_tup (by rfl) (pgs_cons (pg_name (i := 6) S.nd rfl (.inl rfl)) (pgs_cons (pg_name (i := 7) S.nd rfl (.inl rfl)) pgs_nil))))
 (pss_one (ps_par (i := 3) (j := 4) rfl S.nd rfl rfl (by decide) rfl rfl (pa_cons (pe_op op_cat (pv 3) (pv 6)) (pa_cons (pe_op op_cat (pv 4) (pe_lst (pa_cons (pv 7) pa_nil))) pa_nil)) (by rfl)))))
 (pss_one (ps_ret (pe_tup (pa_cons (pv 3) (pa_cons (pe_callTy call_tuple_of (by rfl) M.tuple_ (by decide +kernel) (pa_cons (pv 4) pa_nil)) pa_nil)))))))), ?_⟩
    cases e with
    | nm z =>
      rw [Ex.made] at tv
      obtain ⟨a, vs, rfl, ea, a2⟩ := tv.inv_tup
      obtain ⟨v1, vs1, rfl, t1, a2⟩ := a2.inv_cons
      obtain ⟨v2, vs2, rfl, t2, a2⟩ := a2.inv_cons
      obtain rfl := a2.inv_nil
      obtain rfl := t1.inv_str
      obtain rfl := t2.inv_str
      refine ⟨.ref a, rfl, a, _, 0, _, rfl, rfl, .inl (.inl ea), rfl, rfl, _, rfl, ?_⟩
      rw [decVS, decide_eq_true rfl]
      refine iteT ?_
      refine ⟨.ref a, rfl, a, _, 1, _, rfl, rfl, .inl (.inl ea), rfl, by show 1 ≤ sizeLine; decide, fun pw npw => ?_⟩
      refine ⟨.int row, rfl, .int (k : Int), rfl, by show 2 ≤ sizeLine; decide, fun pl npl => ?_⟩
      have ea2 := same_new (o := .tup [.int row, .int (k : Int)]) npl _ _ (same_new (o := .lst [.str z]) npw _ _ ea)
      refine ⟨.ref a, rfl, a, _, 1, _, rfl, rfl, .inl (.inl ea2), rfl, by show 3 ≤ sizeLine; decide, fun ph nph => ⟨by show 2 ≤ sizeLine; decide, fun p np => ?_⟩⟩
      have sA := same_new (o := .lst [.str z]) npw
      have sB := sA.trans (same_new (o := .tup [.int row, .int (k : Int)]) npl)
      have sC := sB.trans (same_new (o := .tup [.str "name", .ref pl, .str z]) nph)
      have sD := sC.trans (same_new (o := .tup [.ref pw, .ref ph]) np)
      refine q p pw (.ref ph) _ sD (sC.free np) npw upd_same ?_ ?_
      · exact same_new np _ _ (same_new nph _ _ (same_new npl _ _ upd_same))
      · rw [Ex.heard]
        exact .mk (same_new np _ _ upd_same) (.cons (.str _) (.cons (.mk (same_new np _ _ (same_new nph _ _ upd_same)) (.cons (.int _) (.cons (.int _) .nil))) (.cons (.str _) .nil)))
    | op wd ps =>
      rw [Ex.made] at tv
      obtain ⟨a, vs, rfl, ea, a2⟩ := tv.inv_tup
      obtain ⟨v1, vps, rfl, t1, a2⟩ := a2.inv_cons
      obtain rfl := t1.inv_str
      rw [Ex.ok] at ho
      obtain ⟨sh, hsh, hd2, hps⟩ := ho
      have hnn : wd ≠ "name" := expTab_name _ (lookup_mem hsh)
      have hlet := expTab_let _ (lookup_mem hsh)
      refine ⟨.ref a, rfl, a, _, 0, .str wd, rfl, rfl, .inl (.inl ea), atI_zero, rfl, _, rfl, ?_⟩
      rw [decVS, decide_eq_false hnn]
      refine iteF ?_
      refine ⟨.ref a, rfl, a, _, 0, .str wd, rfl, rfl, .inl (.inl ea), atI_zero, by show 1 ≤ sizeLine; decide, fun lw nlw => ?_⟩
      have s1 := same_new (o := .lst [.str wd]) nlw
      refine ⟨.ref a, rfl, a, _, 0, .str wd, rfl, rfl, .inl (.inl (s1 _ _ ea)), atI_zero, .int row, rfl, .int (k : Int), rfl, by show 2 ≤ sizeLine; decide, fun pl npl => ?_⟩
      have s2 := s1.trans (same_new (o := .tup [.int row, .int (k : Int)]) npl)
      refine ⟨by show 2 ≤ sizeLine; decide, fun lh nlh => ⟨_, _, rfl, ?_⟩⟩
      have s3 := s2.trans (same_new (o := .lst [.str wd, .ref pl]) nlh)
      have elw : upd (upd (upd H lw (.lst [.str wd])) pl (.tup [.int row, .int (k : Int)])) lh (.lst [.str wd, .ref pl]) lw = some (.lst [.str wd]) := same_new nlh _ _ (same_new npl _ _ upd_same)
      have epl : upd (upd (upd H lw (.lst [.str wd])) pl (.tup [.int row, .int (k : Int)])) lh (.lst [.str wd, .ref pl]) pl = some (.tup [.int row, .int (k : Int)]) := same_new nlh _ _ upd_same
      have elh : upd (upd (upd H lw (.lst [.str wd])) pl (.tup [.int row, .int (k : Int)])) lh (.lst [.str wd, .ref pl]) lh = some (.lst [.str wd, .ref pl]) := upd_same
      revert s3 elw epl elh
      generalize upd (upd (upd H lw (.lst [.str wd])) pl (.tup [.int row, .int (k : Int)])) lh (.lst [.str wd, .ref pl]) = H3
      intro s3 elw epl elh
      refine ⟨.ref a, rfl, 1, rfl, a, _, rfl, .inl (.inl (s3 _ _ ea)), cut1_not, fun px npx => ?_⟩
      rw [cut1]
      have s4 := s3.trans (same_new (o := .tup vps) npx)
      have s34 : Same H3 (upd H3 px (.tup vps)) := same_new npx
      have epx : upd H3 px (.tup vps) px = some (.tup vps) := upd_same
      have elw4 := s34 _ _ elw
      have epl4 := s34 _ _ epl
      have elh4 := s34 _ _ elh
      revert s4 epx elw4 epl4 elh4
      generalize upd H3 px (.tup vps) = H4
      intro s4 epx elw4 epl4 elh4
      have a2p : All2 H4 ps.made vps := a2.inv_cons.elim fun _ h => h.elim fun _ h => by
        obtain ⟨he, _, h2⟩ := h
        cases he
        exact h2.same s4
      have nlw0 : H lw = none := nlw
      have nlh0 : H lh = none := s2.free nlh
      have hwps : ps.words.length + 1 ≤ 1000 := by
        rw [Ex.words, List.length_cons] at hw
        exact hw
      refine ⟨px, rfl, ⟨vps, .inl (.inl epx)⟩, ?_⟩
      refine for_tup (K := K) (a := px) (xs := vps) (fun i σ H' => ∃ (dn : List Str) (hdn : List Td) (hv : List V) (rest : Ps) (lw' lh' : Addr) (x5 x6 x7 : Option V),
        σ = [some (.ref a), some (.int row), some (.int (k : Int)), some (.ref lw'), some (.ref lh'), x5, x6, x7] ∧ Same H4 H' ∧ H lw' = none ∧
        H' lw' = some (.lst (.str wd :: dn.map V.str)) ∧ H' lh' = some (.lst (.str wd :: .ref pl :: hv)) ∧ All2 H' hdn hv ∧ rest.made = ps.made.drop i ∧ dn ++ rest.words = ps.words ∧
        hdn ++ rest.heard row (k + 1 + dn.length) = ps.heard row (k + 1) ∧ hdn.length = i ∧ ∃ cs, rest.ok (d + 1) cs ∧ ∀ c ∈ cs, c ≠ 65 ∧ c ≠ 88) ?_ ?_ ?_ ?_
      · exact ⟨[], [], [], ps, lw, lh, none, none, none, rfl, .refl _, nlw0, elw4, elh4, .nil, rfl, rfl, rfl, rfl, _, hps, hlet⟩
      · rintro i σ H' _ ⟨dn, hdn, hv, rest, lw', lh', x5, x6, x7, rfl, sm, _⟩
        exact .inl (.inl (sm _ _ epx))
      · rintro i x σ H' hx ⟨dn, hdn, hv, rest, lw', lh', x5, x6, x7, rfl, sm, nlw', elw', elh', ah, hrm, hdw, hdh, hil, cs, hro, hrl⟩
        obtain ⟨ti, hti⟩ : ∃ ti, ps.made[i]? = some ti := by
          have hlt : i < vps.length := by
            rcases Nat.lt_or_ge i vps.length with h | h
            · exact h
            · rw [List.getElem?_eq_none h] at hx
              cases hx
          exact ⟨_, List.getElem?_eq_getElem (show i < ps.made.length by rw [a2p.1]; exact hlt)⟩
        have hlt2 : i < ps.made.length := by
          rcases Nat.lt_or_ge i ps.made.length with h | h
          · exact h
          · rw [List.getElem?_eq_none h] at hti
            cases hti
        have hdrop : ps.made.drop i = ti :: ps.made.drop (i + 1) := by
          rw [List.drop_eq_getElem_cons hlt2]
          rw [List.getElem?_eq_getElem hlt2] at hti
          rw [Option.some.inj hti]
        rcases rest.cases2 with rfl | ⟨q1, r, rfl⟩
        · rw [hdrop] at hrm
          cases hrm
        rw [Ps.put_made, hdrop] at hrm
        have hq1 : q1.made = ti := (List.cons.inj hrm).1
        have hrm2 := (List.cons.inj hrm).2
        have tx : TdR H' q1.made x := by
          rw [hq1]
          exact (a2p.2 i ti x hti hx).same sm
        have hdnl : dn.length + (q1.words.length + r.words.length) + 1 ≤ 1000 := by
          have := congrArg List.length hdw
          rw [Ps.put_words, List.length_append, List.length_append] at this
          omega
        have hput := Ps.put_ok hro hrl
        refine lo_two (n := n) (q1 := q1) (x := x) (row := row) (k := k + 1 + dn.length) tx (fun H' Q' q' => ⟨x, rfl, q'⟩) (fun hne Q' q' => ?_) (fun e he Q' q' => ?_) (fun e he => ?_) ?_
        · obtain ⟨m, hm, rfl⟩ : ∃ m, m ≤ 65535 ∧ q1 = .int m := by
            rcases hput.1 with ⟨m, hm, h⟩ | ⟨e, h, _⟩
            · exact ⟨m, hm, h⟩
            · exact absurd h (hne e)
          obtain rfl := tx.inv_int
          exact ⟨.int (m : Int), rfl, (m : Int), rfl, log_small hm, q'⟩
        · refine ⟨x, rfl, .int row, rfl, .int (k : Int), rfl, .ref lw', rfl, lw', _, rfl, .inl (.inl (.inl elw')), _, _, rfl, rfl, ?_⟩
          rw [List.length_cons, List.length_map]
          show spLO n [x, .int row, .int ((k : Int) + ((dn.length + 1 : Nat) : Int))] H' Q' E0
          rw [show ((k : Int) + ((dn.length + 1 : Nat) : Int)) = ((k + 1 + dn.length : Nat) : Int) by omega]
          exact q'
        · subst he
          rcases hput.1 with ⟨m, hm, h⟩ | ⟨e', h, ho1, ho2⟩
          · cases h
          · cases h
            have : e.words.length ≤ 1000 := by
              simp only [Pq.words] at hdnl
              omega
            exact ⟨d + 1, ho2, ho1, by omega, this⟩
        · intro pr pw2 vh H5 s5 epr epw2 tvh
          refine ⟨pr, _, rfl, .inl (.inl epr), rfl, _, _, rfl, _, _, rfl, rfl, ?_⟩
          have elw5 := s5 _ _ elw'
          have elh5 := s5 _ _ elh'
          refine ⟨.ref lw', rfl, .ref pw2, rfl, lw', pw2, _, _, rfl, rfl, elw5, epw2, ?_, fun lw6 nlw6 => ?_⟩
          · rw [List.length_cons, List.length_map, List.length_map]
            exact Nat.le_trans (show dn.length + 1 + q1.words.length ≤ 1000 by omega) (by decide)
          have s56 := same_new (o := .lst (.str wd :: dn.map V.str ++ q1.words.map V.str)) nlw6
          have elw6 : upd H5 lw6 (.lst (.str wd :: dn.map V.str ++ q1.words.map V.str)) lw6 = some (.lst (.str wd :: (dn ++ q1.words).map V.str)) := by
            rw [upd_same, List.map_append]
            rfl
          refine ⟨.ref lh', rfl, vh, rfl, by show 1 ≤ sizeLine; decide, fun l1 nl1 => ?_⟩
          have s67 := same_new (o := .lst [vh]) nl1
          refine ⟨lh', l1, _, _, rfl, rfl, s67 _ _ (s56 _ _ elh5), upd_same, ?_, fun lh6 nlh6 => ?_⟩
          · have hvl : hv.length = i := ah.1.symm.trans hil
            have : ps.made.length ≤ ps.words.length := ps.made_words
            rw [List.length_cons, List.length_cons, List.length_singleton, hvl]
            exact Nat.le_trans (show i + 1 + 1 + 1 ≤ 1002 by omega) (by decide)
          have s78 := same_new (o := .lst (.str wd :: .ref pl :: hv ++ [vh])) nlh6
          have sA := ((sm.trans s5).trans s56).trans (s67.trans s78)
          have s58 := s56.trans (s67.trans s78)
          have nlw6H : H lw6 = none := ((s4.trans sm).trans s5).free nlw6
          refine ⟨_, _, rfl, dn ++ q1.words, hdn ++ [q1.heard row (k + 1 + dn.length)], hv ++ [vh], r, lw6, lh6, _, _, _, rfl, sA, nlw6H, s78 _ _ (s67 _ _ elw6), upd_same, ?_, hrm2, ?_, ?_, ?_, hput.2⟩
          · exact (ah.same (s5.trans s58)).snoc (tvh.same s58)
          · rw [List.append_assoc, ← Ps.put_words]
            exact hdw
          · rw [List.append_assoc, List.length_append, ← Nat.add_assoc]
            rw [Ps.put_heard] at hdh
            exact hdh
          · rw [List.length_append, hil]
            rfl
      · rintro σ H' ⟨dn, hdn, hv, rest, lw', lh', x5, x6, x7, rfl, sm, nlw', elw', elh', ah, hrm, hdw, hdh, hil, cs, hro, hrl⟩
        have hrn : rest = .nil := by
          rcases rest.cases2 with h | ⟨q1, r, rfl⟩
          · exact h
          · rw [Ps.put_made, List.drop_eq_nil_of_le (by rw [a2p.1]; exact Nat.le_refl _)] at hrm
            cases hrm
        subst hrn
        simp only [Ps.words, Ps.heard, List.append_nil] at hdw hdh
        subst hdw
        subst hdh
        refine ⟨.ref lw', rfl, .ref lh', rfl, lh', _, rfl, .inl ⟨.inl (.inl elh'), fun ph nph => ⟨by show 2 ≤ sizeLine; decide, fun p np => ?_⟩⟩⟩
        have s9 := same_new (o := .tup (.str wd :: .ref pl :: hv)) nph
        have s10 := same_new (o := .tup [.ref lw', .ref ph]) np
        have sB := (s4.trans sm).trans (s9.trans s10)
        refine q p lw' (.ref ph) _ sB (((s4.trans sm).trans s9).free np) nlw' upd_same ?_ ?_
        · rw [Ex.words]
          exact s10 _ _ (s9 _ _ elw')
        · rw [Ex.heard]
          exact .mk (s10 _ _ upd_same) (.cons (.str _) (.cons (.mk (s10 _ _ (s9 _ _ (sm _ _ epl4))) (.cons (.int _) (.cons (.int _) .nil))) ((ah.same s9).same s10)))

end
section
variable {P : Program} {w : World} {K : PySem.W.Frag} {mg : Str → Option Value} {base : Heap}
/-! ### the law's hand: rows laid out -/
theorem lo_all {f : Addr} {fd : FuncData} (D : DefAt K mg "_law_laid_out" ["_law_part", "_law_row_here", "_law_at"] s_l_laid_out f fd) (M : Bi mg) :
    ∀ n : Nat, Cal P w K mg base L2.CX0 (1 + n) "_law_laid_out" ["_law_part", "_law_row_here", "_law_at"] (spLO n)
  | 0 => by
    refine cal_of (k := 0) D.fn D.mgf D.bs D.kbs S_l_laid_out (fun vs H Q E h => ?_) (fun cdv A outer s H vs Q E hq hr h => ?_)
    · obtain ⟨v, row, k, e, d, rfl, _⟩ := h
      rfl
    · obtain ⟨v, row, k, e, d, rfl, _, _, h1, h2, _⟩ := h
      omega
  | n + 1 => ok_lo D M (lo_all D M n)
theorem Ps.put_ok2 {q : Pq} {r : Ps} {d : Nat} {cs : List Nat} (h : (Ps.put q r).ok d cs) :
    ((∃ m, m ≤ 65535 ∧ q = .int m) ∨ (∃ z, q = .str z) ∨ ∃ e, q = .ex e ∧ e.ok d) ∧ ∃ cs', r.ok d cs' := by
  cases q with
  | int m =>
    obtain ⟨c, cs', rfl, hc, hr⟩ := h
    exact ⟨.inl ⟨m, by omega, rfl⟩, cs', hr⟩
  | str z =>
    obtain ⟨c, cs', rfl, rfl, _, _, hr⟩ := h
    exact ⟨.inr (.inl ⟨z, rfl⟩), cs', hr⟩
  | ex e =>
    obtain ⟨c, cs', rfl, hc, hr⟩ := h
    rcases hc with ⟨_, h1, h2⟩ | ⟨rfl, _, z, rfl, hz, hz2⟩
    · exact ⟨.inr (.inr ⟨e, rfl, h2⟩), cs', hr⟩
    · exact ⟨.inr (.inr ⟨.nm z, rfl, by rw [Ex.ok]; exact ⟨spot1 hz, hz2⟩⟩), cs', hr⟩
theorem all2_strs_inv {H : Hp} : ∀ {cs : List Str} {vs : List V}, All2 H (cs.map Td.str) vs → vs = cs.map V.str
  | [], vs, h => h.inv_nil
  | c :: cs, vs, h => by
    obtain ⟨v, vs', rfl, h1, h2⟩ := h.inv_cons
    rw [h1.inv_str, all2_strs_inv h2]
    rfl
def spRO : Sp := fun vs H Q _ => ∃ (v : V) (row : Int) (r : Rw), vs = [v, .int row] ∧ TdR H r.made v ∧ r.ok ∧ r.words.length ≤ 300 ∧
  ∀ (p pw : Addr) (vh : V) (H' : Hp), Same H H' → H pw = none → H' p = some (.tup [.ref pw, vh]) → H' pw = some (.lst (r.words.map V.str)) → TdR H' (r.heard row) vh → Q (.ref p) H'
theorem ok_ro {f : Addr} {fd : FuncData} (D : DefAt K mg "_law_row_out" ["_law_made", "_law_row_here"] s_l_row_out f fd) (M : Bi mg)
    (C_l_laid_out : Cal P w K mg base L2.CX0 14 "_law_laid_out" ["_law_part", "_law_row_here", "_law_at"] (spLO 13)) :
    Cal P w K mg base L2.CX0 15 "_law_row_out" ["_law_made", "_law_row_here"] spRO := by
  have S := S_l_row_out
  refine cal_of D.fn D.mgf D.bs D.kbs S (fun vs H Q E h => ?_) (fun cdv A outer s H vs Q E hq hr h => ?_)
  · obtain ⟨v, row, r, rfl, _⟩ := h
    rfl
  · obtain ⟨v, row, r, rfl, tv, ho, hw, q⟩ := h
    refine ⟨_, (pss_cons (ps_if (pt_cmpR op_eq (pe_ix ix_tup (pv 0) pe_int (fun _ _ => rfl)) pe_str (nomark _))
  (pss_cons (ps_par (i := 2) (j := 3) rfl S.nd rfl rfl (by decide) rfl rfl (pa_cons (pe_op op_cat (pe_lst (pa_cons pe_str (pa_cons (pe_ix ix_tup (pv 0) pe_int (fun _ _ => rfl)) (pa_cons (pe_ix ix_tup (pv 0) pe_int (fun _ _ => rfl)) (pa_cons (pe_callTy call_str_int (by rfl) M.str_ (by decide +kernel) (pa_cons (pe_callB call_len_seq (by rfl) M.len_ (by decide +kernel) (pa_cons (pe_ix ix_tup (pv 0) pe_int (fun _ _ => rfl)) pa_nil)) pa_nil)) pa_nil))))) (pe_callTy call_list_of (by rfl) M.list_ (by decide +kernel) (pa_cons (pe_ix ix_tup (pv 0) pe_int (fun _ _ => rfl)) pa_nil))) (pa_cons (pe_lst pa_nil) pa_nil)) (by rfl))
 (pss_cons (ps_for PassesOwn.never rfl (pi_tup (pe_ix ix_tup (pv 0) pe_int (fun _ _ => rfl))) (pg_name (i := 4) S.nd rfl (.inl rfl))
  (pss_cons (ps_asg (pe_c C_l_laid_out pass0 hq hr (by omega) (by rfl) (pa_cons (pv 4) (pa_cons (pv 1) (pa_cons (pe_callB call_len_seq (by rfl) M.len_ (by decide +kernel) (pa_cons (pv 2) pa_nil)) pa_nil)))) (pg_tup (by rfl) (pgs_cons (pg_name (i := 5) S.nd rfl (.inl rfl)) (pgs_cons (pg_name (i := 6) S.nd rfl (.inl rfl)) pgs_nil))))
 (pss_one (ps_par (i := 2) (j := 3) rfl S.nd rfl rfl (by decide) rfl rfl (pa_cons (pe_op op_cat (pv 2) (pv 5)) (pa_cons (pe_op op_cat (pv 3) (pe_lst (pa_cons (pv 6) pa_nil))) pa_nil)) (by rfl)))))
 (pss_one (ps_ret (pe_tup (pa_cons (pv 2) (pa_cons (pe_op op_catT (pe_slice sl_tup (pv 0) po_none (po_some pe_int)) (pe_tup (pa_cons (pe_callTy call_tuple_of (by rfl) M.tuple_ (by decide +kernel) (pa_cons (pv 3) pa_nil)) pa_nil))) pa_nil)))))))
  pss_nil)
 (pss_cons (ps_par (i := 2) (j := 3) rfl S.nd rfl rfl (by decide) rfl rfl (pa_cons (pe_lst (pa_cons (pe_ix ix_tup (pv 0) pe_int (fun _ _ => rfl)) pa_nil)) (pa_cons (pe_lst (pa_cons (pe_ix ix_tup (pv 0) pe_int (fun _ _ => rfl)) pa_nil)) pa_nil)) (by rfl))
 (pss_cons (ps_for PassesOwn.never rfl (pi_tup (pe_slice sl_tup (pv 0) (po_some pe_int) po_none)) (pg_name (i := 4) S.nd rfl (.inl rfl))
  (pss_cons (ps_asg (pe_ifExp (pt_val (pe_callB call_isi (by rfl) M.isinstance_ (by decide +kernel) (pa_cons (pv 4) (pa_cons (pe_bltn (v := .ty "tuple") (u := .type "tuple") (by rfl) M.tuple_ (by decide +kernel) rfl) pa_nil)))) (pe_c C_l_laid_out pass0 hq hr (by omega) (by rfl) (pa_cons (pv 4) (pa_cons (pv 1) (pa_cons (pe_callB call_len_seq (by rfl) M.len_ (by decide +kernel) (pa_cons (pv 2) pa_nil)) pa_nil)))) (pe_tup (pa_cons (pe_lst (pa_cons (pe_callTy call_strIS (by rfl) M.str_ (by decide +kernel) (pa_cons (pv 4) pa_nil)) pa_nil)) (pa_cons (pv 4) pa_nil)))) (pg_tup (by rfl) (pgs_cons (pg_name (i := 5) S.nd rfl (.inl rfl)) (pgs_cons (pg_name (i := 6) S.nd rfl (.inl rfl)) pgs_nil))))
 (pss_one (ps_par (i := 2) (j := 3) rfl S.nd rfl rfl (by decide) rfl rfl (pa_cons (pe_op op_cat (pv 2) (pv 5)) (pa_cons (pe_op op_cat (pv 3) (pe_lst (pa_cons (pv 6) pa_nil))) pa_nil)) (by rfl)))))
 (pss_one (ps_ret (pe_tup (pa_cons (pv 2) (pa_cons (pe_callTy call_tuple_of (by rfl) M.tuple_ (by decide +kernel) (pa_cons (pv 3) pa_nil)) pa_nil)))))))), ?_⟩
    cases r with
    | use x m cs es =>
      rw [Rw.made] at tv
      obtain ⟨a, vs, rfl, ea, a2⟩ := tv.inv_tup
      obtain ⟨v1, vs, rfl, t1, a2⟩ := a2.inv_cons
      obtain ⟨v2, vs, rfl, t2, a2⟩ := a2.inv_cons
      obtain ⟨v3, vs, rfl, t3, a2⟩ := a2.inv_cons
      obtain ⟨v4, vs, rfl, t4, a2⟩ := a2.inv_cons
      obtain ⟨v5, vs, rfl, t5, a2⟩ := a2.inv_cons
      obtain rfl := a2.inv_nil
      obtain rfl := t1.inv_str
      obtain rfl := t2.inv_str
      obtain rfl := t3.inv_str
      obtain ⟨ac, vcs, rfl, eac, acs⟩ := t4.inv_tup
      obtain ⟨ae, ves, rfl, eae, aes⟩ := t5.inv_tup
      refine ⟨.ref a, rfl, a, _, 0, .str "use", rfl, rfl, .inl (.inl ea), atI_zero, rfl, _, rfl, ?_⟩
      rw [decVS, decide_eq_true rfl]
      refine iteT ?_
      obtain rfl := all2_strs_inv acs
      have hcl := ho.2.2.1
      have hel := ho.2.2.2.2.1
      refine ⟨.ref a, rfl, a, _, 1, .str x, rfl, rfl, .inl (.inl ea), rfl, .ref a, rfl, a, _, 2, .str m, rfl, rfl, .inl (.inl ea), rfl, .ref a, rfl, a, _, 3, .ref ac, rfl, rfl, .inl (.inl ea), rfl, ac, _, rfl, .inr (.inl (.inl eac)), _, rfl, ?_, ?_⟩
      · rw [List.length_map]
        exact log_small (by omega)
      rw [List.length_map, show Str.ofString (toString ((cs.length : Nat) : Int)) = strN cs.length from rfl]
      refine ⟨by show 4 ≤ sizeLine; decide, fun l1 nl1 => ?_⟩
      have s1 := same_new (o := .lst [.str "use", .str x, .str m, .str (strN cs.length)]) nl1
      refine ⟨.ref a, rfl, a, _, 3, .ref ac, rfl, rfl, .inl (.inl (s1 _ _ ea)), rfl, ac, _, rfl, .inr (.inl (.inl (s1 _ _ eac))), fun l2 nl2 => ?_⟩
      have s2 := s1.trans (same_new (o := .lst (cs.map V.str)) nl2)
      refine ⟨l1, l2, _, _, rfl, rfl, same_new nl2 _ _ upd_same, upd_same, ?_, fun lw nlw => ?_⟩
      · rw [List.length_map]
        exact Nat.le_trans (show 4 + cs.length ≤ 8 by omega) (by decide)
      have s3 := s2.trans (same_new (o := .lst ([.str "use", .str x, .str m, .str (strN cs.length)] ++ cs.map V.str)) nlw)
      refine ⟨by decide, fun lh nlh => ⟨_, _, rfl, ?_⟩⟩
      have s4 := s3.trans (same_new (o := .lst []) nlh)
      have elw4 : L2.upd (L2.upd (L2.upd (L2.upd H l1 (.lst [.str "use", .str x, .str m, .str (strN cs.length)])) l2 (.lst (cs.map V.str))) lw (.lst ([.str "use", .str x, .str m, .str (strN cs.length)] ++ cs.map V.str))) lh (.lst []) lw = some (.lst ((([Str.ofString "use", x, m, strN cs.length] : List Str) ++ cs).map V.str)) := by
        rw [same_new nlh _ _ upd_same, List.map_append]
        rfl
      have elh4 : L2.upd (L2.upd (L2.upd (L2.upd H l1 (.lst [.str "use", .str x, .str m, .str (strN cs.length)])) l2 (.lst (cs.map V.str))) lw (.lst ([.str "use", .str x, .str m, .str (strN cs.length)] ++ cs.map V.str))) lh (.lst []) lh = some (.lst []) := upd_same
      revert s4 elw4 elh4
      generalize L2.upd (L2.upd (L2.upd (L2.upd H l1 (.lst [.str "use", .str x, .str m, .str (strN cs.length)])) l2 (.lst (cs.map V.str))) lw (.lst ([.str "use", .str x, .str m, .str (strN cs.length)] ++ cs.map V.str))) lh (.lst []) = H4
      generalize hpre : ([Str.ofString "use", x, m, strN cs.length] : List Str) ++ cs = pre
      intro s4 elw4 elh4
      have hprel : pre.length = 4 + cs.length := by
        rw [← hpre, List.length_append]
        rfl
      have hwes : (wordsL es).length ≤ 300 := by
        simp only [Rw.words, List.length_cons, List.length_append] at hw
        omega
      have ea4 := s4 _ _ ea
      have eae4 := s4 _ _ eae
      refine ⟨.ref a, rfl, a, _, 4, .ref ae, rfl, rfl, .inl (.inl ea4), rfl, ae, rfl, ⟨ves, .inl (.inl eae4)⟩, ?_⟩
      refine for_tup (K := K) (a := ae) (xs := ves) (fun i σ H' => ∃ (dn : List Str) (hdn : List Td) (hv : List V) (lw' lh' : Addr) (x4 x5 x6 : Option V),
        σ = [some (.ref a), some (.int row), some (.ref lw'), some (.ref lh'), x4, x5, x6] ∧ Same H4 H' ∧ H lw' = none ∧ H' lw' = some (.lst ((pre ++ dn).map V.str)) ∧ H' lh' = some (.lst hv) ∧ All2 H' hdn hv ∧
        dn ++ wordsL (es.drop i) = wordsL es ∧ hdn ++ heardL row (es.drop i) (4 + cs.length + dn.length) = heardL row es (4 + cs.length) ∧ hdn.length = i) ?_ ?_ ?_ ?_
      · exact ⟨[], [], [], lw, lh, none, none, none, rfl, .refl _, s2.free nlw, by rw [List.append_nil]; exact elw4, elh4, .nil, rfl, rfl, rfl⟩
      · rintro i σ H' _ ⟨dn, hdn, hv, lw', lh', x4, x5, x6, rfl, sm, _⟩
        exact .inl (.inl (sm _ _ eae4))
      · rintro i v σ H' hx ⟨dn, hdn, hv, lw', lh', x4, x5, x6, rfl, sm, nlw', elw', elh', ah, hdw, hdh, hil⟩
        have hlt : i < es.length := by
          rcases Nat.lt_or_ge i ves.length with h | h
          · have := aes.1
            rw [List.length_map] at this
            omega
          · rw [List.getElem?_eq_none h] at hx
            cases hx
        have hei : (es.map Ex.made)[i]? = some es[i].made := by
          rw [List.getElem?_map, List.getElem?_eq_getElem hlt]
          rfl
        have tx : TdR H' es[i].made v := ((aes.2 i _ v hei hx).same s4).same sm
        have hdrop : es.drop i = es[i] :: es.drop (i + 1) := List.drop_eq_getElem_cons hlt
        have hoke : es[i].ok 1 := ho.2.2.2.2.2 _ (List.getElem_mem hlt)
        rw [hdrop] at hdw hdh
        obtain ⟨e, hee⟩ : ∃ e, es[i] = e := ⟨_, rfl⟩
        rw [hee] at hdw hdh tx hoke
        simp only [wordsL, heardL] at hdw hdh
        have hlens : dn.length + (e.words.length + (wordsL (es.drop (i + 1))).length) ≤ 300 := by
          have := congrArg List.length hdw
          rw [List.length_append, List.length_append] at this
          omega
        refine ⟨v, rfl, .int row, rfl, .ref lw', rfl, lw', _, rfl, .inl (.inl (.inl elw')), ?_⟩
        rw [List.length_map, List.length_append, hprel]
        refine ⟨v, row, 4 + cs.length + dn.length, e, 1, rfl, tx, hoke, by decide, by decide, by omega, fun pr pw2 vh H5 s5 _ _ epr epw2 tvh => ?_⟩
        refine ⟨pr, _, rfl, .inl (.inl epr), rfl, _, _, rfl, _, _, rfl, rfl, ?_⟩
        have elw5 := s5 _ _ elw'
        have elh5 := s5 _ _ elh'
        refine ⟨.ref lw', rfl, .ref pw2, rfl, lw', pw2, _, _, rfl, rfl, elw5, epw2, ?_, fun lw6 nlw6 => ?_⟩
        · rw [List.length_map, List.length_map, List.length_append, hprel]
          exact Nat.le_trans (show 4 + cs.length + dn.length + e.words.length ≤ 1000 by omega) (by decide)
        have s56 := same_new (o := .lst ((pre ++ dn).map V.str ++ e.words.map V.str)) nlw6
        have elw6 : L2.upd H5 lw6 (.lst ((pre ++ dn).map V.str ++ e.words.map V.str)) lw6 = some (.lst ((pre ++ (dn ++ e.words)).map V.str)) := by
          rw [upd_same, ← List.append_assoc, List.map_append (l₁ := pre ++ dn)]
        refine ⟨.ref lh', rfl, vh, rfl, by show 1 ≤ sizeLine; decide, fun l1 nl1 => ?_⟩
        have s67 := same_new (o := .lst [vh]) nl1
        refine ⟨lh', l1, _, _, rfl, rfl, s67 _ _ (s56 _ _ elh5), upd_same, ?_, fun lh6 nlh6 => ?_⟩
        · have hvl : hv.length = i := ah.1.symm.trans hil
          rw [List.length_singleton, hvl]
          exact Nat.le_trans (show i + 1 ≤ 1002 by omega) (by decide)
        have s78 := same_new (o := .lst (hv ++ [vh])) nlh6
        have s58 := s56.trans (s67.trans s78)
        refine ⟨_, _, rfl, dn ++ e.words, hdn ++ [e.heard row (4 + cs.length + dn.length)], hv ++ [vh], lw6, lh6, _, _, _, rfl, (sm.trans s5).trans s58, ((s4.trans sm).trans s5).free nlw6, s78 _ _ (s67 _ _ elw6), upd_same, ?_, ?_, ?_, ?_⟩
        · exact (ah.same (s5.trans s58)).snoc (tvh.same s58)
        · rw [List.append_assoc]
          exact hdw
        · rw [List.append_assoc, List.length_append, ← Nat.add_assoc]
          exact hdh
        · rw [List.length_append, hil]
          rfl
      · rintro σ H' ⟨dn, hdn, hv, lw', lh', x4, x5, x6, rfl, sm, nlw', elw', elh', ah, hdw, hdh, hil⟩
        have hvl : ves.length = es.length := by
          have := aes.1
          rw [List.length_map] at this
          exact this.symm
        rw [hvl, List.drop_length] at hdw hdh
        simp only [wordsL, heardL, List.append_nil] at hdw hdh
        subst hdw
        subst hdh
        have sF := s4.trans sm
        have ea9 := sF _ _ ea
        refine ⟨.ref lw', rfl, .ref a, rfl, 4, rfl, a, _, rfl, .inl (.inl ea9), by simp [HT.sIx], fun p4 np4 => ?_⟩
        have t4' := same_new (o := .tup (cutV [.str "use", .str x, .str m, .ref ac, .ref ae] none (some 4))) np4
        refine ⟨.ref lh', rfl, lh', _, rfl, .inl ⟨.inl (.inl (t4' _ _ elh')), fun p5 np5 => ⟨by show 1 ≤ sizeLine; decide, fun p6 np6 => ?_⟩⟩⟩
        have t5' := same_new (o := .tup hv) np5
        have t6' := same_new (o := .tup [.ref p5]) np6
        refine ⟨p4, p6, cutV [.str "use", .str x, .str m, .ref ac, .ref ae] none (some 4), [.ref p5], rfl, rfl, .inl (.inl (t6' _ _ (t5' _ _ upd_same))), .inl (.inl upd_same), by simp [cutV, HT.sIx], by show 4 + 1 ≤ sizeLine; decide, (fun h => by cases h), fun _ p7 np7 => ⟨by show 2 ≤ sizeLine; decide, fun p np => ?_⟩⟩
        have t7' := same_new (o := .tup (cutV [.str "use", .str x, .str m, .ref ac, .ref ae] none (some 4) ++ [.ref p5])) np7
        have t8' := same_new (o := .tup [.ref lw', .ref p7]) np
        have tA := (t4'.trans t5').trans ((t6'.trans t7').trans t8')
        refine q p lw' (.ref p7) _ (sF.trans tA) nlw' upd_same ?_ ?_
        · rw [show (Rw.use x m cs es).words = pre ++ wordsL es by rw [← hpre]; rfl]
          exact tA _ _ elw'
        · rw [Rw.heard]
          exact .mk (vs := [.str "use", .str x, .str m, .ref ac, .ref p5]) (t8' _ _ upd_same) (.cons (.str _) (.cons (.str _) (.cons (.str _) (.cons (.mk (tA _ _ (sF _ _ eac)) (all2_map _ fun z => .str z)) (.cons (.mk (t8' _ _ (t7' _ _ (t6' _ _ upd_same))) (ah.same tA)) .nil)))))
    | row wd ps =>
      rw [Rw.made] at tv
      obtain ⟨a, vs, rfl, ea, a2⟩ := tv.inv_tup
      obtain ⟨v1, vps, rfl, t1, a2⟩ := a2.inv_cons
      obtain rfl := t1.inv_str
      obtain ⟨sh, hsh, hps⟩ := ho
      have hnn : wd ≠ "use" := rowTab_use _ (lookup_mem hsh)
      refine ⟨.ref a, rfl, a, _, 0, .str wd, rfl, rfl, .inl (.inl ea), atI_zero, rfl, _, rfl, ?_⟩
      rw [decVS, decide_eq_false hnn]
      refine iteF ?_
      refine ⟨.ref a, rfl, a, _, 0, .str wd, rfl, rfl, .inl (.inl ea), atI_zero, by show 1 ≤ sizeLine; decide, fun lw nlw => ?_⟩
      have s1 := same_new (o := .lst [.str wd]) nlw
      refine ⟨.ref a, rfl, a, _, 0, .str wd, rfl, rfl, .inl (.inl (s1 _ _ ea)), atI_zero, by show 1 ≤ sizeLine; decide, fun lh nlh => ⟨_, _, rfl, ?_⟩⟩
      have s3 := s1.trans (same_new (o := .lst [.str wd]) nlh)
      have elw : upd (upd H lw (.lst [.str wd])) lh (.lst [.str wd]) lw = some (.lst [.str wd]) := same_new nlh _ _ upd_same
      have elh : upd (upd H lw (.lst [.str wd])) lh (.lst [.str wd]) lh = some (.lst [.str wd]) := upd_same
      revert s3 elw elh
      generalize upd (upd H lw (.lst [.str wd])) lh (.lst [.str wd]) = H3
      intro s3 elw elh
      refine ⟨.ref a, rfl, 1, rfl, a, _, rfl, .inl (.inl (s3 _ _ ea)), cut1_not, fun px npx => ?_⟩
      rw [cut1]
      have s4 := s3.trans (same_new (o := .tup vps) npx)
      have s34 : Same H3 (upd H3 px (.tup vps)) := same_new npx
      have epx : upd H3 px (.tup vps) px = some (.tup vps) := upd_same
      have elw4 := s34 _ _ elw
      have elh4 := s34 _ _ elh
      revert s4 epx elw4 elh4
      generalize upd H3 px (.tup vps) = H4
      intro s4 epx elw4 elh4
      have a2p : All2 H4 ps.made vps := a2.inv_cons.elim fun _ h => h.elim fun _ h => by
        obtain ⟨he, _, h2⟩ := h
        cases he
        exact h2.same s4
      have hwps : ps.words.length + 1 ≤ 300 := by
        simp only [Rw.words, List.length_cons] at hw
        exact hw
      refine ⟨px, rfl, ⟨vps, .inl (.inl epx)⟩, ?_⟩
      refine for_tup (K := K) (a := px) (xs := vps) (fun i σ H' => ∃ (dn : List Str) (hdn : List Td) (hv : List V) (rest : Ps) (lw' lh' : Addr) (x5 x6 x7 : Option V),
        σ = [some (.ref a), some (.int row), some (.ref lw'), some (.ref lh'), x5, x6, x7] ∧ Same H4 H' ∧ H lw' = none ∧
        H' lw' = some (.lst (.str wd :: dn.map V.str)) ∧ H' lh' = some (.lst (.str wd :: hv)) ∧ All2 H' hdn hv ∧ rest.made = ps.made.drop i ∧ dn ++ rest.words = ps.words ∧
        hdn ++ rest.heard row (1 + dn.length) = ps.heard row 1 ∧ hdn.length = i ∧ ∃ cs, rest.ok 1 cs) ?_ ?_ ?_ ?_
      · exact ⟨[], [], [], ps, lw, lh, none, none, none, rfl, .refl _, nlw, elw4, elh4, .nil, rfl, rfl, rfl, rfl, _, hps⟩
      · rintro i σ H' _ ⟨dn, hdn, hv, rest, lw', lh', x5, x6, x7, rfl, sm, _⟩
        exact .inl (.inl (sm _ _ epx))
      · rintro i x σ H' hx ⟨dn, hdn, hv, rest, lw', lh', x5, x6, x7, rfl, sm, nlw', elw', elh', ah, hrm, hdw, hdh, hil, cs, hro⟩
        obtain ⟨ti, hti⟩ : ∃ ti, ps.made[i]? = some ti := by
          have hlt : i < vps.length := by
            rcases Nat.lt_or_ge i vps.length with h | h
            · exact h
            · rw [List.getElem?_eq_none h] at hx
              cases hx
          exact ⟨_, List.getElem?_eq_getElem (show i < ps.made.length by rw [a2p.1]; exact hlt)⟩
        have hlt2 : i < ps.made.length := by
          rcases Nat.lt_or_ge i ps.made.length with h | h
          · exact h
          · rw [List.getElem?_eq_none h] at hti
            cases hti
        have hdrop : ps.made.drop i = ti :: ps.made.drop (i + 1) := by
          rw [List.drop_eq_getElem_cons hlt2]
          rw [List.getElem?_eq_getElem hlt2] at hti
          rw [Option.some.inj hti]
        rcases rest.cases2 with rfl | ⟨q1, r, rfl⟩
        · rw [hdrop] at hrm
          cases hrm
        rw [Ps.put_made, hdrop] at hrm
        have hq1 : q1.made = ti := (List.cons.inj hrm).1
        have hrm2 := (List.cons.inj hrm).2
        have tx : TdR H' q1.made x := by
          rw [hq1]
          exact (a2p.2 i ti x hti hx).same sm
        have hdnl : dn.length + (q1.words.length + r.words.length) + 1 ≤ 300 := by
          have := congrArg List.length hdw
          rw [Ps.put_words, List.length_append, List.length_append] at this
          omega
        have hput := Ps.put_ok2 hro
        refine lo_two (n := 13) (q1 := q1) (x := x) (row := row) (k := 1 + dn.length) tx (fun H' Q' q' => ⟨x, rfl, q'⟩) (fun hne Q' q' => ?_) (fun e he Q' q' => ?_) (fun e he => ?_) ?_
        · rcases hput.1 with ⟨m, hm, rfl⟩ | ⟨z, rfl⟩ | ⟨e, h, _⟩
          · obtain rfl := tx.inv_int
            exact ⟨.int (m : Int), rfl, .inl ⟨(m : Int), rfl, log_small hm, q'⟩⟩
          · obtain rfl := tx.inv_str
            exact ⟨.str z, rfl, .inr ⟨z, rfl, q'⟩⟩
          · exact absurd h (hne e)
        · refine ⟨x, rfl, .int row, rfl, .ref lw', rfl, lw', _, rfl, .inl (.inl (.inl elw')), ?_⟩
          rw [List.length_cons, List.length_map]
          show spLO 13 [x, .int row, .int ((dn.length + 1 : Nat) : Int)] H' Q' E0
          rw [Nat.add_comm dn.length 1]
          exact q'
        · subst he
          rcases hput.1 with ⟨m, hm, h⟩ | ⟨z, h⟩ | ⟨e', h, ho2⟩
          · cases h
          · cases h
          · cases h
            have : e.words.length ≤ 1000 := by
              simp only [Pq.words] at hdnl
              omega
            exact ⟨1, ho2, by decide, by decide, this⟩
        · intro pr pw2 vh H5 s5 epr epw2 tvh
          refine ⟨pr, _, rfl, .inl (.inl epr), rfl, _, _, rfl, _, _, rfl, rfl, ?_⟩
          have elw5 := s5 _ _ elw'
          have elh5 := s5 _ _ elh'
          refine ⟨.ref lw', rfl, .ref pw2, rfl, lw', pw2, _, _, rfl, rfl, elw5, epw2, ?_, fun lw6 nlw6 => ?_⟩
          · rw [List.length_cons, List.length_map, List.length_map]
            exact Nat.le_trans (show dn.length + 1 + q1.words.length ≤ 1000 by omega) (by decide)
          have s56 := same_new (o := .lst (.str wd :: dn.map V.str ++ q1.words.map V.str)) nlw6
          have elw6 : upd H5 lw6 (.lst (.str wd :: dn.map V.str ++ q1.words.map V.str)) lw6 = some (.lst (.str wd :: (dn ++ q1.words).map V.str)) := by
            rw [upd_same, List.map_append]
            rfl
          refine ⟨.ref lh', rfl, vh, rfl, by show 1 ≤ sizeLine; decide, fun l1 nl1 => ?_⟩
          have s67 := same_new (o := .lst [vh]) nl1
          refine ⟨lh', l1, _, _, rfl, rfl, s67 _ _ (s56 _ _ elh5), upd_same, ?_, fun lh6 nlh6 => ?_⟩
          · have hvl : hv.length = i := ah.1.symm.trans hil
            have : ps.made.length ≤ ps.words.length := ps.made_words
            rw [List.length_cons, List.length_singleton, hvl]
            exact Nat.le_trans (show i + 1 + 1 ≤ 1002 by omega) (by decide)
          have s78 := same_new (o := .lst (.str wd :: hv ++ [vh])) nlh6
          have sA := ((sm.trans s5).trans s56).trans (s67.trans s78)
          have s58 := s56.trans (s67.trans s78)
          refine ⟨_, _, rfl, dn ++ q1.words, hdn ++ [q1.heard row (1 + dn.length)], hv ++ [vh], r, lw6, lh6, _, _, _, rfl, sA, ((s4.trans sm).trans s5).free nlw6, s78 _ _ (s67 _ _ elw6), upd_same, ?_, hrm2, ?_, ?_, ?_, hput.2⟩
          · exact (ah.same (s5.trans s58)).snoc (tvh.same s58)
          · rw [List.append_assoc, ← Ps.put_words]
            exact hdw
          · rw [List.append_assoc, List.length_append, ← Nat.add_assoc]
            rw [Ps.put_heard] at hdh
            exact hdh
          · rw [List.length_append, hil]
            rfl
      · rintro σ H' ⟨dn, hdn, hv, rest, lw', lh', x5, x6, x7, rfl, sm, nlw', elw', elh', ah, hrm, hdw, hdh, hil, cs, hro⟩
        have hrn : rest = .nil := by
          rcases rest.cases2 with h | ⟨q1, r, rfl⟩
          · exact h
          · rw [Ps.put_made, List.drop_eq_nil_of_le (by rw [a2p.1]; exact Nat.le_refl _)] at hrm
            cases hrm
        subst hrn
        simp only [Ps.words, Ps.heard, List.append_nil] at hdw hdh
        subst hdw
        subst hdh
        refine ⟨.ref lw', rfl, .ref lh', rfl, lh', _, rfl, .inl ⟨.inl (.inl elh'), fun ph nph => ⟨by show 2 ≤ sizeLine; decide, fun p np => ?_⟩⟩⟩
        have s9 := same_new (o := .tup (.str wd :: hv)) nph
        have s10 := same_new (o := .tup [.ref lw', .ref ph]) np
        have sB := (s4.trans sm).trans (s9.trans s10)
        refine q p lw' (.ref ph) _ sB nlw' upd_same ?_ ?_
        · rw [Rw.words]
          exact s10 _ _ (s9 _ _ elw')
        · rw [Rw.heard]
          exact .mk (s10 _ _ upd_same) (.cons (.str _) ((ah.same s9).same s10))

end
end K05

namespace K05
open PySem PySem.Spec PyProof.Rows L2 Kit
section
variable {P : Program} {w : World} {K : PySem.W.Frag} {mg : Str → Option Value} {base : Heap}
/-! ### writing -/
/-- a text's join -/
def tJ (K : PySem.W.Frag) (to te : TE) : TE := tM1 (fun x xs H Q => ∃ a p ys, x = V.str a ∧ xs = [V.ref p] ∧ (SqL K H p (List.map V.str ys) ∨ SqT K H p (List.map V.str ys)) ∧
  (List.map (fun x => x.length) ys).sum + ys.length * a.length ≤ 16777216 ∧ Q (V.str (Txt.join a ys)) H) to te
theorem sum_len_le {L : Nat} : ∀ {ys : List Str}, (∀ y ∈ ys, y.length ≤ L) → (ys.map (·.length)).sum ≤ ys.length * L
  | [], _ => Nat.zero_le _
  | y :: ys, h => by
    have h1 := h y List.mem_cons_self
    have h2 := sum_len_le fun z hz => h z (List.mem_cons_of_mem _ hz)
    rw [List.map_cons, List.sum_cons, List.length_cons, Nat.succ_mul]
    omega
theorem Rw.line_len (r : Rw) (h : r.ok) (hl : r.words.length ≤ 300) : r.line.length ≤ 6300 := by
  have := join_len_le " " r.words 20 fun p hp => (r.okw h p hp).1
  have e : (" " : Str).length = 1 := rfl
  rw [e] at this
  show (Txt.join " " r.words).length ≤ _
  omega
def wordsQ : List Pq → List Str
  | [] => []
  | q :: qs => q.words ++ wordsQ qs
def partsH (row : Int) : List Pq → Nat → List Td
  | [], _ => []
  | q :: qs, k => q.heard row k :: partsH row qs (k + q.words.length)
def Ps.toL : Ps → List Pq
  | .nil => []
  | .int m r => .int m :: r.toL
  | .str z r => .str z :: r.toL
  | .ex e r => .ex e :: r.toL
theorem Ps.toL_words : ∀ p : Ps, p.words = wordsQ p.toL
  | .nil => by simp only [Ps.words, Ps.toL, wordsQ]
  | .int m r => by simp only [Ps.words, Ps.toL, wordsQ, Pq.words, r.toL_words]; rfl
  | .str z r => by simp only [Ps.words, Ps.toL, wordsQ, Pq.words, r.toL_words]; rfl
  | .ex e r => by simp only [Ps.words, Ps.toL, wordsQ, Pq.words, r.toL_words]
theorem Ps.toL_heard (row : Int) : ∀ (p : Ps) (k : Nat), p.heard row k = partsH row p.toL k
  | .nil, k => by simp only [Ps.heard, Ps.toL, partsH]
  | .int m r, k => by simp only [Ps.heard, Ps.toL, partsH, Pq.heard, Pq.words, r.toL_heard row]; rfl
  | .str z r, k => by simp only [Ps.heard, Ps.toL, partsH, Pq.heard, Pq.words, r.toL_heard row]; rfl
  | .ex e r, k => by simp only [Ps.heard, Ps.toL, partsH, Pq.heard, Pq.words, r.toL_heard row]
def okPq (n : Nat) : Pq → Prop
  | .int m => m ≤ 65535
  | .str _ => True
  | .ex e => ∃ d, e.ok d ∧ d ≤ 12 ∧ 14 ≤ d + n
theorem Ps.toL_ok {n : Nat} : ∀ (p : Ps) (d : Nat) (cs : List Nat), p.ok d cs → (d ≤ 12 → 14 ≤ d + n) → ∀ q ∈ p.toL, okPq n q
  | .nil, d, cs, h, hn, q, hq => by cases hq
  | .int m r, d, cs, h, hn, q, hq => by
    obtain ⟨c, cs', rfl, hc, hr⟩ := h
    rcases List.mem_cons.mp hq with rfl | hq
    · show m ≤ 65535
      omega
    · exact r.toL_ok d _ hr hn q hq
  | .str z r, d, cs, h, hn, q, hq => by
    obtain ⟨c, cs', rfl, hc, _, _, hr⟩ := h
    rcases List.mem_cons.mp hq with rfl | hq
    · trivial
    · exact r.toL_ok d _ hr hn q hq
  | .ex e r, d, cs, h, hn, q, hq => by
    obtain ⟨c, cs', rfl, hc, hr⟩ := h
    rcases List.mem_cons.mp hq with rfl | hq
    · rcases hc with ⟨_, hd, he⟩ | ⟨_, hd, z, rfl, hz, hz2⟩
      · exact ⟨d, he, hd, hn hd⟩
      · exact ⟨d, by rw [Ex.ok]; exact ⟨spot1 hz, hz2⟩, hd, hn hd⟩
    · exact r.toL_ok d _ hr hn q hq
def spPW (n : Nat) : Sp := fun vs H Q _ => ∃ (v : V) (row : Int) (k : Nat) (q1 : Pq), vs = [v] ∧ TdR H (q1.heard row k) v ∧ okPq n q1 ∧ q1.words.length ≤ 1000 ∧
  ∀ p H', Same H H' → H p = none → H' p = some (.lst (q1.words.map V.str)) → Q (.ref p) H'
def spPWs (n : Nat) : Sp := fun vs H Q _ => ∃ (a : Addr) (vps : List V) (row : Int) (k : Nat) (qs : List Pq), vs = [.ref a] ∧ H a = some (.tup vps) ∧ All2 H (partsH row qs k) vps ∧ (∀ q ∈ qs, okPq n q) ∧ (wordsQ qs).length ≤ 1000 ∧
  ∀ p H', Same H H' → H p = none → H' p = some (.lst ((wordsQ qs).map V.str)) → Q (.ref p) H'
theorem cut2 {v u : V} {vs : List V} : cutV (v :: u :: vs) (some 2) none = vs := by
  have h : HT.sIx (v :: u :: vs).length 0 (some 2) = 2 := by
    show min 2 (vs.length + 1 + 1) = 2
    omega
  have h2 : HT.sIx (v :: u :: vs).length (v :: u :: vs).length none = vs.length + 2 := rfl
  unfold cutV
  rw [h, h2]
  exact List.take_of_length_le (by show vs.length ≤ _; omega)
theorem cut2_not {v u : V} {vs : List V} : ¬(HT.sIx (v :: u :: vs).length 0 (some 2) = 0 ∧ HT.sIx (v :: u :: vs).length (v :: u :: vs).length none = (v :: u :: vs).length) := by
  have h : HT.sIx (v :: u :: vs).length 0 (some 2) = 2 := by
    show min 2 (vs.length + 1 + 1) = 2
    omega
  rw [h]
  exact fun z => absurd z.1 (by decide)
theorem ok_pw {n L : Nat} {sp : Sp} (hsp : ∀ m, n = m + 1 → sp = spPWs m) {f : Addr} {fd : FuncData} (D : DefAt K mg "part_words" ["part"] s_part_words f fd) (M : Bi mg)
    (C_parts_words : Cal P w K mg base L2.CX0 L "parts_words" ["parts"] sp) : Cal P w K mg base L2.CX0 (L + 1) "part_words" ["part"] (spPW n) := by
  have S := S_part_words
  refine cal_of D.fn D.mgf D.bs D.kbs S (fun vs H Q E h => ?_) (fun cdv A outer s H vs Q E hq hr h => ?_)
  · obtain ⟨v, row, k, q1, rfl, _⟩ := h
    rfl
  · obtain ⟨v, row, k, q1, rfl, tv, ho, hw, q⟩ := h
    refine ⟨_, (pss_cons (ps_if (pt_val (pe_callB call_isi (by rfl) M.isinstance_ (by decide +kernel) (pa_cons (pv 0) (pa_cons (pe_bltn (v := .ty "str") (u := .type "str") (by rfl) M.str_ (by decide +kernel) rfl) pa_nil))))
  (pss_one (ps_ret (pe_lst (pa_cons (pv 0) pa_nil))))
  pss_nil)
 (pss_cons (ps_if (pt_val (pe_callB call_isi (by rfl) M.isinstance_ (by decide +kernel) (pa_cons (pv 0) (pa_cons (pe_bltn (v := .ty "int") (u := .type "int") (by rfl) M.int_ (by decide +kernel) rfl) pa_nil))))
  (pss_one (ps_ret (pe_lst (pa_cons (pe_callTy call_str_int (by rfl) M.str_ (by decide +kernel) (pa_cons (pv 0) pa_nil)) pa_nil))))
  pss_nil)
 (pss_cons (ps_if (pt_cmpR op_eq (pe_ix ix_tup (pv 0) pe_int (fun _ _ => rfl)) pe_str (nomark _))
  (pss_one (ps_ret (pe_lst (pa_cons (pe_ix ix_tup (pv 0) pe_int (fun _ _ => rfl)) pa_nil))))
  pss_nil)
 (pss_one (ps_ret (pe_op op_cat (pe_lst (pa_cons (pe_ix ix_tup (pv 0) pe_int (fun _ _ => rfl)) pa_nil)) (pe_c C_parts_words pass0 hq hr (by omega) (by rfl) (pa_cons (pe_slice sl_tup (pv 0) (po_some pe_int) po_none) pa_nil)))))))), ?_⟩
    cases q1 with
    | str z =>
      obtain rfl := tv.inv_str
      refine ⟨.str z, rfl, _, _, _, _, _, rfl, .ty "str", .base (.str _), (show PySem.W.kitOne K (.type "str") (.type "str") = some true from kit_ty (by decide +kernel)), ⟨_, rfl, iteT ?_⟩⟩
      exact ⟨.str z, rfl, by show 1 ≤ sizeLine; decide, fun p np => q p _ (same_new np) np upd_same⟩
    | int m =>
      obtain rfl := tv.inv_int
      refine ⟨.int (m : Int), rfl, _, _, _, _, _, rfl, .ty "str", .base (.int _), (show PySem.W.kitOne K (.type "int") (.type "str") = some false from kit_ty (by decide +kernel)), ⟨_, rfl, iteF ?_⟩⟩
      refine ⟨.int (m : Int), rfl, _, _, _, _, _, rfl, .ty "int", .base (.int _), (show PySem.W.kitOne K (.type "int") (.type "int") = some true from kit_ty (by decide +kernel)), ⟨_, rfl, iteT ?_⟩⟩
      exact ⟨.int (m : Int), rfl, (m : Int), rfl, log_small ho, by show 1 ≤ sizeLine; decide, fun p np => q p _ (same_new np) np upd_same⟩
    | ex e =>
      have hm : ∃ ts, e.heard row k = .tup ts := by cases e <;> exact ⟨_, by rw [Ex.heard]⟩
      obtain ⟨ts, hts⟩ := hm
      have tv1 : TdR H (e.heard row k) v := tv
      have tv2 := tv1
      rw [hts] at tv2
      obtain ⟨a, vs, rfl, ea, _⟩ := tv2.inv_tup
      refine ⟨.ref a, rfl, _, _, _, _, _, rfl, .ty "str", .base (.tup ea), (show PySem.W.kitOne K (.type "tuple") (.type "str") = some false from kit_ty (by decide +kernel)), ⟨_, rfl, iteF ?_⟩⟩
      refine ⟨.ref a, rfl, _, _, _, _, _, rfl, .ty "int", .base (.tup ea), (show PySem.W.kitOne K (.type "tuple") (.type "int") = some false from kit_ty (by decide +kernel)), ⟨_, rfl, iteF ?_⟩⟩
      obtain ⟨d, ho1, ho2, ho3⟩ := ho
      cases e with
      | nm z =>
        rw [Ex.heard] at tv1
        obtain ⟨a1, vs1, he1, ea1, a2⟩ := tv1.inv_tup
        cases he1
        obtain ⟨v1, vs1, rfl, t1, a2⟩ := a2.inv_cons
        obtain ⟨v2, vs1, rfl, t2, a2⟩ := a2.inv_cons
        obtain ⟨v3, vs1, rfl, t3, a2⟩ := a2.inv_cons
        obtain rfl := a2.inv_nil
        obtain rfl := t1.inv_str
        obtain rfl := t3.inv_str
        refine ⟨.ref a, rfl, a, _, 0, .str "name", rfl, rfl, .inl (.inl ea1), rfl, rfl, _, rfl, ?_⟩
        rw [decVS, decide_eq_true rfl]
        refine iteT ⟨.ref a, rfl, a, _, 2, .str z, rfl, rfl, .inl (.inl ea1), rfl, by show 1 ≤ sizeLine; decide, fun p np => q p _ (same_new np) np upd_same⟩
      | op wd ps =>
        rw [Ex.heard] at tv1
        obtain ⟨a1, vs1, he1, ea1, b2⟩ := tv1.inv_tup
        cases he1
        obtain ⟨v1, vs1, rfl, t1, b3⟩ := b2.inv_cons
        obtain ⟨v2, vs1, rfl, t2, b4⟩ := b3.inv_cons
        obtain rfl := t1.inv_str
        rw [Ex.ok] at ho1
        obtain ⟨sh, hsh, hd2, hps⟩ := ho1
        have hnn : wd ≠ "name" := expTab_name _ (lookup_mem hsh)
        refine ⟨.ref a, rfl, a, _, 0, .str wd, rfl, rfl, .inl (.inl ea1), atI_zero, rfl, _, rfl, ?_⟩
        rw [decVS, decide_eq_false hnn]
        refine iteF ?_
        refine ⟨.ref a, rfl, a, _, 0, .str wd, rfl, rfl, .inl (.inl ea1), atI_zero, by show 1 ≤ sizeLine; decide, fun l1 nl1 => ?_⟩
        have s1 := same_new (o := .lst [.str wd]) nl1
        refine ⟨.ref a, rfl, 2, rfl, a, _, rfl, .inl (.inl (s1 _ _ ea1)), cut2_not, fun px npx => ?_⟩
        rw [cut2]
        have s2 := s1.trans (same_new (o := .tup vs1) npx)
        obtain ⟨m, rfl⟩ : ∃ m, n = m + 1 := ⟨n - 1, by omega⟩
        obtain rfl := hsp m rfl
        rw [Ps.toL_heard] at b4
        have hwp : ps.words.length ≤ 999 := by
          have : (Ex.op wd ps).words.length ≤ 1000 := hw
          rw [Ex.words, List.length_cons] at this
          omega
        refine ⟨px, vs1, row, k + 1, ps.toL, rfl, upd_same, b4.same s2, ps.toL_ok (d + 1) _ hps (fun h => by omega), by rw [← Ps.toL_words]; omega, fun p H3 s3 np ep => ?_⟩
        refine ⟨l1, p, _, _, rfl, rfl, s3 _ _ (same_new npx _ _ upd_same), ep, ?_, fun pr npr => ?_⟩
        · rw [List.length_singleton, List.length_map, ← Ps.toL_words]
          exact Nat.le_trans (show 1 + ps.words.length ≤ 1000 by omega) (by decide)
        · refine q pr _ ((s2.trans s3).trans (same_new npr)) ((s2.trans s3).free npr) ?_
          rw [upd_same]
          show _ = some (HO.lst ((Ex.op wd ps).words.map V.str))
          rw [Ex.words, Ps.toL_words]
          rfl
theorem ok_pws {n L : Nat} {f : Addr} {fd : FuncData} (D : DefAt K mg "parts_words" ["parts"] s_parts_words f fd)
    (C_part_words : Cal P w K mg base L2.CX0 L "part_words" ["part"] (spPW n)) : Cal P w K mg base L2.CX0 (L + 1) "parts_words" ["parts"] (spPWs n) := by
  have S := S_parts_words
  refine cal_of D.fn D.mgf D.bs D.kbs S (fun vs H Q E h => ?_) (fun cdv A outer s H vs Q E hq hr h => ?_)
  · obtain ⟨a, vps, row, k, qs, rfl, _⟩ := h
    rfl
  · obtain ⟨a, vps, row, k, qs, rfl, ea, a2, ho, hw, q⟩ := h
    refine ⟨_, (pss_cons (ps_set (i := 1) S.nd rfl (.inl rfl) (pe_lst pa_nil))
 (pss_cons (ps_for PassesOwn.never rfl (pi_tup (pv 0)) (pg_name (i := 2) S.nd rfl (.inl rfl))
  (pss_one (ps_expr (pe_bm PySem.F.plainAttrs_list PySem.F.slot_list_extend PySem.F.type_list_extend mt_extend (pv 1) (pa_cons (pe_c C_part_words pass0 hq hr (by omega) (by rfl) (pa_cons (pv 2) pa_nil)) pa_nil)))))
 (pss_one (ps_ret (pv 1))))), ?_⟩
    refine ⟨by decide, fun l nl => ?_⟩
    have s1 := same_new (o := .lst []) nl
    have el : upd H l (.lst []) l = some (.lst []) := upd_same
    revert s1 el
    generalize upd H l (.lst []) = H1
    intro s1 el
    refine ⟨.ref a, rfl, a, rfl, ⟨vps, .inl (.inl (s1 _ _ ea))⟩, ?_⟩
    refine for_tup (K := K) (a := a) (xs := vps) (fun i σ H' => ∃ (dn : List Str) (rest : List Pq) (kk : Nat) (x2 : Option V), σ = [some (.ref a), some (.ref l), x2] ∧ Same H H' ∧ H' l = some (.lst (dn.map V.str)) ∧
      partsH row rest kk = (partsH row qs k).drop i ∧ dn ++ wordsQ rest = wordsQ qs ∧ ∀ q ∈ rest, okPq n q) ?_ ?_ ?_ ?_
    · exact ⟨[], qs, k, none, rfl, s1, el, rfl, rfl, ho⟩
    · rintro i σ H' _ ⟨dn, rest, kk, x2, rfl, sm, _⟩
      exact .inl (.inl (sm _ _ ea))
    · rintro i x σ H' hx ⟨dn, rest, kk, x2, rfl, sm, elw, hrm, hdw, hro⟩
      have hlt : i < (partsH row qs k).length := by
        rw [a2.1]
        rcases Nat.lt_or_ge i vps.length with h | h
        · exact h
        · rw [List.getElem?_eq_none h] at hx
          cases hx
      have hdrop : (partsH row qs k).drop i = (partsH row qs k)[i] :: (partsH row qs k).drop (i + 1) := List.drop_eq_getElem_cons hlt
      have tx0 : TdR H' (partsH row qs k)[i] x := (a2.2 i _ x (List.getElem?_eq_getElem hlt) hx).same sm
      cases rest with
      | nil =>
        rw [hdrop] at hrm
        cases hrm
      | cons q1 rest =>
        rw [hdrop] at hrm
        simp only [partsH] at hrm
        have h1 := (List.cons.inj hrm).1
        have h2 := (List.cons.inj hrm).2
        rw [← h1] at tx0
        simp only [wordsQ] at hdw
        have hlens : dn.length + (q1.words.length + (wordsQ rest).length) ≤ 1000 := by
          have := congrArg List.length hdw
          rw [List.length_append, List.length_append] at this
          omega
        refine ⟨.ref l, rfl, .inl ⟨rfl, _, .inl (.inl elw)⟩, x, rfl, x, row, kk, q1, rfl, tx0, hro q1 List.mem_cons_self, by omega, fun p H2 s2 np ep => ?_⟩
        have elw2 := s2 _ _ elw
        refine ⟨l, p, _, _, rfl, rfl, elw2, ep, ?_, ?_⟩
        · rw [List.length_map, List.length_map]
          exact Nat.le_trans (show dn.length + q1.words.length ≤ 1000 by omega) (by decide)
        · refine ⟨dn ++ q1.words, rest, kk + q1.words.length, _, rfl, same_mut (sm.trans s2) nl, ?_, h2, by rw [List.append_assoc]; exact hdw, fun q hq => hro q (List.mem_cons_of_mem _ hq)⟩
          rw [upd_same, List.map_append]
    · rintro σ H' ⟨dn, rest, kk, x2, rfl, sm, elw, hrm, hdw, hro⟩
      rw [List.drop_eq_nil_of_le (by rw [a2.1]; exact Nat.le_refl _)] at hrm
      cases rest with
      | cons q1 rest => cases hrm
      | nil =>
        simp only [wordsQ, List.append_nil] at hdw
        subst hdw
        exact ⟨.ref l, rfl, q l H' sm nl elw⟩
theorem ok_false {L : Nat} {f : Addr} {fd : FuncData} (D : DefAt K mg "parts_words" ["parts"] s_parts_words f fd) : Cal P w K mg base L2.CX0 (L + 1) "parts_words" ["parts"] (fun _ _ _ _ => False) :=
  cal_of D.fn D.mgf D.bs D.kbs S_parts_words (fun _ _ _ _ h => h.elim) (fun _ _ _ _ _ _ _ _ _ _ h => h.elim)
theorem pws_all {f1 f2 : Addr} {fd1 fd2 : FuncData} (D1 : DefAt K mg "part_words" ["part"] s_part_words f1 fd1) (D2 : DefAt K mg "parts_words" ["parts"] s_parts_words f2 fd2) (M : Bi mg) :
    ∀ n : Nat, Cal P w K mg base L2.CX0 (3 + 2 * n) "parts_words" ["parts"] (spPWs n)
  | 0 => ok_pws (L := 2) D2 (ok_pw (n := 0) (L := 1) (sp := fun _ _ _ _ => False) (fun m h => by cases h) D1 M (ok_false D2))
  | n + 1 => ok_pws (L := 3 + 2 * n + 1) D2 (ok_pw (n := n + 1) (L := 3 + 2 * n) (sp := spPWs n) (fun m h => by rw [Nat.succ.inj h]) D1 M (pws_all D1 D2 M n))
/-! ### rows, modules -/
def Rw.toL : Rw → List Pq
  | .row w ps => .str w :: ps.toL
  | .use x m cs es => .str "use" :: .str x :: .str m :: .int cs.length :: (cs.map .str ++ es.map .ex)
theorem wordsQ_append : ∀ a b : List Pq, wordsQ (a ++ b) = wordsQ a ++ wordsQ b
  | [], b => rfl
  | q :: a, b => by simp only [List.cons_append, wordsQ, wordsQ_append a b, List.append_assoc]
theorem wordsQ_strs : ∀ cs : List Str, wordsQ (cs.map .str) = cs
  | [] => rfl
  | c :: cs => by simp only [List.map_cons, wordsQ, Pq.words, wordsQ_strs cs]; rfl
theorem wordsQ_exs : ∀ es : List Ex, wordsQ (es.map .ex) = wordsL es
  | [] => rfl
  | e :: es => by simp only [List.map_cons, wordsQ, Pq.words, wordsL, wordsQ_exs es]
theorem Rw.toL_words (r : Rw) : wordsQ r.toL = r.words := by
  cases r with
  | row w ps => simp only [Rw.toL, Rw.words, wordsQ, Pq.words, ← Ps.toL_words]; rfl
  | use x m cs es => simp only [Rw.toL, Rw.words, wordsQ, Pq.words, wordsQ_append, wordsQ_strs, wordsQ_exs]; rfl
theorem partsH_exs (row : Int) : ∀ (es : List Ex) (k : Nat), partsH row (es.map .ex) k = heardL row es k
  | [], k => rfl
  | e :: es, k => by simp only [List.map_cons, partsH, heardL, Pq.heard, Pq.words, partsH_exs row es]
theorem partsH_strs (row : Int) : ∀ (cs : List Str) (es : List Ex) (k : Nat), partsH row (cs.map .str ++ es.map .ex) k = cs.map .str ++ heardL row es (k + cs.length)
  | [], es, k => by simp only [List.map_nil, List.nil_append, partsH_exs]; rfl
  | c :: cs, es, k => by
    simp only [List.map_cons, List.cons_append, partsH, Pq.heard, Pq.words, partsH_strs row cs es, List.length_cons, List.length_nil]
    rw [show k + (0 + 1) + cs.length = k + (cs.length + 1) by omega]
theorem partsH_len (row : Int) : ∀ (qs : List Pq) (k : Nat), (partsH row qs k).length = qs.length
  | [], k => rfl
  | q :: qs, k => by simp only [partsH, List.length_cons, partsH_len row qs]
def spRowW : Sp := fun vs H Q _ => ∃ (v : V) (row : Int) (r : Rw), vs = [v] ∧ TdR H (r.heard row) v ∧ r.ok ∧ r.words.length ≤ 300 ∧ ∀ p H', Same H H' → H p = none → H' p = some (.lst (r.words.map V.str)) → Q (.ref p) H'
theorem All2.append {H : Hp} : ∀ {ts us : List Td} {vs ws : List V}, All2 H ts vs → All2 H us ws → All2 H (ts ++ us) (vs ++ ws)
  | [], us, vs, ws, h, h2 => by
    rw [h.inv_nil]
    exact h2
  | t :: ts, us, vs, ws, h, h2 => by
    obtain ⟨v, vs', rfl, a, b⟩ := h.inv_cons
    exact .cons a (All2.append b h2)
theorem ok_roww {f : Addr} {fd : FuncData} (D : DefAt K mg "row_words" ["row"] s_row_words f fd) (M : Bi mg)
    (C_parts_words : Cal P w K mg base L2.CX0 29 "parts_words" ["parts"] (spPWs 13)) : Cal P w K mg base L2.CX0 30 "row_words" ["row"] spRowW := by
  have S := S_row_words
  refine cal_of D.fn D.mgf D.bs D.kbs S (fun vs H Q E h => ?_) (fun cdv A outer s H vs Q E hq hr h => ?_)
  · obtain ⟨v, row, r, rfl, _⟩ := h
    rfl
  · obtain ⟨v, row, r, rfl, tv, ho, hw, q⟩ := h
    refine ⟨_, (pss_cons (ps_if (pt_cmpR op_eq (pe_ix ix_tup (pv 0) pe_int (fun _ _ => rfl)) pe_str (nomark _))
  (pss_cons (ps_asg (pv 0) (pg_tup (by rfl) (pgs_cons (pg_name (i := 1) S.nd rfl (.inl rfl)) (pgs_cons (pg_name (i := 2) S.nd rfl (.inl rfl)) (pgs_cons (pg_name (i := 3) S.nd rfl (.inl rfl)) (pgs_cons (pg_name (i := 4) S.nd rfl (.inl rfl)) (pgs_cons (pg_name (i := 5) S.nd rfl (.inl rfl)) pgs_nil)))))))
 (pss_one (ps_ret (pe_c C_parts_words pass0 hq hr (by omega) (by rfl) (pa_cons (pe_tup (pa_cons (pv 1) (pa_cons (pv 2) (pa_cons (pv 3) (pa_cons (pe_callB call_len_seq (by rfl) M.len_ (by decide +kernel) (pa_cons (pv 4) pa_nil)) (StX.pa_star (pv 4) (StX.pa_star (pv 5) pa_nil))))))) pa_nil)))))
  pss_nil)
 (pss_one (ps_ret (pe_c C_parts_words pass0 hq hr (by omega) (by rfl) (pa_cons (pv 0) pa_nil))))), ?_⟩
    cases r with
    | row wd ps =>
      rw [Rw.heard] at tv
      obtain ⟨a, vs, rfl, ea, b2⟩ := tv.inv_tup
      have b2' := b2
      obtain ⟨v1, vps, rfl, t1, b3⟩ := b2.inv_cons
      obtain rfl := t1.inv_str
      obtain ⟨sh, hsh, hps⟩ := ho
      have hnn : wd ≠ "use" := rowTab_use _ (lookup_mem hsh)
      refine ⟨.ref a, rfl, a, _, 0, .str wd, rfl, rfl, .inl (.inl ea), atI_zero, rfl, _, rfl, ?_⟩
      rw [decVS, decide_eq_false hnn]
      refine iteF ?_
      have hps2 : partsH row (Rw.row wd ps).toL 0 = .str wd :: ps.heard row 1 := by
        rw [Ps.toL_heard]
        rfl
      refine ⟨.ref a, rfl, a, _, row, 0, (Rw.row wd ps).toL, rfl, ea, by rw [hps2]; exact b2', ?_, by rw [Rw.toL_words]; omega, fun p H3 s3 np ep => ?_⟩
      · intro y hy
        rcases List.mem_cons.mp hy with rfl | hy
        · trivial
        · exact ps.toL_ok 1 _ hps (fun _ => by decide) y hy
      · rw [Rw.toL_words] at ep
        exact q p H3 s3 np ep
    | use x m cs es =>
      rw [Rw.heard] at tv
      obtain ⟨a, vs, rfl, ea, b1⟩ := tv.inv_tup
      obtain ⟨v1, vs, rfl, t1, b2⟩ := b1.inv_cons
      obtain ⟨v2, vs, rfl, t2, b3⟩ := b2.inv_cons
      obtain ⟨v3, vs, rfl, t3, b4⟩ := b3.inv_cons
      obtain ⟨v4, vs, rfl, t4, b5⟩ := b4.inv_cons
      obtain ⟨v5, vs, rfl, t5, b6⟩ := b5.inv_cons
      obtain rfl := b6.inv_nil
      obtain rfl := t1.inv_str
      obtain rfl := t2.inv_str
      obtain rfl := t3.inv_str
      obtain ⟨ac, vcs, rfl, eac, acs⟩ := t4.inv_tup
      obtain ⟨ae, ves, rfl, eae, aes⟩ := t5.inv_tup
      have hcl : vcs.length = cs.length := by
        have := acs.1
        rw [List.length_map] at this
        exact this.symm
      have hel : ves.length = es.length := by
        have := aes.1
        rw [← this, ← partsH_exs, partsH_len, List.length_map]
      have h4 := ho.2.2.1
      have h6 := ho.2.2.2.2.1
      refine ⟨.ref a, rfl, a, _, 0, .str "use", rfl, rfl, .inl (.inl ea), atI_zero, rfl, _, rfl, ?_⟩
      rw [decVS, decide_eq_true rfl]
      refine iteT ⟨.ref a, rfl, a, _, rfl, .inl (.inl ea), rfl, _, _, rfl, _, _, rfl, _, _, rfl, _, _, rfl, _, _, rfl, rfl, ?_⟩
      refine ⟨.str "use", rfl, .str x, rfl, .str m, rfl, .ref ac, rfl, ac, _, rfl, .inr (.inl (.inl eac)), .ref ac, rfl, ac, vcs, rfl, .inl (.inl (.inl eac)), .ref ae, rfl, ae, ves, rfl, .inl (.inl (.inl eae)), ?_⟩
      refine ⟨?_, fun pt npt => ?_⟩
      · rw [List.length_cons, List.length_cons, List.length_cons, List.length_cons, List.length_append, List.length_append, hcl, hel]
        exact Nat.le_trans (show cs.length + (es.length + 0) + 1 + 1 + 1 + 1 ≤ 14 by omega) (by decide)
      · rw [hcl, List.append_nil]
        have s1 := same_new (o := .tup (.str "use" :: .str x :: .str m :: .int (cs.length : Int) :: (vcs ++ ves))) npt
        have hph : partsH row (Rw.use x m cs es).toL 0 = .str "use" :: .str x :: .str m :: .int (cs.length : Int) :: (cs.map .str ++ heardL row es (4 + cs.length)) := by
          simp only [Rw.toL, partsH, Pq.heard, Pq.words, partsH_strs]
          rfl
        have aAll : All2 H (partsH row (Rw.use x m cs es).toL 0) (.str "use" :: .str x :: .str m :: .int (cs.length : Int) :: (vcs ++ ves)) := by
          rw [hph]
          exact .cons (.str _) (.cons (.str _) (.cons (.str _) (.cons (.int _) (acs.append aes))))
        refine ⟨pt, _, row, 0, (Rw.use x m cs es).toL, rfl, upd_same, aAll.same s1, ?_, by rw [Rw.toL_words]; omega, fun p H3 s3 np ep => ?_⟩
        · intro y hy
          simp only [Rw.toL, List.mem_cons, List.mem_append, List.mem_map] at hy
          rcases hy with rfl | rfl | rfl | rfl | ⟨z, hz, rfl⟩ | ⟨e, he, rfl⟩
          · trivial
          · trivial
          · trivial
          · show cs.length ≤ 65535
            omega
          · trivial
          · exact ⟨1, ho.2.2.2.2.2 e he, by decide, by decide⟩
        · rw [Rw.toL_words] at ep
          exact q p H3 (s1.trans s3) (s1.free np) ep
def spShow : Sp := fun vs H Q _ => ∃ (v : V) (rs : List Rw), vs = [v] ∧ TdR H (.tup (heardM rs 0)) v ∧ (∀ r ∈ rs, r.ok ∧ r.words.length ≤ 300) ∧ rs.length ≤ 200 ∧ ∀ H', Same H H' → Q (.str (textOf rs)) H'
theorem ok_show {f : Addr} {fd : FuncData} (D : DefAt K mg "show_module" ["tree"] s_show_module f fd)
    (C_row_words : Cal P w K mg base L2.CX0 30 "row_words" ["row"] spRowW) : Cal P w K mg base L2.CX0 31 "show_module" ["tree"] spShow := by
  have S := S_show_module
  refine cal_of D.fn D.mgf D.bs D.kbs S (fun vs H Q E h => ?_) (fun cdv A outer s H vs Q E hq hr h => ?_)
  · obtain ⟨v, rs, rfl, _⟩ := h
    rfl
  · obtain ⟨v, rs, rfl, tv, hrs, hlen, q⟩ := h
    refine ⟨_, (pss_one (ps_ret (pe_join pe_str (pe_lc (own := [("row", 1)]) (g := gName 1) (tt := tYes) (te := tJ K (tC (V.str " ")) (tCall spRowW [] E0 (tCons (tVar 1) tNil))) rfl S.nd (pi_tup (pv 0)) (blkOk_by (own := [("row", 1)]) (N := N_show_module) (sc := defScope s_show_module) (by decide +kernel)) (fun _ _ _ _ _ => pg_name (i := 1) S.nd rfl (.inl rfl)) (fun _ _ _ _ _ => pts_nil) (fun _ _ _ _ _ => (pe_join pe_str (pe_c C_row_words pass0 hq hr (by omega) (by rfl) (pa_cons (pv 1) pa_nil)))))))), ?_⟩
    obtain ⟨a, vr, rfl, ea, ar⟩ := tv.inv_tup
    have hvl : vr.length = rs.length := by rw [← ar.1, heardM_len]
    refine ⟨⟨_, rfl⟩, .ref a, rfl, a, rfl, ⟨vr, .inl (.inl ea)⟩, fun D2 nD2 => ?_⟩
    refine lc_tup (K := K) (a := a) (xs := vr) (fun i H' => Same H H' ∧ H' D2 = some (.lst (((rs.take i).map Rw.line).map V.str))) ?_ ?_ ?_ ?_
    · exact ⟨same_new nD2, upd_same⟩
    · rintro i H' _ ⟨sm, _⟩
      exact .inl (.inl (sm _ _ ea))
    · rintro i v H' hv ⟨sm, eD2⟩
      have hi : i < rs.length := by
        rcases Nat.lt_or_ge i vr.length with h | h
        · omega
        · rw [List.getElem?_eq_none h] at hv
          cases hv
      have hr : rs[i]? = some rs[i] := List.getElem?_eq_getElem hi
      have ok1 := hrs _ (List.getElem_mem hi)
      have hh := heardM_get rs 0 i _ hr
      have tx : TdR H' (rs[i].heard ((0 + i : Nat) : Int)) v := (ar.2 i _ v hh hv).same sm
      refine ⟨rfl, ?_⟩
      unfold tYes
      refine iteT ⟨⟨_, rfl⟩, v, rfl, v, _, rs[i], rfl, tx, ok1.1, ok1.2, fun pw H2 s2 npw epw => ?_⟩
      refine ⟨_, pw, rs[i].words, rfl, rfl, .inl (.inl (.inl epw)), ?_, ?_⟩
      · have h1 := sum_len_le (ys := rs[i].words) (L := 20) fun y hy => (rs[i].okw ok1.1 y hy).1
        have e : (Str.ofString " ").length = 1 := rfl
        rw [e]
        have := ok1.2
        omega
      refine ⟨_, s2 _ _ eD2, ?_, same_mut (sm.trans s2) nD2, ?_⟩
      · rw [List.length_map, List.length_map, List.length_take]
        exact Nat.lt_of_le_of_lt (Nat.le_trans (Nat.min_le_right _ _) hlen) (by decide)
      · rw [upd_same, List.take_add_one, hr, List.map_append, List.map_append]
        rfl
    · rintro H2 ⟨s2, eD2⟩
      rw [hvl, List.take_of_length_le (Nat.le_refl _)] at eD2
      refine ⟨_, D2, rs.map Rw.line, rfl, rfl, .inl (.inl (.inl eD2)), ?_, q H2 s2⟩
      have h1 := sum_len_le (ys := rs.map Rw.line) (L := 6300) fun y hy => by
        obtain ⟨r, hr, rfl⟩ := List.mem_map.mp hy
        exact r.line_len (hrs r hr).1 (hrs r hr).2
      have e : (Str.ofString "\n").length = 1 := rfl
      rw [e]
      rw [List.length_map] at h1 ⊢
      omega

end
end K05

namespace K05
open PySem PySem.Spec PyProof.Rows L2 Kit
section
variable {P : Program} {w : World} {K : PySem.W.Frag} {mg : Str → Option Value} {base : Heap}
/-! ### the law's hand: texts and trees of modules -/
def ItemR (H : Hp) (D : Addr) (r : Rw) (i : Nat) (v : V) : Prop := ∃ (pr pw : Addr) (vh : V), v = .ref pr ∧ H pr = some (.tup [.ref pw, vh]) ∧ H pw = some (.lst (r.words.map V.str)) ∧ TdR H (r.heard (i : Int)) vh ∧ pw ≠ D
theorem ItemR.same {H H' : Hp} {D : Addr} {r : Rw} {i : Nat} {v : V} (h : ItemR H D r i v) (s : Same H H') : ItemR H' D r i v := by
  obtain ⟨pr, pw, vh, rfl, a, b, c, d⟩ := h
  exact ⟨pr, pw, vh, rfl, s _ _ a, s _ _ b, c.same s, d⟩
def spBoth : Sp := fun vs H Q _ => ∃ (l : Addr) (vr : List V) (rs : List Rw), vs = [.ref l] ∧ H l = some (.lst vr) ∧ All2 H (rs.map Rw.made) vr ∧ (∀ r ∈ rs, r.ok ∧ r.words.length ≤ 300) ∧ rs.length ≤ 200 ∧
  ∀ (p : Addr) (vt : V) (H' : Hp), Same H H' → H' p = some (.tup [.str (textOf rs), vt]) → TdR H' (.tup (heardM rs 0)) vt → Q (.ref p) H'
theorem ok_both {f : Addr} {fd : FuncData} (D : DefAt K mg "_law_both" ["_law_made"] s_l_both f fd) (M : Bi mg)
    (C_l_row_out : Cal P w K mg base L2.CX0 15 "_law_row_out" ["_law_made", "_law_row_here"] spRO) :
    Cal P w K mg base L2.CX0 16 "_law_both" ["_law_made"] spBoth := by
  have S := S_l_both
  refine cal_of D.fn D.mgf D.bs D.kbs S (fun vs H Q E h => ?_) (fun cdv A outer s H vs Q E hq hr h => ?_)
  · obtain ⟨l, vr, rs, rfl, _⟩ := h
    rfl
  · obtain ⟨l, vr, rs, rfl, el, ar, hrs, hlen, q⟩ := h
    refine ⟨_, (pss_cons (ps_setLc (i := 1) (own := [("_law_row_here", 2), ("_law_one", 3)]) (g := (gTup K 2 (gCons (gName 2) (gCons (gName 3) gNil)))) (tt := tYes) rfl S.nd rfl rfl (sw_true rfl rfl rfl (by decide +kernel)) (pi_enum (by rfl) M.enumerate_ (pa_cons (pv 0) pa_nil)) (blkOk_by (own := [("_law_row_here", 2), ("_law_one", 3)]) (N := N_l_both) (sc := defScope s_l_both) (by decide +kernel)) (fun _ _ _ _ _ => (pg_tup (by rfl) (pgs_cons (pg_name (i := 2) S.nd rfl (.inl rfl)) (pgs_cons (pg_name (i := 3) S.nd rfl (.inl rfl)) pgs_nil)))) (fun _ _ _ _ _ => pts_nil) (fun _ _ _ _ _ => (pe_c C_l_row_out pass0 hq hr (by omega) (by rfl) (pa_cons (pv 3) (pa_cons (pv 2) pa_nil)))))
 (pss_one (ps_ret (pe_tup (pa_cons (pe_join pe_str (pe_lc (own := [("_law_words", 4), ("_law_heard_so", 5)]) (g := (gTup K 2 (gCons (gName 4) (gCons (gName 5) gNil)))) (tt := tYes) (te := tJ K (tC (V.str " ")) (tVar 4)) rfl S.nd (pi_list (pv 1)) (blkOk_by (own := [("_law_words", 4), ("_law_heard_so", 5)]) (N := N_l_both) (sc := defScope s_l_both) (by decide +kernel)) (fun _ _ _ _ _ => (pg_tup (by rfl) (pgs_cons (pg_name (i := 4) S.nd rfl (.inl rfl)) (pgs_cons (pg_name (i := 5) S.nd rfl (.inl rfl)) pgs_nil)))) (fun _ _ _ _ _ => pts_nil) (fun _ _ _ _ _ => (pe_join pe_str (pv 4))))) (pa_cons (pe_callTy call_tuple_of (by rfl) M.tuple_ (by decide +kernel) (pa_cons (pe_lc (own := [("_law_words", 4), ("_law_heard_so", 5)]) (g := (gTup K 2 (gCons (gName 4) (gCons (gName 5) gNil)))) (tt := tYes) rfl S.nd (pi_list (pv 1)) (blkOk_by (own := [("_law_words", 4), ("_law_heard_so", 5)]) (N := N_l_both) (sc := defScope s_l_both) (by decide +kernel)) (fun _ _ _ _ _ => (pg_tup (by rfl) (pgs_cons (pg_name (i := 4) S.nd rfl (.inl rfl)) (pgs_cons (pg_name (i := 5) S.nd rfl (.inl rfl)) pgs_nil)))) (fun _ _ _ _ _ => pts_nil) (fun _ _ _ _ _ => (pv 5))) pa_nil)) pa_nil)))))), ?_⟩
    have hvl : vr.length = rs.length := by
      have := ar.1
      rw [List.length_map] at this
      exact this.symm
    refine ⟨.ref l, rfl, l, vr, rfl, .inl (.inl el), fun D nD => ?_⟩
    refine lc_enum (K := K) (a := l) (xs := vr) (fun i H' => Same H H' ∧ ∃ vs, H' D = some (.lst vs) ∧ vs.length = i ∧ ∀ (j : Nat) r v, rs[j]? = some r → vs[j]? = some v → ItemR H' D r j v) ?_ ?_ ?_ ?_
    · exact ⟨same_new nD, [], upd_same, rfl, fun j r v _ h => by cases h⟩
    · rintro i H' _ ⟨sm, _⟩
      exact .inl (.inl (sm _ _ el))
    · rintro i x H' T hx ⟨sm, vs, eD, hvs, hit⟩ nT
      have hi : i < rs.length := by
        rcases Nat.lt_or_ge i vr.length with h | h
        · omega
        · rw [List.getElem?_eq_none h] at hx
          cases hx
      have hri : (rs.map Rw.made)[i]? = some rs[i].made := by
        rw [List.getElem?_map, List.getElem?_eq_getElem hi]
        rfl
      have smT := sm.trans (same_new (o := .tup [.int (i : Int), x]) nT)
      have tx : TdR (upd H' T (.tup [.int (i : Int), x])) rs[i].made x := (ar.2 i _ x hri hx).same smT
      have nDT : D ≠ T := fun z => by
        rw [z, nT] at eD
        cases eD
      have ok1 := hrs _ (List.getElem_mem hi)
      refine ⟨T, _, rfl, .inl (.inl upd_same), rfl, _, _, rfl, _, _, rfl, rfl, rfl, ?_⟩
      unfold tYes
      refine iteT ⟨x, rfl, .int (i : Int), rfl, x, (i : Int), rs[i], rfl, tx, ok1.1, ok1.2, fun p pw vh H4 s4 npw ep epw tvh => ?_⟩
      have eDT : upd H' T (.tup [.int (i : Int), x]) D = some (.lst vs) := (upd_ne nDT).trans eD
      have eD4 := s4 _ _ eDT
      refine ⟨vs, eD4, by rw [hvs]; exact Nat.lt_of_lt_of_le hi (Nat.le_trans hlen (by decide)), same_mut (smT.trans s4) nD, vs ++ [.ref p], upd_same, by rw [List.length_append, hvs]; rfl, ?_⟩
      have upD : ∀ (b : Addr) (o : HO), b ≠ D → H4 b = some o → upd H4 D (.lst (vs ++ [.ref p])) b = some o := fun b o hb e => (upd_ne hb).trans e
      have npD : pw ≠ D := fun z => by
        rw [z, eDT] at npw
        cases npw
      have tupD : ∀ p2 vs2, H4 p2 = some (.tup vs2) → upd H4 D (.lst (vs ++ [.ref p])) p2 = some (.tup vs2) := fun p2 vs2 e5 => upD p2 _ (fun z => by
        rw [z, eD4] at e5
        cases e5) e5
      intro j r v hr hv
      rcases Nat.lt_or_ge j vs.length with hj | hj
      · rw [List.getElem?_append_left hj] at hv
        obtain ⟨pr, pw2, vh2, rfl, a, b, c, nd⟩ := (hit j r v hr hv)
        have sx : Same H' H4 := (same_new (o := .tup [.int (i : Int), x]) nT).trans s4
        exact ⟨pr, pw2, vh2, rfl, tupD _ _ (sx _ _ a), upD _ _ nd (sx _ _ b), (c.same sx).keep tupD, nd⟩
      · rw [List.getElem?_append_right hj] at hv
        have hj0 : j - vs.length = 0 := by
          rcases Nat.eq_zero_or_pos (j - vs.length) with h | h
          · exact h
          · rw [List.getElem?_eq_none (by rw [List.length_singleton]; omega)] at hv
            cases hv
        rw [hj0] at hv
        cases hv
        obtain rfl : j = i := by omega
        rw [List.getElem?_eq_getElem hi] at hr
        cases hr
        exact ⟨p, pw, vh, rfl, tupD _ _ ep, upD _ _ npD epw, tvh.keep tupD, npD⟩
    · rintro H1 ⟨s1, vs, eD, hvs, hit⟩
      rw [hvl] at hvs
      have get_v : ∀ (i : Nat) v, vs[i]? = some v → ∃ r, rs[i]? = some r ∧ ItemR H1 D r i v := fun i v hv => by
        have hi : i < rs.length := by
          rcases Nat.lt_or_ge i vs.length with h | h
          · omega
          · rw [List.getElem?_eq_none h] at hv
            cases hv
        exact ⟨rs[i], List.getElem?_eq_getElem hi, hit i _ v (List.getElem?_eq_getElem hi) hv⟩
      refine ⟨⟨_, rfl⟩, .ref D, rfl, D, rfl, ⟨vs, .inl (.inl eD)⟩, fun D2 nD2 => ?_⟩
      refine lc_list (K := K) (a := D) (xs := vs) (fun i H' => Same H1 H' ∧ H' D2 = some (.lst (((rs.take i).map Rw.line).map V.str))) ?_ ?_ ?_ ?_
      · exact ⟨same_new nD2, upd_same⟩
      · rintro i H' _ ⟨sm, _⟩
        exact .inl (.inl (sm _ _ eD))
      · rintro i v H' hv ⟨sm, eD2⟩
        obtain ⟨r, hr, pr, pw, vh, rfl, epr, epw, tvh, _⟩ := get_v i v hv
        have ok1 := hrs r (List.mem_of_getElem? hr)
        refine ⟨pr, _, rfl, .inl (.inl (sm _ _ epr)), rfl, _, _, rfl, _, _, rfl, rfl, rfl, ?_⟩
        unfold tYes
        refine iteT ⟨⟨_, rfl⟩, .ref pw, rfl, _, pw, r.words, rfl, rfl, .inl (.inl (.inl (sm _ _ epw))), ?_, ?_⟩
        · have h1 := sum_len_le (ys := r.words) (L := 20) fun y hy => (r.okw ok1.1 y hy).1
          have e : (Str.ofString " ").length = 1 := rfl
          rw [e]
          have := ok1.2
          omega
        refine ⟨_, eD2, ?_, same_mut sm nD2, ?_⟩
        · rw [List.length_map, List.length_map, List.length_take]
          exact Nat.lt_of_le_of_lt (Nat.le_trans (Nat.min_le_right _ _) hlen) (by decide)
        · rw [upd_same, List.take_add_one, hr, List.map_append, List.map_append]
          rfl
      · rintro H2 ⟨s2, eD2⟩
        rw [hvs, List.take_of_length_le (Nat.le_refl _)] at eD2
        refine ⟨_, D2, rs.map Rw.line, rfl, rfl, .inl (.inl (.inl eD2)), ?_, ?_⟩
        · have h1 := sum_len_le (ys := rs.map Rw.line) (L := 6300) fun y hy => by
            obtain ⟨r, hr, rfl⟩ := List.mem_map.mp hy
            exact r.line_len (hrs r hr).1 (hrs r hr).2
          have e : (Str.ofString "\n").length = 1 := rfl
          rw [e]
          rw [List.length_map] at h1 ⊢
          omega
        refine ⟨.ref D, rfl, D, rfl, ⟨vs, .inl (.inl (s2 _ _ eD))⟩, fun D3 nD3 => ?_⟩
        refine lc_list (K := K) (a := D) (xs := vs) (fun i H' => Same H2 H' ∧ ∃ hv, H' D3 = some (.lst hv) ∧ All2 H' ((heardM rs 0).take i) hv) ?_ ?_ ?_ ?_
        · exact ⟨same_new nD3, [], upd_same, .nil⟩
        · rintro i H' _ ⟨sm, _⟩
          exact .inl (.inl (sm _ _ (s2 _ _ eD)))
        · rintro i v H' hv ⟨sm, hvv, eD3, a3⟩
          obtain ⟨r, hr, pr, pw, vh, rfl, epr, epw, tvh, _⟩ := get_v i v hv
          have sA := s2.trans sm
          refine ⟨pr, _, rfl, .inl (.inl (sA _ _ epr)), rfl, _, _, rfl, _, _, rfl, rfl, rfl, ?_⟩
          unfold tYes
          refine iteT ⟨vh, rfl, hvv, eD3, ?_, same_mut sm nD3, hvv ++ [vh], upd_same, ?_⟩
          · rw [← a3.1, List.length_take, heardM_len]
            exact Nat.lt_of_le_of_lt (Nat.le_trans (Nat.min_le_right _ _) hlen) (by decide)
          · have hg := heardM_get rs 0 i r hr
            rw [Nat.zero_add] at hg
            rw [List.take_add_one, hg]
            exact (a3.snoc (tvh.same sA)).keep fun p2 vs2 e5 => by
              rw [upd_ne (fun z => by
                rw [z, eD3] at e5
                cases e5)]
              exact e5
        · rintro H3 ⟨s3, hvv, eD3, a3⟩
          rw [hvs, ← heardM_len rs 0, List.take_of_length_le (Nat.le_refl _)] at a3
          refine ⟨D3, _, rfl, .inl ⟨.inl (.inl eD3), fun pt npt => ⟨by show 2 ≤ sizeLine; decide, fun p np => ?_⟩⟩⟩
          have s4 := same_new (o := .tup hvv) npt
          have s5 := same_new (o := .tup [.str (textOf rs), .ref pt]) np
          exact q p (.ref pt) _ (((s1.trans s2).trans s3).trans (s4.trans s5)) upd_same (.mk (s5 _ _ upd_same) ((a3.same s4).same s5))
def spLMod : Sp := fun vs H Q _ => ∃ (d c : Addr) (t deep : Nat), vs = [.ref d, .int 12, .int (deep : Int)] ∧ Deck H d c t ∧ 1 ≤ deep ∧ deep ≤ 12 ∧ t + 9200000000 < 100000000000 ∧
  ∀ (l : Addr) (vr : List V) (rs : List Rw) (t' : Nat) (H' : Hp), (∀ r ∈ rs, r.ok ∧ r.words.length ≤ 300) → rs.length ≤ 12 → t ≤ t' → t' ≤ t + 9200000000 → But d c H H' → Deck H' d c t' →
    H' l = some (.lst vr) → All2 H' (rs.map Rw.made) vr → Q (.ref l) H'
theorem ok_lmod {f : Addr} {fd : FuncData} (D : DefAt K mg "_law_module" ["_law_deck_here", "_law_most", "_law_deep"] s_l_module f fd) (M : Bi mg)
    (C_l_draw : Cal P w K mg base L2.CX0 1 "_law_draw" ["_law_deck_here", "_law_sides"] spDraw)
    (C_l_row : Cal P w K mg base L2.CX0 17 "_law_row" ["_law_deck_here", "_law_deep"] spLRow) :
    Cal P w K mg base L2.CX0 18 "_law_module" ["_law_deck_here", "_law_most", "_law_deep"] spLMod := by
  have S := S_l_module
  refine cal_of D.fn D.mgf D.bs D.kbs S (fun vs H Q E h => ?_) (fun cdv A outer s H vs Q E hq hr h => ?_)
  · obtain ⟨d, c, t, deep, rfl, _⟩ := h
    rfl
  · obtain ⟨d, c, t, deep, rfl, dk, hd1, hd2, ht, q⟩ := h
    refine ⟨_, (pss_one (ps_ret (pe_lc (own := [("_law_k", 3)]) (g := gName 3) (tt := tYes) rfl S.nd (pi_range1 (by rfl) M.range_ (pa_cons (pe_c C_l_draw pass0 hq hr (by omega) (by rfl) (pa_cons (pv 0) (pa_cons (pe_op op_add (pv 1) pe_int) pa_nil))) pa_nil)) (blkOk_by (own := [("_law_k", 3)]) (N := N_l_module) (sc := defScope s_l_module) (by decide +kernel)) (fun _ _ _ _ _ => pg_name (i := 3) S.nd rfl (.inl rfl)) (fun _ _ _ _ _ => pts_nil) (fun _ _ _ _ _ => (pe_c C_l_row pass0 hq hr (by omega) (by rfl) (pa_cons (pv 0) (pa_cons (pv 2) pa_nil))))))), ?_⟩
    refine ⟨.ref d, rfl, .int 12, rfl, _, _, rfl, rfl, d, c, 13, t, rfl, by decide, by decide, dk, by omega, fun m H1 m0 m1 b1 dk1 => ⟨m, rfl, by omega, by omega, fun D1 nD1 => ?_⟩⟩
    have fD1 := dk1.free nD1
    obtain ⟨B, hB⟩ : ∃ B : Nat, B = 700000000 := ⟨_, rfl⟩
    refine lc_range (fun i H' => ∃ (tt : Nat) (rs : List Rw) (vs : List V), But d c H1 H' ∧ Deck H' d c tt ∧ t ≤ tt ∧ tt ≤ t + 1 + B * i ∧ H' D1 = some (.lst vs) ∧ All2 H' (rs.map Rw.made) vs ∧ rs.length = i ∧ ∀ r ∈ rs, r.ok ∧ r.words.length ≤ 300) ?_ ?_ ?_
    · exact ⟨t + 1, [], [], .of (same_new nD1), dk1.new nD1, by omega, by omega, upd_same, .nil, rfl, fun z hz => by cases hz⟩
    · rintro i H' hi ⟨tt, rs, vs, bb, dkk, h1, h2, eD, a2, hl, hrs⟩
      refine ⟨rfl, ?_⟩
      unfold tYes
      have hBi : B * i ≤ B * 11 := Nat.mul_le_mul_left _ (by omega)
      have hBs : B * (i + 1) = B * i + B := Nat.mul_succ _ _
      refine iteT ⟨.ref d, rfl, .int (deep : Int), rfl, d, c, tt, deep, rfl, dkk, hd1, hd2, by omega, fun r t7 H7 v hrok hrl ht7 ht7' b7 dk7 tv => ?_⟩
      have eD7 := b7 _ _ fD1.1 fD1.2 eD
      have hvl : vs.length = i := by
        rw [← a2.1, List.length_map]
        exact hl
      refine ⟨vs, eD7, by rw [hvl]; exact Nat.lt_of_lt_of_le (show i < 13 by omega) (by decide), t7, rs ++ [r], vs ++ [v], (bb.trans b7).mut nD1, dk7.mut fD1.1.symm fD1.2.symm, by omega, by omega, upd_same, ?_, by rw [List.length_append, hl]; rfl, ?_⟩
      · rw [List.map_append]
        exact ((a2.keep (but_tups dkk b7)).snoc tv).keep fun p2 vs2 e5 => by
          rw [upd_ne (fun z => by
            rw [z, eD7] at e5
            cases e5)]
          exact e5
      · intro y hy
        rcases List.mem_append.mp hy with h | h
        · exact hrs y h
        · rw [List.mem_singleton.mp h]
          exact ⟨hrok, hrl⟩
    · rintro H7 ⟨t7, rs, vs, b7, dk7, h71, h72, eD, a2, hl, hrs⟩
      have hBi : B * m.toNat ≤ B * 12 := Nat.mul_le_mul_left _ (by omega)
      exact q D1 vs rs t7 H7 hrs (by omega) h71 (by omega) (b1.trans b7) dk7 eD a2
theorem Rw.sr2 (row : Nat) (hr : row ≤ 9999999) (r : Rw) (h : r.ok) (hl : r.words.length ≤ 300) : SR (r.heard (row : Int)) 20 (450 * r.words.length + 1000) := by
  cases r with
  | row w ps =>
    obtain ⟨sh, hlk, hp⟩ := h
    simp only [Rw.words, List.length_cons] at hl ⊢
    exact (SRL.tup (SRL.cons (SR.str (rowTab_okZ _ (lookup_mem hlk)) _) (Ps.sr row hr ps 1 1 _ hp (by omega)))).mono (by decide) (by omega)
  | use x m cs es =>
    obtain ⟨hx, hm, hc, hcs, he, hes⟩ := h
    simp only [Rw.words, List.length_cons, List.length_append] at hl ⊢
    have h1 := SRL.tup (SRL.strs (fun c hc => (hcs c hc).2) 14)
    have h2 := SRL.tup (SRL.exs row hr es (4 + cs.length) hes (by omega))
    exact (SRL.tup (SRL.cons (SR.str okZ_use _) (SRL.cons (SR.str hx.2 _) (SRL.cons (SR.str hm.2 _) (SRL.cons h1 (SRL.cons h2 SRL.nil)))))).mono (by decide) (by omega)
def manyW (rs : List Rw) : Nat := (rs.map fun r => r.words.length).sum
theorem SRL.rows2 : ∀ (rs : List Rw) (i : Nat), (∀ r ∈ rs, r.ok ∧ r.words.length ≤ 300) → i + rs.length ≤ 9999999 → SRL (heardM rs i) 20 (450 * manyW rs + 1000 * rs.length)
  | [], i, _, _ => SRL.nil
  | r :: rs, i, h, hi => by
    simp only [heardM, List.length_cons, manyW, List.map_cons, List.sum_cons] at hi ⊢
    have h1 := h r List.mem_cons_self
    have ih := SRL.rows2 rs (i + 1) (fun z hz => h z (List.mem_cons_of_mem _ hz)) (by omega)
    exact (SRL.cons (Rw.sr2 i (by omega) r h1.1 h1.2) ih).mono (Nat.le_refl _) (by unfold manyW; omega)
theorem sqL_same {H H' : Hp} {a : Addr} {xs : List V} (h : SqL K H a xs) (s : Same H H') : SqL K H' a xs := by
  rcases h with (h | ⟨o, h⟩) | h
  · exact .inl (.inl (s _ _ h))
  · exact .inl (.inr ⟨o, s _ _ h⟩)
  · exact .inr h
def spLaw (K : PySem.W.Frag) : Sp := fun vs H Q _ => ∃ (a : Addr) (ns : List Int), vs = [.ref a] ∧ SqL K H a (ns.map V.int) ∧ ns.length ≤ 63 ∧
  (∀ z ∈ ns, Builtin.Int.intBits z ≤ 1048576) ∧ ∀ H', Q (.bl true) H'
def goodM (rs : List Rw) : Prop := (∀ r ∈ rs, r.ok ∧ r.words.length ≤ 300) ∧ rs.length ≤ 200 ∧ manyW rs ≤ 3600
theorem Rw.line_ne (r : Rw) (h : r.ok) : r.line ≠ "" := by
  intro e
  have hs := r.split h
  rw [e] at hs
  have h0 : Txt.split (Str.ofString "") (Str.ofString " ") = [Str.ofString ""] := by decide +kernel
  rw [h0] at hs
  cases r with
  | row w ps =>
    obtain ⟨sh, hl, _⟩ := h
    have hw : w = Str.ofString "" := (List.cons.inj hs).1.symm
    rw [hw] at hl
    exact absurd (rowTab_ne _ (lookup_mem hl)) (fun z => z rfl)
  | use x m cs es =>
    have hw : Str.ofString "" = Str.ofString "use" := (List.cons.inj hs).1
    exact absurd hw (by decide +kernel)
theorem mod_case {rs : List Rw} (g : goodM rs) : (textOf rs = "" ∧ heardM rs 0 = [] ∨ (textOf rs).length ≤ 10000000 ∧ (∀ l ∈ Txt.split (textOf rs) "\n", OkLine l) ∧ textOf rs ≠ "" ∧
    (heardM rs 0).length = (Txt.split (textOf rs) "\n").length ∧ (∀ (i : Nat) l t, (Txt.split (textOf rs) "\n")[i]? = some l → (heardM rs 0)[i]? = some t → rdRow (i : Int) l = some t)) := by
  by_cases h0 : rs = []
  · subst h0
    exact .inl ⟨rfl, rfl⟩
  · have hs := textOf_split rs (fun r hr => (g.1 r hr).1) h0
    refine .inr ⟨?_, ?_, ?_, ?_, ?_⟩
    · have h1 := join_len_le "\n" (rs.map Rw.line) 6300 fun y hy => by
        obtain ⟨r, hr, rfl⟩ := List.mem_map.mp hy
        exact r.line_len (g.1 r hr).1 (g.1 r hr).2
      have e : (Str.ofString "\n").length = 1 := rfl
      rw [e, List.length_map] at h1
      have := g.2.1
      show (Txt.join "\n" (rs.map Rw.line)).length ≤ _
      omega
    · intro l hl
      rw [hs] at hl
      obtain ⟨r, hr, rfl⟩ := List.mem_map.mp hl
      exact r.okLine (g.1 r hr).1 (g.1 r hr).2
    · intro e
      have hs2 := hs
      rw [e] at hs2
      have h1 : Txt.split (Str.ofString "") (Str.ofString "\n") = [Str.ofString ""] := by decide +kernel
      rw [h1] at hs2
      cases rs with
      | nil => exact h0 rfl
      | cons r rs =>
        exact r.line_ne (g.1 r List.mem_cons_self).1 (List.cons.inj hs2).1.symm
    · rw [hs, heardM_len, List.length_map]
    · rw [hs]
      exact heardM_rd rs fun r hr => (g.1 r hr).1
theorem mod_shown {rs : List Rw} (g : goodM rs) : (pd (.tup (heardM rs 0))).showable = true ∧ (pd (.tup (heardM rs 0))).hasDict = false ∧ (pd (.tup (heardM rs 0))).depth ≤ 150 ∧ (pd (.tup (heardM rs 0))).shown.length ≤ sizeLine := by
  have h := (SRL.rows2 rs 0 g.1 (by have := g.2.1; omega)).tup
  have h2 := g.2.1
  have h3 := g.2.2
  exact ⟨h.sh, h.hd, Nat.le_trans h.dp (by decide), Nat.le_trans (show _ ≤ 2000000 by have := h.ln; omega) (by decide)⟩
theorem manyW_le {B : Nat} : ∀ {rs : List Rw}, (∀ r ∈ rs, r.words.length ≤ B) → manyW rs ≤ B * rs.length
  | [], _ => Nat.zero_le _
  | r :: rs, h => by
    have h1 := h r List.mem_cons_self
    have h2 := manyW_le (rs := rs) fun z hz => h z (List.mem_cons_of_mem _ hz)
    unfold manyW at h2 ⊢
    simp only [List.map_cons, List.sum_cons, List.length_cons]
    rw [Nat.mul_succ]
    omega
/-- the text tells the tree -/
theorem Rw.split_inj : ∀ {rs ss : List Rw}, goodM rs → goodM ss → textOf rs = textOf ss → heardM rs 0 = heardM ss 0 := by
  intro rs ss g h e
  have key : ∀ {rs : List Rw}, goodM rs → rs ≠ [] → textOf rs ≠ "" := fun {rs} g hne => by
    rcases mod_case g with ⟨_, h2⟩ | ⟨_, _, h3, _⟩
    · have := congrArg List.length h2
      rw [heardM_len] at this
      exact absurd (List.length_eq_zero_iff.mp this) hne
    · exact h3
  by_cases h0 : rs = []
  · subst h0
    by_cases h1 : ss = []
    · subst h1
      rfl
    · exact absurd e.symm (key h h1)
  · by_cases h1 : ss = []
    · subst h1
      exact absurd e (key g h0)
    · have s1 := textOf_split rs (fun r hr => (g.1 r hr).1) h0
      have s2 := textOf_split ss (fun r hr => (h.1 r hr).1) h1
      rw [e, s2] at s1
      have hl : ss.length = rs.length := by
        have := congrArg List.length s1
        rw [List.length_map, List.length_map] at this
        exact this
      apply List.ext_getElem?
      intro i
      cases hi : rs[i]? with
      | none =>
        have hn : rs.length ≤ i := by
          rcases Nat.lt_or_ge i rs.length with q | q
          · rw [List.getElem?_eq_getElem q] at hi
            cases hi
          · exact q
        rw [List.getElem?_eq_none (by rw [heardM_len]; exact hn), List.getElem?_eq_none (by rw [heardM_len]; omega)]
      | some r =>
        have q : i < rs.length := by
          rcases Nat.lt_or_ge i rs.length with q | q
          · exact q
          · rw [List.getElem?_eq_none q] at hi
            cases hi
        have hj : ss[i]? = some ss[i] := List.getElem?_eq_getElem (by omega)
        have h2 := congrArg (fun l : List Str => l[i]?) s1
        simp only [List.getElem?_map, hi, hj, Option.map_some] at h2
        have h3 : ss[i].line = r.line := Option.some.inj h2
        have r1 := r.rd ((0 + i : Nat) : Int) r.line (g.1 r (List.mem_of_getElem? hi)).1 (r.split (g.1 r (List.mem_of_getElem? hi)).1)
        have okj := (h.1 _ (List.getElem_mem (show i < ss.length by omega))).1
        have r2 := ss[i].rd ((0 + i : Nat) : Int) r.line okj (by rw [← h3]; exact ss[i].split okj)
        rw [heardM_get rs 0 i r hi, heardM_get ss 0 i _ hj, Option.some.inj (r1.symm.trans r2)]

end
end K05

namespace K05
open PySem PySem.Spec PyProof.Rows L2 Kit
section
variable {P : Program} {w : World} {K : PySem.W.Frag} {mg : Str → Option Value} {base : Heap}
/-! ### the tree tells the text; equal trees -/
mutual
theorem eqv_eq : ∀ t u : Td, (pd t).eqv (pd u) = true → t = u
  | .str z, .str y, h => by
    rw [pd, pd, PyData.eqv] at h
    rw [LawfulBEq.eq_of_beq h]
  | .int i, .int j, h => by
    rw [pd, pd, PyData.eqv] at h
    rw [LawfulBEq.eq_of_beq h]
  | .tup xs, .tup ys, h => by
    rw [pd, pd, PyData.eqv] at h
    rw [eqvL_eq xs ys h]
  | .str z, .int j, h => by
    rw [pd, pd, PyData.eqv] at h
    cases h
  | .str z, .tup j, h => by
    rw [pd, pd, PyData.eqv] at h
    cases h
  | .int z, .str j, h => by
    rw [pd, pd, PyData.eqv] at h
    cases h
  | .int z, .tup j, h => by
    rw [pd, pd, PyData.eqv] at h
    cases h
  | .tup z, .str j, h => by
    rw [pd, pd, PyData.eqv] at h
    cases h
  | .tup z, .int j, h => by
    rw [pd, pd, PyData.eqv] at h
    cases h
theorem eqvL_eq : ∀ ts us : List Td, PyData.eqvAll (pdL ts) (pdL us) = true → ts = us
  | [], [], _ => rfl
  | [], u :: us, h => by
    rw [pdL, pdL, PyData.eqvAll] at h
    cases h
  | t :: ts, [], h => by
    rw [pdL, pdL, PyData.eqvAll] at h
    cases h
  | t :: ts, u :: us, h => by
    rw [pdL, pdL, PyData.eqvAll, Bool.and_eq_true] at h
    rw [eqv_eq t u h.1, eqvL_eq ts us h.2]
end
theorem shaped_of {rs : List Rw} (g : goodM rs) : SeqAt.shaped (pd (.tup (heardM rs 0))) = true := by
  have h := (SRL.rows2 rs 0 g.1 (by have := g.2.1; omega)).tup
  rw [SeqAt.shaped, h.cl, Bool.true_and, decide_eq_true_eq]
  exact Nat.le_trans h.dp (by decide)
theorem Ex.heard_tup (row : Int) (e : Ex) (k : Nat) : ∃ xs, e.heard row k = .tup xs := by cases e <;> exact ⟨_, by rw [Ex.heard]⟩
theorem Ps.ok_ex {e : Ex} {r : Ps} {d : Nat} {cs : List Nat} (h : (Ps.ex e r).ok d cs) : (∃ d', e.ok d') ∧ ∃ cs', r.ok d cs' := by
  obtain ⟨c, cs', rfl, hc, hr⟩ := h
  rcases hc with ⟨_, hd, he⟩ | ⟨_, hd, z, rfl, hz, hz2⟩
  · exact ⟨⟨d, he⟩, cs', hr⟩
  · exact ⟨⟨d, by rw [Ex.ok]; exact ⟨spot1 hz, hz2⟩⟩, cs', hr⟩
mutual
theorem Ex.hinj (row : Int) : ∀ (e f : Ex) (k l d d' : Nat), e.ok d → f.ok d' → e.heard row k = f.heard row l → e = f
  | .nm z, .nm y, k, l, d, d', _, _, h => by
    simp only [Ex.heard, Td.tup.injEq, List.cons.injEq, Td.str.injEq] at h
    rw [h.2.2.1]
  | .nm z, .op w ps, k, l, d, d', _, ho, h => by
    rw [Ex.ok] at ho
    obtain ⟨sh, hs, _⟩ := ho
    simp only [Ex.heard, Td.tup.injEq, List.cons.injEq, Td.str.injEq] at h
    exact absurd h.1.symm (expTab_name _ (lookup_mem hs))
  | .op w ps, .nm z, k, l, d, d', ho, _, h => by
    rw [Ex.ok] at ho
    obtain ⟨sh, hs, _⟩ := ho
    simp only [Ex.heard, Td.tup.injEq, List.cons.injEq, Td.str.injEq] at h
    exact absurd h.1 (expTab_name _ (lookup_mem hs))
  | .op w ps, .op v qs, k, l, d, d', ho, ho', h => by
    rw [Ex.ok] at ho ho'
    obtain ⟨sh, hs, _, hp⟩ := ho
    obtain ⟨sh', hs', _, hp'⟩ := ho'
    simp only [Ex.heard, Td.tup.injEq, List.cons.injEq, Td.str.injEq] at h
    rw [h.1, Ps.hinj row ps qs _ _ _ _ _ _ hp hp' h.2.2]
theorem Ps.hinj (row : Int) : ∀ (p q : Ps) (k l d d' : Nat) (cs cs' : List Nat), p.ok d cs → q.ok d' cs' → p.heard row k = q.heard row l → p = q
  | .nil, .nil, _, _, _, _, _, _, _, _, _ => rfl
  | .nil, .int i r, _, _, _, _, _, _, _, _, h => by simp [Ps.heard] at h
  | .nil, .str i r, _, _, _, _, _, _, _, _, h => by simp [Ps.heard] at h
  | .nil, .ex i r, _, _, _, _, _, _, _, _, h => by simp [Ps.heard] at h
  | .int i r, .nil, _, _, _, _, _, _, _, _, h => by simp [Ps.heard] at h
  | .int i r, .int j s, k, l, d, d', cs, cs', ho, ho', h => by
    obtain ⟨c, cs2, rfl, _, hr⟩ := ho
    obtain ⟨c', cs2', rfl, _, hr'⟩ := ho'
    simp only [Ps.heard, List.cons.injEq, Td.int.injEq] at h
    rw [Int.ofNat.inj h.1, Ps.hinj row r s _ _ _ _ _ _ hr hr' h.2]
  | .int i r, .str j s, _, _, _, _, _, _, _, _, h => by simp [Ps.heard] at h
  | .int i r, .ex e s, k, l, _, _, _, _, _, _, h => by
    obtain ⟨xs, hx⟩ := Ex.heard_tup row e l
    simp [Ps.heard, hx] at h
  | .str i r, .nil, _, _, _, _, _, _, _, _, h => by simp [Ps.heard] at h
  | .str i r, .int j s, _, _, _, _, _, _, _, _, h => by simp [Ps.heard] at h
  | .str i r, .str j s, k, l, d, d', cs, cs', ho, ho', h => by
    obtain ⟨c, cs2, rfl, _, _, _, hr⟩ := ho
    obtain ⟨c', cs2', rfl, _, _, _, hr'⟩ := ho'
    simp only [Ps.heard, List.cons.injEq, Td.str.injEq] at h
    rw [h.1, Ps.hinj row r s _ _ _ _ _ _ hr hr' h.2]
  | .str i r, .ex e s, k, l, _, _, _, _, _, _, h => by
    obtain ⟨xs, hx⟩ := Ex.heard_tup row e l
    simp [Ps.heard, hx] at h
  | .ex e r, .nil, _, _, _, _, _, _, _, _, h => by simp [Ps.heard] at h
  | .ex e r, .int j s, k, l, _, _, _, _, _, _, h => by
    obtain ⟨xs, hx⟩ := Ex.heard_tup row e k
    simp [Ps.heard, hx] at h
  | .ex e r, .str j s, k, l, _, _, _, _, _, _, h => by
    obtain ⟨xs, hx⟩ := Ex.heard_tup row e k
    simp [Ps.heard, hx] at h
  | .ex e r, .ex f s, k, l, d, d', cs, cs', ho, ho', h => by
    obtain ⟨⟨d1, he⟩, cs2, hr⟩ := Ps.ok_ex ho
    obtain ⟨⟨d2, hf⟩, cs2', hr'⟩ := Ps.ok_ex ho'
    simp only [Ps.heard, List.cons.injEq] at h
    rw [Ex.hinj row e f _ _ _ _ he hf h.1, Ps.hinj row r s _ _ _ _ _ _ hr hr' h.2]
end
theorem heardL_inj (row : Int) : ∀ (es fs : List Ex) (k l : Nat), (∀ e ∈ es, e.ok 1) → (∀ e ∈ fs, e.ok 1) → heardL row es k = heardL row fs l → es = fs
  | [], [], _, _, _, _, _ => rfl
  | [], f :: fs, _, _, _, _, h => by simp [heardL] at h
  | e :: es, [], _, _, _, _, h => by simp [heardL] at h
  | e :: es, f :: fs, k, l, h1, h2, h => by
    simp only [heardL, List.cons.injEq] at h
    rw [Ex.hinj row e f _ _ _ _ (h1 e List.mem_cons_self) (h2 f List.mem_cons_self) h.1, heardL_inj row es fs _ _ (fun z hz => h1 z (List.mem_cons_of_mem _ hz)) (fun z hz => h2 z (List.mem_cons_of_mem _ hz)) h.2]
theorem strs_inj : ∀ {a b : List Str}, a.map Td.str = b.map Td.str → a = b
  | [], [], _ => rfl
  | [], _ :: _, h => by simp at h
  | _ :: _, [], h => by simp at h
  | x :: a, y :: b, h => by
    simp only [List.map_cons, List.cons.injEq, Td.str.injEq] at h
    rw [h.1, strs_inj h.2]
theorem Rw.hinj (row : Int) (r s : Rw) (hr : r.ok) (hs : s.ok) (h : r.heard row = s.heard row) : r = s := by
  cases r with
  | row w ps =>
    obtain ⟨sh, hl, hp⟩ := hr
    cases s with
    | row v qs =>
      obtain ⟨sh', hl', hp'⟩ := hs
      simp only [Rw.heard, Td.tup.injEq, List.cons.injEq, Td.str.injEq] at h
      rw [h.1, Ps.hinj row ps qs _ _ _ _ _ _ hp hp' h.2]
    | use x m cs es =>
      simp only [Rw.heard, Td.tup.injEq, List.cons.injEq, Td.str.injEq] at h
      exact absurd h.1 (rowTab_use _ (lookup_mem hl))
  | use x m cs es =>
    cases s with
    | row v qs =>
      obtain ⟨sh', hl', hp'⟩ := hs
      simp only [Rw.heard, Td.tup.injEq, List.cons.injEq, Td.str.injEq] at h
      exact absurd h.1.symm (rowTab_use _ (lookup_mem hl'))
    | use y n ds fs =>
      simp only [Rw.heard, Td.tup.injEq, List.cons.injEq, Td.str.injEq] at h
      obtain ⟨_, h1, h2, h3, h4, _⟩ := h
      rw [h1, h2, strs_inj h3, heardL_inj row es fs _ _ hr.2.2.2.2.2 hs.2.2.2.2.2 h4]
theorem heardM_inj : ∀ (rs ss : List Rw) (i : Nat), (∀ r ∈ rs, r.ok) → (∀ r ∈ ss, r.ok) → heardM rs i = heardM ss i → rs = ss
  | [], [], _, _, _, _ => rfl
  | [], s :: ss, _, _, _, h => by simp [heardM] at h
  | r :: rs, [], _, _, _, h => by simp [heardM] at h
  | r :: rs, s :: ss, i, h1, h2, h => by
    simp only [heardM, List.cons.injEq] at h
    rw [Rw.hinj _ r s (h1 r List.mem_cons_self) (h2 s List.mem_cons_self) h.1, heardM_inj rs ss (i + 1) (fun z hz => h1 z (List.mem_cons_of_mem _ hz)) (fun z hz => h2 z (List.mem_cons_of_mem _ hz)) h.2]
theorem eqv_text {rs ss : List Rw} (g : goodM rs) (h : goodM ss) : (pd (.tup (heardM rs 0))).eqv (pd (.tup (heardM ss 0))) = decide (textOf rs = textOf ss) := by
  by_cases e : textOf rs = textOf ss
  · rw [decide_eq_true e, Rw.split_inj g h e]
    exact SeqAt.eqv_refl _ (SRL.rows2 ss 0 h.1 (by have := h.2.1; omega)).tup.cl
  · rw [decide_eq_false e, Bool.eq_false_iff]
    intro z
    have h1 := eqv_eq _ _ z
    injection h1 with h2
    exact e (by rw [heardM_inj rs ss 0 (fun r hr => (g.1 r hr).1) (fun r hr => (h.1 r hr).1) h2])

end
end K05

namespace K05
open PySem PySem.Spec PyProof.Rows L2 Kit
section
variable {P : Program} {w : World} {K : PySem.W.Frag} {mg : Str → Option Value} {base : Heap}
/-! ### the law -/
def ItemM (H : Hp) (v : V) : Prop := ∃ (p : Addr) (vt : V) (rs : List Rw), v = .ref p ∧ H p = some (.tup [.str (textOf rs), vt]) ∧ TdR H (.tup (heardM rs 0)) vt ∧ goodM rs
theorem ItemM.keep {H H' : Hp} {v : V} (h : ItemM H v) (k : ∀ p vs, H p = some (.tup vs) → H' p = some (.tup vs)) : ItemM H' v := by
  obtain ⟨p, vt, rs, rfl, a, b, g⟩ := h
  exact ⟨p, vt, rs, rfl, k _ _ a, b.keep k, g⟩
theorem ItemM.same {H H' : Hp} {v : V} (h : ItemM H v) (s : Same H H') : ItemM H' v := h.keep fun p vs e => s p _ e
def clkR (z : Str) : Rw := .row "clock" (.str z .nil)
def wirR (z : Str) : Rw := .row "wire" (.str z (.int 1 (.ex (.op "num" (.int 1 (.int 0 .nil))) .nil)))
theorem clkR_ok {z : Str} (h : isNm z = true) : (clkR z).ok ∧ (clkR z).words.length = 2 := ⟨⟨"X", rfl, 88, [], rfl, rfl, h, isNm_okZ h, rfl⟩, rfl⟩
theorem wirR_ok {z : Str} (h : isNm z = true) : (wirR z).ok ∧ (wirR z).words.length = 6 := by
  refine ⟨⟨"XWE", rfl, 88, _, rfl, rfl, h, isNm_okZ h, 87, _, rfl, .inl ⟨rfl, by decide, by decide⟩, 69, _, rfl, .inl ⟨rfl, by decide, ?_⟩, rfl⟩, rfl⟩
  rw [Ex.ok]
  exact ⟨"WK", rfl, .inr rfl, 87, _, rfl, .inl ⟨rfl, by decide, by decide⟩, 75, _, rfl, .inr ⟨rfl, by decide⟩, rfl⟩
theorem manyW_append (a b : List Rw) : manyW (a ++ b) = manyW a + manyW b := by
  unfold manyW
  rw [List.map_append, List.sum_append]
theorem short_good {zs : List Str} {z : Str} (hz : isNm z = true) (hzs : ∀ y ∈ zs, isNm y = true) (hl : zs.length = 60) : goodM (zs.map clkR ++ List.replicate 40 (wirR z)) := by
  refine ⟨fun r hr => ?_, ?_, ?_⟩
  · rcases List.mem_append.mp hr with h | h
    · obtain ⟨y, hy, rfl⟩ := List.mem_map.mp h
      have := clkR_ok (hzs y hy)
      exact ⟨this.1, by rw [this.2]; decide⟩
    · rw [List.eq_of_mem_replicate h]
      have := wirR_ok hz
      exact ⟨this.1, by rw [this.2]; decide⟩
  · rw [List.length_append, List.length_map, List.length_replicate, hl]
    decide
  · rw [manyW_append]
    have h1 := manyW_le (B := 2) (rs := zs.map clkR) fun r hr => by
      obtain ⟨y, hy, rfl⟩ := List.mem_map.mp hr
      exact Nat.le_of_eq (clkR_ok (hzs y hy)).2
    have h2 := manyW_le (B := 6) (rs := List.replicate 40 (wirR z)) fun r hr => by
      rw [List.eq_of_mem_replicate hr]
      exact Nat.le_of_eq (wirR_ok hz).2
    rw [List.length_map, hl] at h1
    rw [List.length_replicate] at h2
    omega
theorem all2_rep {H : Hp} {t : Td} {v : V} (h : TdR H t v) : ∀ n : Nat, All2 H (List.replicate n t) (List.replicate n v)
  | 0 => .nil
  | n + 1 => .cons h (all2_rep h n)
theorem flat_rep {v : V} : ∀ n : Nat, (List.replicate n [v]).flatten = List.replicate n v
  | 0 => rfl
  | n + 1 => by
    rw [List.replicate_succ, List.flatten_cons, flat_rep n]
    rfl
def rs1 : List Rw := [.row "clock" (.str "c" .nil), .row "in" (.str "x" (.int 8 (.str "c" .nil)))]
theorem rs1_text : textOf rs1 = Str.ofString "clock c\nin x 8 c" := by decide +kernel
theorem rs1_ok : ∀ r ∈ rs1, r.ok ∧ r.words.length ≤ 300 := by
  have hx : isNm (Str.ofString "x") = true := by decide +kernel
  have hc : isNm (Str.ofString "c") = true := by decide +kernel
  intro r hr
  unfold rs1 at hr
  simp only [List.mem_cons, List.not_mem_nil, or_false] at hr
  rcases hr with rfl | rfl
  · exact ⟨⟨"X", rfl, 88, [], rfl, rfl, hc, isNm_okZ hc, rfl⟩, by decide⟩
  · exact ⟨⟨"XWX", rfl, 88, _, rfl, rfl, hx, isNm_okZ hx, 87, _, rfl, .inl ⟨rfl, by decide, by decide⟩, 88, _, rfl, rfl, hc, isNm_okZ hc, rfl⟩, by decide⟩
theorem ok_law {f : Addr} {fd : FuncData} (D : DefAt K mg "law" ["_law_script"] s_law f fd) (M : Bi mg)
    (C_l_deck : Cal P w K mg base L2.CX0 1 "_law_deck" ["_law_script"] (spDeck K))
    (C_l_draw : Cal P w K mg base L2.CX0 1 "_law_draw" ["_law_deck_here", "_law_sides"] spDraw)
    (C_l_name : Cal P w K mg base L2.CX0 3 "_law_name" ["_law_deck_here"] spName)
    (C_l_module : Cal P w K mg base L2.CX0 18 "_law_module" ["_law_deck_here", "_law_most", "_law_deep"] spLMod)
    (C_l_both : Cal P w K mg base L2.CX0 16 "_law_both" ["_law_made"] spBoth)
    (C_show_module : Cal P w K mg base L2.CX0 31 "show_module" ["tree"] spShow)
    (C_read_module : Cal P w K mg base L2.CX0 34 "read_module" ["text"] spMod) :
    FnG P w K mg base L2.CX0 35 f fd ["_law_script"] (spLaw K) := by
  have S := S_law
  refine fng_of D.fn S (fun vs H Q E h => ?_) (fun cdv A outer s H vs Q E hq hr h => ?_)
  · obtain ⟨a, ns, rfl, _⟩ := h
    rfl
  · obtain ⟨a, ns, rfl, hs, hl, hb, q⟩ := h
    refine ⟨_, (pss_cons (ps_set (i := 1) S.nd rfl (.inr rfl) (pe_c C_l_deck pass0 hq hr (by omega) (by rfl) (pa_cons (pv 0) pa_nil)))
 (pss_cons (ps_setLc (i := 2) (own := [("_law_turn", 3)]) (g := gName 3) (tt := tYes) (te := tCall spBoth [] E0 (tCons (tCall spLMod [] E0 (tCons (tVar 1) (tCons (tC (V.int 12)) (tCons (tOp (rIxL K) (tLst (tCons (tC (V.int 3)) (tCons (tC (V.int 6)) (tCons (tC (V.int 12)) tNil)))) (tCall spDraw [] E0 (tCons (tVar 1) (tCons (tC (V.int 3)) tNil)))) tNil)))) tNil)) rfl S.nd rfl rfl (sw_true rfl rfl rfl (by decide +kernel)) (pi_range1 (by rfl) M.range_ (pa_cons pe_int pa_nil)) (blkOk_by (own := [("_law_turn", 3)]) (N := N_law) (sc := defScope s_law) (by decide +kernel)) (fun _ _ _ _ _ => pg_name (i := 3) S.nd rfl (.inl rfl)) (fun _ _ _ _ _ => pts_nil) (fun _ _ _ _ _ => (pe_c C_l_both pass0 hq hr (by omega) (by rfl) (pa_cons (pe_c C_l_module pass0 hq hr (by omega) (by rfl) (pa_cons (pv 1) (pa_cons pe_int (pa_cons (pe_ix ix_list (pe_lst (pa_cons pe_int (pa_cons pe_int (pa_cons pe_int pa_nil)))) (pe_c C_l_draw pass0 hq hr (by omega) (by rfl) (pa_cons (pv 1) (pa_cons pe_int pa_nil))) (fun _ _ => rfl)) pa_nil)))) pa_nil))))
 (pss_cons (ps_set (i := 4) S.nd rfl (.inl rfl) (pe_op op_cat (pe_lc (own := [("_law_k", 5)]) (g := gName 5) (tt := tYes) rfl S.nd (pi_range1 (by rfl) M.range_ (pa_cons pe_int pa_nil)) (blkOk_by (own := [("_law_k", 5)]) (N := N_law) (sc := defScope s_law) (by decide +kernel)) (fun _ _ _ _ _ => pg_name (i := 5) S.nd rfl (.inl rfl)) (fun _ _ _ _ _ => pts_nil) (fun _ _ _ _ _ => (pe_tup (pa_cons pe_str (pa_cons (pe_c C_l_name pass0 hq hr (by omega) (by rfl) (pa_cons (pv 1) pa_nil)) pa_nil))))) (pe_op op_rep (pe_lst (pa_cons (pe_tup (pa_cons pe_str (pa_cons (pe_c C_l_name pass0 hq hr (by omega) (by rfl) (pa_cons (pv 1) pa_nil)) (pa_cons pe_int (pa_cons (pe_tup (pa_cons pe_str (pa_cons pe_int (pa_cons pe_int pa_nil)))) pa_nil))))) pa_nil)) pe_int)))
 (pss_cons (ps_expr (pe_bm PySem.F.plainAttrs_list PySem.F.slot_list_append PySem.F.type_list_append mt_append (pv 2) (pa_cons (pe_c C_l_both pass0 hq hr (by omega) (by rfl) (pa_cons (pv 4) pa_nil)) pa_nil)))
 (pss_cons (ps_for PassesOwn.never rfl (pi_list (pe_op op_cat (pv 2) (pe_revL (pv 2)))) (pg_tup (by rfl) (pgs_cons (pg_name (i := 6) S.nd rfl (.inl rfl)) (pgs_cons (pg_name (i := 7) S.nd rfl (.inl rfl)) pgs_nil)))
  (pss_cons (ps_par (i := 8) (j := 9) rfl S.nd rfl rfl (by decide) rfl rfl (pa_cons (pe_callB (call_reprD hq (room200 hr)) (by rfl) M.repr_ (by decide +kernel) (pa_cons (pv 7) pa_nil)) (pa_cons (pe_c C_read_module pass0 hq hr (by omega) (by rfl) (pa_cons (pv 6) pa_nil)) pa_nil)) (by rfl))
 (pss_cons (ps_if (PW.pt (pw_or (pt_cmpR op_ne (pe_callB (call_reprD hq (room200 hr)) (by rfl) M.repr_ (by decide +kernel) (pa_cons (pv 9) pa_nil)) (pv 8) (nomark _)) (pw_or (pt_cmpR op_ne (pe_c C_show_module pass0 hq hr (by omega) (by rfl) (pa_cons (pv 9) pa_nil)) (pv 6) (nomark _)) (pw_or1 (pt_cmpR op_ne (pe_cK C_show_module pass0 hq hr (by omega) (by rfl) (by decide) (pk_cons (pv 9) pk_nil)) (pv 6) (nomark _))))))
  (pss_one (ps_ret pe_bl))
  pss_nil)
 (pss_one (ps_if (pt_cmpR op_ne (pe_callB (call_reprD hq (room200 hr)) (by rfl) M.repr_ (by decide +kernel) (pa_cons (pe_c C_read_module pass0 hq hr (by omega) (by rfl) (pa_cons (pe_c C_show_module pass0 hq hr (by omega) (by rfl) (pa_cons (pv 9) pa_nil)) pa_nil)) pa_nil)) (pv 8) (nomark _))
  (pss_one (ps_ret pe_bl))
  pss_nil)))))
 (pss_cons (ps_for PassesOwn.never rfl (pi_list (pv 2)) (pg_tup (by rfl) (pgs_cons (pg_name (i := 6) S.nd rfl (.inl rfl)) (pgs_cons (pg_name (i := 7) S.nd rfl (.inl rfl)) pgs_nil)))
  (pss_one (ps_for PassesOwn.never rfl (pi_list (pv 2)) (pg_tup (by rfl) (pgs_cons (pg_name (i := 10) S.nd rfl (.inl rfl)) (pgs_cons (pg_name (i := 11) S.nd rfl (.inl rfl)) pgs_nil)))
  (pss_one (ps_if (pt_cmpR op_ne (pe_cmpR op_eq (pv 6) (pv 10) (nomark _)) (pe_cmpR (op_eqD hr.units) (pe_c C_read_module pass0 hq hr (by omega) (by rfl) (pa_cons (pv 6) pa_nil)) (pe_c C_read_module pass0 hq hr (by omega) (by rfl) (pa_cons (pv 10) pa_nil)) (nomark _)) (nomark _))
  (pss_one (ps_ret pe_bl))
  pss_nil)))))
 (pss_one (ps_ret (pe_and (pe_cmpR op_eq (pe_c C_show_module pass0 hq hr (by omega) (by rfl) (pa_cons (pe_tup pa_nil) pa_nil)) pe_str (nomark _)) (pe_one (pe_cmpR op_eq (pe_c C_show_module pass0 hq hr (by omega) (by rfl) (pa_cons (pe_tup (pa_cons (pe_tup (pa_cons pe_str (pa_cons pe_str pa_nil))) (pa_cons (pe_tup (pa_cons pe_str (pa_cons pe_str (pa_cons pe_int (pa_cons pe_str pa_nil))))) pa_nil))) pa_nil)) pe_str (nomark _)))))))))))), ?_⟩
    refine ⟨.ref a, rfl, a, ns, rfl, hs, hl, hb, fun d c H1 s1 nd nc dk => ?_⟩
    obtain ⟨B, hB⟩ : ∃ B : Nat, B = 9300000000 := ⟨_, rfl⟩
    refine ⟨3, rfl, by decide, by decide, fun L nL => ?_⟩
    have fL := dk.free nL
    refine lc_range (fun i H' => ∃ (t : Nat) (vs : List V), Deck H' d c t ∧ t ≤ B * i ∧ H' L = some (.lst vs) ∧ vs.length = i ∧ ∀ v ∈ vs, ItemM H' v) ?_ ?_ ?_
    · exact ⟨0, [], dk.new nL, Nat.zero_le _, upd_same, rfl, fun v h => by cases h⟩
    · rintro i H' hi ⟨t, vs, dk', ht, eL, hvs, hit⟩
      have hi3 : i < 3 := hi
      have hBi : B * i ≤ B * 2 := Nat.mul_le_mul_left _ (by omega)
      have hBs : B * (i + 1) = B * i + B := Nat.mul_succ _ _
      refine ⟨rfl, ?_⟩
      unfold tYes
      refine iteT ⟨.ref d, rfl, by show 3 ≤ sizeLine; decide, fun p np => ?_⟩
      have ep : upd H' p (.lst [.int 3, .int 6, .int 12]) p = some (.lst [.int 3, .int 6, .int 12]) := upd_same
      have dkp := dk'.new (o := .lst [.int 3, .int 6, .int 12]) np
      have fp := dk'.free np
      refine ⟨.ref d, rfl, d, c, 3, t, rfl, by decide, by decide, dkp, by omega, fun r H2 r0 r1 b2 dk2 => ?_⟩
      obtain ⟨deep, ed, hd1, hd2⟩ : ∃ n : Nat, atI [V.int 3, .int 6, .int 12] r = some (.int (n : Int)) ∧ 1 ≤ n ∧ n ≤ 12 := by
        have h : r = 0 ∨ r = 1 ∨ r = 2 := by omega
        rcases h with rfl | rfl | rfl
        · exact ⟨3, rfl, by omega, by omega⟩
        · exact ⟨6, rfl, by omega, by omega⟩
        · exact ⟨12, rfl, by omega, by omega⟩
      refine ⟨p, _, r, _, rfl, rfl, .inl (.inl (b2 _ _ fp.1 fp.2 ep)), ed, ?_⟩
      refine ⟨d, c, t + 1, deep, rfl, dk2, hd1, hd2, by omega, fun l vr rs t3 H3 hrs hlen ht3 ht3' b3 dk3 el ar => ?_⟩
      refine ⟨l, vr, rs, rfl, el, ar, hrs, by omega, fun pp vt H4 s4 epp tvt => ?_⟩
      have g : goodM rs := ⟨hrs, by omega, by
        have h1 := manyW_le (B := 300) (rs := rs) fun r hr => (hrs r hr).2
        have h2 : 300 * rs.length ≤ 300 * 12 := Nat.mul_le_mul_left _ hlen
        omega⟩
      have bA : But d c H' H4 := (((But.of (same_new np)).trans b2).trans b3).same s4
      have eL4 := bA _ _ fL.1 fL.2 eL
      have dk4 := dk3.same s4
      have kL : ∀ p2 vs2, H4 p2 = some (.tup vs2) → upd H4 L (.lst (vs ++ [.ref pp])) p2 = some (.tup vs2) := fun p2 vs2 e5 => by
        rw [upd_ne (fun z => by
          rw [z, eL4] at e5
          cases e5)]
        exact e5
      refine ⟨vs, eL4, by rw [hvs]; exact Nat.lt_of_lt_of_le hi3 (by decide), t3, vs ++ [.ref pp], dk4.mut fL.1.symm fL.2.symm, by omega, upd_same, by rw [List.length_append, hvs]; rfl, fun v hv => ?_⟩
      rcases List.mem_append.mp hv with h | h
      · exact ((hit v h).keep (but_tups dk' bA)).keep kL
      · rw [List.mem_singleton.mp h]
        exact ItemM.keep ⟨pp, vt, rs, rfl, epp, tvt, g⟩ kL
    · rintro H2 ⟨t, vs, dk2, ht, eL, hvs, hit⟩
      have ht3 : t ≤ B * 3 := ht
      -- a hundred short rows
      refine ⟨60, rfl, by decide, by decide, fun D1 nD1 => ?_⟩
      have fD1 := dk2.free nD1
      refine lc_range (fun i H' => ∃ (tt : Nat) (zs : List Str) (ws : List V), But d c H2 H' ∧ Deck H' d c tt ∧ tt ≤ t + 12 * i ∧ H' D1 = some (.lst ws) ∧ All2 H' ((zs.map clkR).map Rw.made) ws ∧ zs.length = i ∧ ∀ z ∈ zs, isNm z = true) ?_ ?_ ?_
      · exact ⟨t, [], [], .of (same_new nD1), dk2.new nD1, by omega, upd_same, .nil, rfl, fun z h => by cases h⟩
      · rintro i H' hi ⟨tt, zs, ws, bb, dk', h1, eD, a2, hl2, hzs⟩
        have hi60 : i < 60 := hi
        refine ⟨rfl, ?_⟩
        unfold tYes
        refine iteT ⟨.ref d, rfl, d, c, tt, rfl, dk', by omega, fun z t7 H7 hz ht7 ht7' b7 dk7 => ⟨by show 2 ≤ sizeLine; decide, fun p np => ?_⟩⟩
        have s7 := same_new (o := .tup [.str "clock", .str z]) np
        have eD7 := s7 _ _ (b7 _ _ fD1.1 fD1.2 eD)
        have bA : But d c H' (upd H7 p (.tup [.str "clock", .str z])) := b7.same s7
        have hwl : ws.length = i := by
          rw [← a2.1, List.length_map, List.length_map]
          exact hl2
        refine ⟨ws, eD7, by rw [hwl]; exact Nat.lt_of_lt_of_le hi60 (by decide), t7, zs ++ [z], ws ++ [.ref p], (bb.trans bA).mut nD1, (dk7.same s7).mut fD1.1.symm fD1.2.symm, by omega, upd_same, ?_, by rw [List.length_append, hl2]; rfl, ?_⟩
        · rw [List.map_append, List.map_append]
          refine (All2.snoc (a2.keep (but_tups dk' bA)) (.mk upd_same (.cons (.str _) (.cons (.str _) .nil)))).keep fun p2 vs2 e5 => ?_
          rw [upd_ne (fun z => by
            rw [z, eD7] at e5
            cases e5)]
          exact e5
        · intro y hy
          rcases List.mem_append.mp hy with h | h
          · exact hzs y h
          · rw [List.mem_singleton.mp h]
            exact hz
      · rintro H3 ⟨t3, zs, ws, b3, dk3, h1, eD, a2, hl2, hzs⟩
        have hl60 : zs.length = 60 := hl2
        have h160 : t3 ≤ t + 12 * 60 := h1
        refine ⟨.ref d, rfl, d, c, t3, rfl, dk3, by omega, fun z t4 H4 hz ht4 ht4' b4 dk4 => ?_⟩
        refine ⟨by show 3 ≤ sizeLine; decide, fun p1 np1 => ⟨by show 4 ≤ sizeLine; decide, fun p2 np2 => ⟨by show 1 ≤ sizeLine; decide, fun p3 np3 => ?_⟩⟩⟩
        refine ⟨p3, 40, _, rfl, rfl, upd_same, by decide, by decide, by show 1 * 40 ≤ sizeLine; decide, fun p4 np4 => ?_⟩
        have u1 := same_new (o := .tup [.str "num", .int 1, .int 0]) np1
        have u2 := same_new (o := .tup [.str "wire", .str z, .int 1, .ref p1]) np2
        have u3 := same_new (o := .lst [.ref p2]) np3
        have u4 := same_new (o := .lst (List.replicate (40 : Int).toNat [V.ref p2]).flatten) np4
        have uA := (u1.trans u2).trans (u3.trans u4)
        have eDA := uA _ _ (b4 _ _ fD1.1 fD1.2 eD)
        have hwl : ws.length = 60 := by
          rw [← a2.1, List.length_map, List.length_map]
          exact hl60
        refine ⟨D1, p4, _, _, rfl, rfl, eDA, upd_same, ?_, fun p5 np5 => ?_⟩
        · rw [hwl]
          show 60 + 40 ≤ sizeLine
          decide
        have tw : TdR _ (wirR z).made (.ref p2) := .mk (u4 _ _ (u3 _ _ upd_same)) (.cons (.str _) (.cons (.str _) (.cons (.int _) (.cons (.mk (u4 _ _ (u3 _ _ (u2 _ _ upd_same))) (.cons (.str _) (.cons (.int _) (.cons (.int _) .nil)))) .nil))))
        have aw := all2_rep tw 40
        have aAll := ((a2.keep (but_tups dk3 b4)).same uA).append aw
        have u5 := same_new (o := .lst (ws ++ (List.replicate (40 : Int).toNat [V.ref p2]).flatten)) np5
        have hfl : (List.replicate (40 : Int).toNat [V.ref p2]).flatten = List.replicate 40 (V.ref p2) := flat_rep 40
        have g5 := short_good hz hzs hl60
        have b5 : But d c H2 _ := (b3.trans b4).same (uA.trans u5)
        have eL5 := b5 _ _ (fL.1) (fL.2) eL
        have dk5 := dk4.same (uA.trans u5)
        have e5 := upd_same (H := upd (upd (upd (upd H4 p1 (.tup [.str "num", .int 1, .int 0])) p2 (.tup [.str "wire", .str z, .int 1, .ref p1])) p3 (.lst [.ref p2])) p4 (.lst (List.replicate (40 : Int).toNat [V.ref p2]).flatten)) (a := p5) (o := .lst (ws ++ (List.replicate (40 : Int).toNat [V.ref p2]).flatten))
        have aAll5 := aAll.same u5
        have it5 : ∀ v ∈ vs, ItemM _ v := fun v hv => (hit v hv).keep (but_tups dk2 b5)
        refine ⟨.ref L, rfl, .inl ⟨rfl, _, .inl (.inl eL5)⟩, .ref p5, rfl, p5, _, zs.map clkR ++ List.replicate 40 (wirR z), rfl, e5, ?_, g5.1, g5.2.1, fun pp vt H6 s6 epp tvt => ?_⟩
        · rw [List.map_append, List.map_replicate, hfl]
          rw [hfl] at aAll5
          exact aAll5
        have eL6 := s6 _ _ eL5
        refine ⟨L, vs, .ref pp, rfl, rfl, eL6, by rw [hvs]; decide, ?_⟩
        have kL : ∀ p2 vs2, H6 p2 = some (.tup vs2) → upd H6 L (.lst (vs ++ [.ref pp])) p2 = some (.tup vs2) := fun p2 vs2 e5 => by
          rw [upd_ne (fun z => by
            rw [z, eL6] at e5
            cases e5)]
          exact e5
        have eL7 : upd H6 L (.lst (vs ++ [.ref pp])) L = some (.lst (vs ++ [.ref pp])) := upd_same
        have it7 : ∀ v ∈ vs ++ [.ref pp], ItemM (upd H6 L (.lst (vs ++ [.ref pp]))) v := fun v hv => by
          rcases List.mem_append.mp hv with h | h
          · exact ((it5 v h).same s6).keep kL
          · rw [List.mem_singleton.mp h]
            exact ItemM.keep ⟨pp, vt, _, rfl, epp, tvt, g5⟩ kL
        have hx4 : (vs ++ [V.ref pp]).length = 4 := by
          rw [List.length_append, hvs]
          rfl
        revert eL7 it7 hx4
        generalize upd H6 L (.lst (vs ++ [.ref pp])) = H7
        generalize vs ++ [V.ref pp] = xs
        intro eL7 it7 hx4
        refine ⟨.ref L, rfl, .ref L, rfl, L, xs, rfl, .inl (.inl eL7), fun pr npr => ?_⟩
        have v1 := same_new (o := .lst xs.reverse) npr
        refine ⟨L, pr, _, _, rfl, rfl, v1 _ _ eL7, upd_same, ?_, fun pa npa => ?_⟩
        · rw [List.length_reverse, hx4]
          decide
        have v2 := v1.trans (same_new (o := .lst (xs ++ xs.reverse)) npa)
        have epa : upd (upd H7 pr (.lst xs.reverse)) pa (.lst (xs ++ xs.reverse)) pa = some (.lst (xs ++ xs.reverse)) := upd_same
        revert v2 epa
        generalize upd (upd H7 pr (.lst xs.reverse)) pa (.lst (xs ++ xs.reverse)) = H8
        intro v2 epa
        have itA : ∀ v ∈ xs ++ xs.reverse, ItemM H7 v := fun v hv => by
          rcases List.mem_append.mp hv with h | h
          · exact it7 v h
          · exact it7 v (List.mem_reverse.mp h)
        refine ⟨pa, rfl, ⟨_, .inl (.inl epa)⟩, ?_⟩
        refine for_list (K := K) (a := pa) (xs := xs ++ xs.reverse) (fun i σ G => Same H8 G ∧ ∃ (y3 y4 y5 y6 y7 y8 y9 y10 y11 : Option V), σ = [some (.ref a), some (.ref d), some (.ref L), y3, y4, y5, y6, y7, y8, y9, y10, y11]) ?_ ?_ ?_ ?_
        · exact ⟨Same.refl _, _, _, _, _, _, _, _, _, _, rfl⟩
        · rintro i σ G _ ⟨sm, _⟩
          exact .inl (.inl (sm _ _ epa))
        · rintro i v σ G hv ⟨sm, y3, y4, y5, y6, y7, y8, y9, y10, y11, rfl⟩
          obtain ⟨p, vt, rs, rfl, ep, tvt, g⟩ := (itA v (List.mem_of_getElem? hv)).same (v2.trans sm)
          obtain ⟨at_, vst, rfl, _, _⟩ := tvt.inv_tup
          obtain ⟨m1, m2, m3, m4⟩ := mod_shown g
          refine ⟨p, _, rfl, .inl (.inl ep), rfl, _, _, rfl, _, _, rfl, rfl, ?_⟩
          refine ⟨.ref at_, rfl, at_, _, rfl, dp_of tvt, m1, m2, m3, m4, .str (textOf rs), rfl, textOf rs, heardM rs 0, rfl, mod_case g, fun G1 v5 g1 tv5 => ⟨_, _, rfl, ?_⟩⟩
          obtain ⟨av, vsv, rfl, _, _⟩ := tv5.inv_tup
          refine ⟨.ref av, rfl, av, _, rfl, dp_of tv5, m1, m2, m3, m4, _, rfl, rfl, _, rfl, iteNS rfl ?_⟩
          refine ⟨.ref av, rfl, .ref av, rs, rfl, tv5, g.1, g.2.1, fun G2 g2 => ⟨.str (textOf rs), rfl, rfl, _, rfl, iteNS rfl ?_⟩⟩
          have tv6 := tv5.same g2
          refine ⟨.ref av, rfl, .ref av, rs, rfl, tv6, g.1, g.2.1, fun G3 g3 => ⟨.str (textOf rs), rfl, rfl, _, rfl, iteNS rfl ?_⟩⟩
          have tv7 := tv6.same g3
          refine ⟨.ref av, rfl, .ref av, rs, rfl, tv7, g.1, g.2.1, fun G4 g4 => ⟨textOf rs, heardM rs 0, rfl, mod_case g, fun G5 v9 g5 tv9 => ?_⟩⟩
          obtain ⟨av9, vsv9, rfl, _, _⟩ := tv9.inv_tup
          refine ⟨av9, _, rfl, dp_of tv9, m1, m2, m3, m4, _, rfl, rfl, _, rfl, iteNS rfl ?_⟩
          exact ⟨(((sm.trans g1).trans g2).trans (g3.trans g4)).trans g5, _, _, _, _, _, _, _, _, _, rfl⟩
        · rintro σ G ⟨sm, y3, y4, y5, y6, y7, y8, y9, y10, y11, rfl⟩
          have eLG := sm _ _ (v2 _ _ eL7)
          have itG : ∀ v ∈ xs, ItemM G v := fun v hv => (it7 v hv).same (v2.trans sm)
          refine ⟨.ref L, rfl, L, rfl, ⟨_, .inl (.inl eLG)⟩, ?_⟩
          refine for_list (K := K) (a := L) (xs := xs) (fun i σ F => Same G F ∧ ∃ (y3 y4 y5 y6 y7 y8 y9 y10 y11 : Option V), σ = [some (.ref a), some (.ref d), some (.ref L), y3, y4, y5, y6, y7, y8, y9, y10, y11]) ?_ ?_ ?_ ?_
          · exact ⟨Same.refl _, _, _, _, _, _, _, _, _, _, rfl⟩
          · rintro i σ F _ ⟨sm, _⟩
            exact .inl (.inl (sm _ _ eLG))
          · rintro i v σ F hv ⟨sf, y3, y4, y5, y6, y7, y8, y9, y10, y11, rfl⟩
            obtain ⟨p, vt, rs, rfl, ep, tvt, g⟩ := (itG v (List.mem_of_getElem? hv)).same sf
            refine ⟨p, _, rfl, .inl (.inl ep), rfl, _, _, rfl, _, _, rfl, rfl, ?_⟩
            refine ⟨.ref L, rfl, L, rfl, ⟨_, .inl (.inl (sf _ _ eLG))⟩, ?_⟩
            refine for_list (K := K) (a := L) (xs := xs) (fun i σ F => Same G F ∧ ∃ (y3 y4 y5 y7 y8 y9 y10 y11 : Option V), σ = [some (.ref a), some (.ref d), some (.ref L), y3, y4, y5, some (.str (textOf rs)), y7, y8, y9, y10, y11]) ?_ ?_ ?_ ?_
            · exact ⟨sf, _, _, _, _, _, _, _, _, rfl⟩
            · rintro i σ F _ ⟨sm, _⟩
              exact .inl (.inl (sm _ _ eLG))
            · rintro j v2 σ F2 hv2 ⟨sf2, y3, y4, y5, y7, y8, y9, y10, y11, rfl⟩
              obtain ⟨p2, vt2, ss, rfl, ep2, tvt2, h2⟩ := (itG v2 (List.mem_of_getElem? hv2)).same sf2
              refine ⟨p2, _, rfl, .inl (.inl ep2), rfl, _, _, rfl, _, _, rfl, rfl, ?_⟩
              refine ⟨.str (textOf rs), rfl, .str (textOf ss), rfl, rfl, ?_⟩
              refine ⟨.str (textOf rs), rfl, textOf rs, heardM rs 0, rfl, mod_case g, fun F3 v5 f3 tv5 => ?_⟩
              refine ⟨.str (textOf ss), rfl, textOf ss, heardM ss 0, rfl, mod_case h2, fun F4 v6 f4 tv6 => ?_⟩
              refine ⟨_, _, dp_of (tv5.same f4), dp_of tv6, shaped_of g, shaped_of h2, ?_⟩
              rw [eqv_text g h2, decVS]
              refine ⟨rfl, _, rfl, ?_⟩
              rw [decide_eq_true rfl]
              exact iteF ⟨(sf2.trans f3).trans f4, _, _, _, _, _, _, _, _, rfl⟩
            · rintro σ F2 ⟨sf2, y3, y4, y5, y7, y8, y9, y10, y11, rfl⟩
              exact ⟨sf2, _, _, _, _, _, _, _, _, _, rfl⟩
          · rintro σ F ⟨sf, y3, y4, y5, y6, y7, y8, y9, y10, y11, rfl⟩
            refine ⟨by decide, fun q1 nq1 => ⟨.ref q1, [], rfl, .mk upd_same .nil, (fun r hr => by cases hr), by decide, fun F5 f5 => ⟨rfl, _, rfl, ?_⟩⟩⟩
            rw [decVS, show textOf [] = Str.ofString "" from rfl, decide_eq_true rfl]
            refine iteT ⟨by show 2 ≤ sizeLine; decide, fun q2 nq2 => ⟨by show 4 ≤ sizeLine; decide, fun q3 nq3 => ⟨by show 2 ≤ sizeLine; decide, fun q4 nq4 => ?_⟩⟩⟩
            have w2 := same_new (o := .tup [.str "clock", .str "c"]) nq2
            have w3 := same_new (o := .tup [.str "in", .str "x", .int 8, .str "c"]) nq3
            have w4 := same_new (o := .tup [.ref q2, .ref q3]) nq4
            refine ⟨.ref q4, rs1, rfl, .mk (vs := [.ref q2, .ref q3]) upd_same (.cons (.mk (w4 _ _ (w3 _ _ upd_same)) (.cons (.str _) (.cons (.str _) .nil))) (.cons (.mk (w4 _ _ upd_same) (.cons (.str _) (.cons (.str _) (.cons (.int _) (.cons (.str _) .nil))))) .nil)), rs1_ok, by decide, fun F6 f6 => ⟨rfl, ?_⟩⟩
            rw [decVS, rs1_text, decide_eq_true rfl]
            exact q _

end
end K05

namespace K05
open PySem PySem.Spec PyProof.Rows L2 Kit
theorem vals_size {its : Array Value} (h : Vals (keptL.map V.str) its.toList) : its.size ≤ sizeLine := by
  have e := h.length
  rw [List.length_map, keptL_len, Array.length_toList] at e
  rw [← e]
  decide
theorem all_mk {l : PySem.W.OpenLaw} {w : World} {K : PySem.W.Frag} {h : Heap} {mg : Str → Option Value} {fa : Addr} (X : K.In h) (G : h.Ns mainGlobals mg) (hfa : mg "law" = some (.ref fa))
    {K_RowWords : Addr}
    (a_RowWords : PySem.W.nsIn K mainGlobals "RowWords" = some (some (.ref K_RowWords)))
    (pg_RowWords : PySem.W.plainGet K K_RowWords Str.empty = true)
    (hd_RowWords : PySem.W.hasDictIn K K_RowWords = true)
    (po_RowWords : PySem.W.plainOver K K_RowWords = true)
    (sa_RowWords : PySem.W.findIn K (.ref K_RowWords) "__setattr__" = some (some (.builtin "object.__setattr__")))
    (mk_RowWords : PySem.W.makesIn K K_RowWords = true)
    (kc_RowWords : PySem.W.keepIn K (.ref K_RowWords) = true)
    (n_RowWords_row : PySem.W.findIn K (.ref K_RowWords) "row" = some none)
    (n_RowWords_words : PySem.W.findIn K (.ref K_RowWords) "words" = some none)
    (n_RowWords_at : PySem.W.findIn K (.ref K_RowWords) "at" = some none)
    {f_part_words : Addr} {oc_part_words kV_part_words dc_part_words pm_part_words cd_part_words ct_part_words : Value} {od_part_words an_part_words : Option Addr} {sl_part_words : Array (Option Value)}
    (a_part_words : PySem.W.nsIn K mainGlobals "part_words" = some (some (.ref f_part_words)))
    (l_part_words : K.lookup f_part_words = some ⟨oc_part_words, od_part_words, .func (PySem.W.fnOf "part_words" "part_words" (defArgs s_part_words) (defBody s_part_words) (defScope s_part_words) .none kV_part_words dc_part_words pm_part_words an_part_words cd_part_words ct_part_words), sl_part_words⟩)
    (c_part_words : PySem.W.codeIn K cd_part_words "part_words" = true)
    (k_part_words : PySem.W.keepIn K (.ref f_part_words) = true)
    {f_parts_words : Addr} {oc_parts_words kV_parts_words dc_parts_words pm_parts_words cd_parts_words ct_parts_words : Value} {od_parts_words an_parts_words : Option Addr} {sl_parts_words : Array (Option Value)}
    (a_parts_words : PySem.W.nsIn K mainGlobals "parts_words" = some (some (.ref f_parts_words)))
    (l_parts_words : K.lookup f_parts_words = some ⟨oc_parts_words, od_parts_words, .func (PySem.W.fnOf "parts_words" "parts_words" (defArgs s_parts_words) (defBody s_parts_words) (defScope s_parts_words) .none kV_parts_words dc_parts_words pm_parts_words an_parts_words cd_parts_words ct_parts_words), sl_parts_words⟩)
    (c_parts_words : PySem.W.codeIn K cd_parts_words "parts_words" = true)
    (k_parts_words : PySem.W.keepIn K (.ref f_parts_words) = true)
    {f_row_words : Addr} {oc_row_words kV_row_words dc_row_words pm_row_words cd_row_words ct_row_words : Value} {od_row_words an_row_words : Option Addr} {sl_row_words : Array (Option Value)}
    (a_row_words : PySem.W.nsIn K mainGlobals "row_words" = some (some (.ref f_row_words)))
    (l_row_words : K.lookup f_row_words = some ⟨oc_row_words, od_row_words, .func (PySem.W.fnOf "row_words" "row_words" (defArgs s_row_words) (defBody s_row_words) (defScope s_row_words) .none kV_row_words dc_row_words pm_row_words an_row_words cd_row_words ct_row_words), sl_row_words⟩)
    (c_row_words : PySem.W.codeIn K cd_row_words "row_words" = true)
    (k_row_words : PySem.W.keepIn K (.ref f_row_words) = true)
    {f_show_module : Addr} {oc_show_module kV_show_module dc_show_module pm_show_module cd_show_module ct_show_module : Value} {od_show_module an_show_module : Option Addr} {sl_show_module : Array (Option Value)}
    (a_show_module : PySem.W.nsIn K mainGlobals "show_module" = some (some (.ref f_show_module)))
    (l_show_module : K.lookup f_show_module = some ⟨oc_show_module, od_show_module, .func (PySem.W.fnOf "show_module" "show_module" (defArgs s_show_module) (defBody s_show_module) (defScope s_show_module) .none kV_show_module dc_show_module pm_show_module an_show_module cd_show_module ct_show_module), sl_show_module⟩)
    (c_show_module : PySem.W.codeIn K cd_show_module "show_module" = true)
    (k_show_module : PySem.W.keepIn K (.ref f_show_module) = true)
    {f_is_name : Addr} {oc_is_name kV_is_name dc_is_name pm_is_name cd_is_name ct_is_name : Value} {od_is_name an_is_name : Option Addr} {sl_is_name : Array (Option Value)}
    (a_is_name : PySem.W.nsIn K mainGlobals "is_name" = some (some (.ref f_is_name)))
    (l_is_name : K.lookup f_is_name = some ⟨oc_is_name, od_is_name, .func (PySem.W.fnOf "is_name" "is_name" (defArgs s_is_name) (defBody s_is_name) (defScope s_is_name) .none kV_is_name dc_is_name pm_is_name an_is_name cd_is_name ct_is_name), sl_is_name⟩)
    (c_is_name : PySem.W.codeIn K cd_is_name "is_name" = true)
    (k_is_name : PySem.W.keepIn K (.ref f_is_name) = true)
    {f_is_spot : Addr} {oc_is_spot kV_is_spot dc_is_spot pm_is_spot cd_is_spot ct_is_spot : Value} {od_is_spot an_is_spot : Option Addr} {sl_is_spot : Array (Option Value)}
    (a_is_spot : PySem.W.nsIn K mainGlobals "is_spot" = some (some (.ref f_is_spot)))
    (l_is_spot : K.lookup f_is_spot = some ⟨oc_is_spot, od_is_spot, .func (PySem.W.fnOf "is_spot" "is_spot" (defArgs s_is_spot) (defBody s_is_spot) (defScope s_is_spot) .none kV_is_spot dc_is_spot pm_is_spot an_is_spot cd_is_spot ct_is_spot), sl_is_spot⟩)
    (c_is_spot : PySem.W.codeIn K cd_is_spot "is_spot" = true)
    (k_is_spot : PySem.W.keepIn K (.ref f_is_spot) = true)
    {f_is_number : Addr} {oc_is_number kV_is_number dc_is_number pm_is_number cd_is_number ct_is_number : Value} {od_is_number an_is_number : Option Addr} {sl_is_number : Array (Option Value)}
    (a_is_number : PySem.W.nsIn K mainGlobals "is_number" = some (some (.ref f_is_number)))
    (l_is_number : K.lookup f_is_number = some ⟨oc_is_number, od_is_number, .func (PySem.W.fnOf "is_number" "is_number" (defArgs s_is_number) (defBody s_is_number) (defScope s_is_number) .none kV_is_number dc_is_number pm_is_number an_is_number cd_is_number ct_is_number), sl_is_number⟩)
    (c_is_number : PySem.W.codeIn K cd_is_number "is_number" = true)
    (k_is_number : PySem.W.keepIn K (.ref f_is_number) = true)
    {f_RowWords_init : Addr} {oc_RowWords_init kV_RowWords_init dc_RowWords_init pm_RowWords_init cd_RowWords_init ct_RowWords_init : Value} {od_RowWords_init an_RowWords_init : Option Addr} {sl_RowWords_init : Array (Option Value)}
    (a_RowWords_init : PySem.W.findIn K (.ref K_RowWords) "__init__" = some (some (.ref f_RowWords_init)))
    (i_RowWords_init : PySem.W.isFn K (.ref f_RowWords_init) = true)
    (l_RowWords_init : K.lookup f_RowWords_init = some ⟨oc_RowWords_init, od_RowWords_init, .func (PySem.W.fnOf "__init__" "RowWords.__init__" (defArgs s_RowWords_init) (defBody s_RowWords_init) (defScope s_RowWords_init) .none kV_RowWords_init dc_RowWords_init pm_RowWords_init an_RowWords_init cd_RowWords_init ct_RowWords_init), sl_RowWords_init⟩)
    (c_RowWords_init : PySem.W.codeIn K cd_RowWords_init "RowWords.__init__" = true)
    (k_RowWords_init : PySem.W.keepIn K (.ref f_RowWords_init) = true)
    {f_RowWords_here : Addr} {oc_RowWords_here kV_RowWords_here dc_RowWords_here pm_RowWords_here cd_RowWords_here ct_RowWords_here : Value} {od_RowWords_here an_RowWords_here : Option Addr} {sl_RowWords_here : Array (Option Value)}
    (a_RowWords_here : PySem.W.findIn K (.ref K_RowWords) "here" = some (some (.ref f_RowWords_here)))
    (i_RowWords_here : PySem.W.isFn K (.ref f_RowWords_here) = true)
    (l_RowWords_here : K.lookup f_RowWords_here = some ⟨oc_RowWords_here, od_RowWords_here, .func (PySem.W.fnOf "here" "RowWords.here" (defArgs s_RowWords_here) (defBody s_RowWords_here) (defScope s_RowWords_here) .none kV_RowWords_here dc_RowWords_here pm_RowWords_here an_RowWords_here cd_RowWords_here ct_RowWords_here), sl_RowWords_here⟩)
    (c_RowWords_here : PySem.W.codeIn K cd_RowWords_here "RowWords.here" = true)
    (k_RowWords_here : PySem.W.keepIn K (.ref f_RowWords_here) = true)
    {f_RowWords_more : Addr} {oc_RowWords_more kV_RowWords_more dc_RowWords_more pm_RowWords_more cd_RowWords_more ct_RowWords_more : Value} {od_RowWords_more an_RowWords_more : Option Addr} {sl_RowWords_more : Array (Option Value)}
    (a_RowWords_more : PySem.W.findIn K (.ref K_RowWords) "more" = some (some (.ref f_RowWords_more)))
    (i_RowWords_more : PySem.W.isFn K (.ref f_RowWords_more) = true)
    (l_RowWords_more : K.lookup f_RowWords_more = some ⟨oc_RowWords_more, od_RowWords_more, .func (PySem.W.fnOf "more" "RowWords.more" (defArgs s_RowWords_more) (defBody s_RowWords_more) (defScope s_RowWords_more) .none kV_RowWords_more dc_RowWords_more pm_RowWords_more an_RowWords_more cd_RowWords_more ct_RowWords_more), sl_RowWords_more⟩)
    (c_RowWords_more : PySem.W.codeIn K cd_RowWords_more "RowWords.more" = true)
    (k_RowWords_more : PySem.W.keepIn K (.ref f_RowWords_more) = true)
    {f_RowWords_coming : Addr} {oc_RowWords_coming kV_RowWords_coming dc_RowWords_coming pm_RowWords_coming cd_RowWords_coming ct_RowWords_coming : Value} {od_RowWords_coming an_RowWords_coming : Option Addr} {sl_RowWords_coming : Array (Option Value)}
    (a_RowWords_coming : PySem.W.findIn K (.ref K_RowWords) "coming" = some (some (.ref f_RowWords_coming)))
    (i_RowWords_coming : PySem.W.isFn K (.ref f_RowWords_coming) = true)
    (l_RowWords_coming : K.lookup f_RowWords_coming = some ⟨oc_RowWords_coming, od_RowWords_coming, .func (PySem.W.fnOf "coming" "RowWords.coming" (defArgs s_RowWords_coming) (defBody s_RowWords_coming) (defScope s_RowWords_coming) .none kV_RowWords_coming dc_RowWords_coming pm_RowWords_coming an_RowWords_coming cd_RowWords_coming ct_RowWords_coming), sl_RowWords_coming⟩)
    (c_RowWords_coming : PySem.W.codeIn K cd_RowWords_coming "RowWords.coming" = true)
    (k_RowWords_coming : PySem.W.keepIn K (.ref f_RowWords_coming) = true)
    {f_RowWords_take : Addr} {oc_RowWords_take kV_RowWords_take dc_RowWords_take pm_RowWords_take cd_RowWords_take ct_RowWords_take : Value} {od_RowWords_take an_RowWords_take : Option Addr} {sl_RowWords_take : Array (Option Value)}
    (a_RowWords_take : PySem.W.findIn K (.ref K_RowWords) "take" = some (some (.ref f_RowWords_take)))
    (i_RowWords_take : PySem.W.isFn K (.ref f_RowWords_take) = true)
    (l_RowWords_take : K.lookup f_RowWords_take = some ⟨oc_RowWords_take, od_RowWords_take, .func (PySem.W.fnOf "take" "RowWords.take" (defArgs s_RowWords_take) (defBody s_RowWords_take) (defScope s_RowWords_take) .none kV_RowWords_take dc_RowWords_take pm_RowWords_take an_RowWords_take cd_RowWords_take ct_RowWords_take), sl_RowWords_take⟩)
    (c_RowWords_take : PySem.W.codeIn K cd_RowWords_take "RowWords.take" = true)
    (k_RowWords_take : PySem.W.keepIn K (.ref f_RowWords_take) = true)
    {f_RowWords_take_name : Addr} {oc_RowWords_take_name kV_RowWords_take_name dc_RowWords_take_name pm_RowWords_take_name cd_RowWords_take_name ct_RowWords_take_name : Value} {od_RowWords_take_name an_RowWords_take_name : Option Addr} {sl_RowWords_take_name : Array (Option Value)}
    (a_RowWords_take_name : PySem.W.findIn K (.ref K_RowWords) "take_name" = some (some (.ref f_RowWords_take_name)))
    (i_RowWords_take_name : PySem.W.isFn K (.ref f_RowWords_take_name) = true)
    (l_RowWords_take_name : K.lookup f_RowWords_take_name = some ⟨oc_RowWords_take_name, od_RowWords_take_name, .func (PySem.W.fnOf "take_name" "RowWords.take_name" (defArgs s_RowWords_take_name) (defBody s_RowWords_take_name) (defScope s_RowWords_take_name) .none kV_RowWords_take_name dc_RowWords_take_name pm_RowWords_take_name an_RowWords_take_name cd_RowWords_take_name ct_RowWords_take_name), sl_RowWords_take_name⟩)
    (c_RowWords_take_name : PySem.W.codeIn K cd_RowWords_take_name "RowWords.take_name" = true)
    (k_RowWords_take_name : PySem.W.keepIn K (.ref f_RowWords_take_name) = true)
    {f_RowWords_take_number : Addr} {oc_RowWords_take_number kV_RowWords_take_number dc_RowWords_take_number pm_RowWords_take_number cd_RowWords_take_number ct_RowWords_take_number : Value} {od_RowWords_take_number an_RowWords_take_number : Option Addr} {sl_RowWords_take_number : Array (Option Value)}
    (a_RowWords_take_number : PySem.W.findIn K (.ref K_RowWords) "take_number" = some (some (.ref f_RowWords_take_number)))
    (i_RowWords_take_number : PySem.W.isFn K (.ref f_RowWords_take_number) = true)
    (l_RowWords_take_number : K.lookup f_RowWords_take_number = some ⟨oc_RowWords_take_number, od_RowWords_take_number, .func (PySem.W.fnOf "take_number" "RowWords.take_number" (defArgs s_RowWords_take_number) (defBody s_RowWords_take_number) (defScope s_RowWords_take_number) .none kV_RowWords_take_number dc_RowWords_take_number pm_RowWords_take_number an_RowWords_take_number cd_RowWords_take_number ct_RowWords_take_number), sl_RowWords_take_number⟩)
    (c_RowWords_take_number : PySem.W.codeIn K cd_RowWords_take_number "RowWords.take_number" = true)
    (k_RowWords_take_number : PySem.W.keepIn K (.ref f_RowWords_take_number) = true)
    {f_RowWords_take_end : Addr} {oc_RowWords_take_end kV_RowWords_take_end dc_RowWords_take_end pm_RowWords_take_end cd_RowWords_take_end ct_RowWords_take_end : Value} {od_RowWords_take_end an_RowWords_take_end : Option Addr} {sl_RowWords_take_end : Array (Option Value)}
    (a_RowWords_take_end : PySem.W.findIn K (.ref K_RowWords) "take_end" = some (some (.ref f_RowWords_take_end)))
    (i_RowWords_take_end : PySem.W.isFn K (.ref f_RowWords_take_end) = true)
    (l_RowWords_take_end : K.lookup f_RowWords_take_end = some ⟨oc_RowWords_take_end, od_RowWords_take_end, .func (PySem.W.fnOf "take_end" "RowWords.take_end" (defArgs s_RowWords_take_end) (defBody s_RowWords_take_end) (defScope s_RowWords_take_end) .none kV_RowWords_take_end dc_RowWords_take_end pm_RowWords_take_end an_RowWords_take_end cd_RowWords_take_end ct_RowWords_take_end), sl_RowWords_take_end⟩)
    (c_RowWords_take_end : PySem.W.codeIn K cd_RowWords_take_end "RowWords.take_end" = true)
    (k_RowWords_take_end : PySem.W.keepIn K (.ref f_RowWords_take_end) = true)
    {f_read_part : Addr} {oc_read_part kV_read_part dc_read_part pm_read_part cd_read_part ct_read_part : Value} {od_read_part an_read_part : Option Addr} {sl_read_part : Array (Option Value)}
    (a_read_part : PySem.W.nsIn K mainGlobals "read_part" = some (some (.ref f_read_part)))
    (l_read_part : K.lookup f_read_part = some ⟨oc_read_part, od_read_part, .func (PySem.W.fnOf "read_part" "read_part" (defArgs s_read_part) (defBody s_read_part) (defScope s_read_part) .none kV_read_part dc_read_part pm_read_part an_read_part cd_read_part ct_read_part), sl_read_part⟩)
    (c_read_part : PySem.W.codeIn K cd_read_part "read_part" = true)
    (k_read_part : PySem.W.keepIn K (.ref f_read_part) = true)
    {f_read_expression : Addr} {oc_read_expression kV_read_expression dc_read_expression pm_read_expression cd_read_expression ct_read_expression : Value} {od_read_expression an_read_expression : Option Addr} {sl_read_expression : Array (Option Value)}
    (a_read_expression : PySem.W.nsIn K mainGlobals "read_expression" = some (some (.ref f_read_expression)))
    (l_read_expression : K.lookup f_read_expression = some ⟨oc_read_expression, od_read_expression, .func (PySem.W.fnOf "read_expression" "read_expression" (defArgs s_read_expression) (defBody s_read_expression) (defScope s_read_expression) .none kV_read_expression dc_read_expression pm_read_expression an_read_expression cd_read_expression ct_read_expression), sl_read_expression⟩)
    (c_read_expression : PySem.W.codeIn K cd_read_expression "read_expression" = true)
    (k_read_expression : PySem.W.keepIn K (.ref f_read_expression) = true)
    {f_read_use : Addr} {oc_read_use kV_read_use dc_read_use pm_read_use cd_read_use ct_read_use : Value} {od_read_use an_read_use : Option Addr} {sl_read_use : Array (Option Value)}
    (a_read_use : PySem.W.nsIn K mainGlobals "read_use" = some (some (.ref f_read_use)))
    (l_read_use : K.lookup f_read_use = some ⟨oc_read_use, od_read_use, .func (PySem.W.fnOf "read_use" "read_use" (defArgs s_read_use) (defBody s_read_use) (defScope s_read_use) .none kV_read_use dc_read_use pm_read_use an_read_use cd_read_use ct_read_use), sl_read_use⟩)
    (c_read_use : PySem.W.codeIn K cd_read_use "read_use" = true)
    (k_read_use : PySem.W.keepIn K (.ref f_read_use) = true)
    {f_read_row : Addr} {oc_read_row kV_read_row dc_read_row pm_read_row cd_read_row ct_read_row : Value} {od_read_row an_read_row : Option Addr} {sl_read_row : Array (Option Value)}
    (a_read_row : PySem.W.nsIn K mainGlobals "read_row" = some (some (.ref f_read_row)))
    (l_read_row : K.lookup f_read_row = some ⟨oc_read_row, od_read_row, .func (PySem.W.fnOf "read_row" "read_row" (defArgs s_read_row) (defBody s_read_row) (defScope s_read_row) .none kV_read_row dc_read_row pm_read_row an_read_row cd_read_row ct_read_row), sl_read_row⟩)
    (c_read_row : PySem.W.codeIn K cd_read_row "read_row" = true)
    (k_read_row : PySem.W.keepIn K (.ref f_read_row) = true)
    {f_read_module : Addr} {oc_read_module kV_read_module dc_read_module pm_read_module cd_read_module ct_read_module : Value} {od_read_module an_read_module : Option Addr} {sl_read_module : Array (Option Value)}
    (a_read_module : PySem.W.nsIn K mainGlobals "read_module" = some (some (.ref f_read_module)))
    (l_read_module : K.lookup f_read_module = some ⟨oc_read_module, od_read_module, .func (PySem.W.fnOf "read_module" "read_module" (defArgs s_read_module) (defBody s_read_module) (defScope s_read_module) .none kV_read_module dc_read_module pm_read_module an_read_module cd_read_module ct_read_module), sl_read_module⟩)
    (c_read_module : PySem.W.codeIn K cd_read_module "read_module" = true)
    (k_read_module : PySem.W.keepIn K (.ref f_read_module) = true)
    {f_l_deck : Addr} {oc_l_deck kV_l_deck dc_l_deck pm_l_deck cd_l_deck ct_l_deck : Value} {od_l_deck an_l_deck : Option Addr} {sl_l_deck : Array (Option Value)}
    (a_l_deck : PySem.W.nsIn K mainGlobals "_law_deck" = some (some (.ref f_l_deck)))
    (l_l_deck : K.lookup f_l_deck = some ⟨oc_l_deck, od_l_deck, .func (PySem.W.fnOf "_law_deck" "_law_deck" (defArgs s_l_deck) (defBody s_l_deck) (defScope s_l_deck) .none kV_l_deck dc_l_deck pm_l_deck an_l_deck cd_l_deck ct_l_deck), sl_l_deck⟩)
    (c_l_deck : PySem.W.codeIn K cd_l_deck "_law_deck" = true)
    (k_l_deck : PySem.W.keepIn K (.ref f_l_deck) = true)
    {f_l_draw : Addr} {oc_l_draw kV_l_draw dc_l_draw pm_l_draw cd_l_draw ct_l_draw : Value} {od_l_draw an_l_draw : Option Addr} {sl_l_draw : Array (Option Value)}
    (a_l_draw : PySem.W.nsIn K mainGlobals "_law_draw" = some (some (.ref f_l_draw)))
    (l_l_draw : K.lookup f_l_draw = some ⟨oc_l_draw, od_l_draw, .func (PySem.W.fnOf "_law_draw" "_law_draw" (defArgs s_l_draw) (defBody s_l_draw) (defScope s_l_draw) .none kV_l_draw dc_l_draw pm_l_draw an_l_draw cd_l_draw ct_l_draw), sl_l_draw⟩)
    (c_l_draw : PySem.W.codeIn K cd_l_draw "_law_draw" = true)
    (k_l_draw : PySem.W.keepIn K (.ref f_l_draw) = true)
    {f_l_pick : Addr} {oc_l_pick kV_l_pick dc_l_pick pm_l_pick cd_l_pick ct_l_pick : Value} {od_l_pick an_l_pick : Option Addr} {sl_l_pick : Array (Option Value)}
    (a_l_pick : PySem.W.nsIn K mainGlobals "_law_pick" = some (some (.ref f_l_pick)))
    (l_l_pick : K.lookup f_l_pick = some ⟨oc_l_pick, od_l_pick, .func (PySem.W.fnOf "_law_pick" "_law_pick" (defArgs s_l_pick) (defBody s_l_pick) (defScope s_l_pick) .none kV_l_pick dc_l_pick pm_l_pick an_l_pick cd_l_pick ct_l_pick), sl_l_pick⟩)
    (c_l_pick : PySem.W.codeIn K cd_l_pick "_law_pick" = true)
    (k_l_pick : PySem.W.keepIn K (.ref f_l_pick) = true)
    {f_l_kept : Addr} {oc_l_kept kV_l_kept dc_l_kept pm_l_kept cd_l_kept ct_l_kept : Value} {od_l_kept an_l_kept : Option Addr} {sl_l_kept : Array (Option Value)}
    (a_l_kept : PySem.W.nsIn K mainGlobals "_law_kept" = some (some (.ref f_l_kept)))
    (l_l_kept : K.lookup f_l_kept = some ⟨oc_l_kept, od_l_kept, .func (PySem.W.fnOf "_law_kept" "_law_kept" (defArgs s_l_kept) (defBody s_l_kept) (defScope s_l_kept) .none kV_l_kept dc_l_kept pm_l_kept an_l_kept cd_l_kept ct_l_kept), sl_l_kept⟩)
    (c_l_kept : PySem.W.codeIn K cd_l_kept "_law_kept" = true)
    (k_l_kept : PySem.W.keepIn K (.ref f_l_kept) = true)
    {f_l_name : Addr} {oc_l_name kV_l_name dc_l_name pm_l_name cd_l_name ct_l_name : Value} {od_l_name an_l_name : Option Addr} {sl_l_name : Array (Option Value)}
    (a_l_name : PySem.W.nsIn K mainGlobals "_law_name" = some (some (.ref f_l_name)))
    (l_l_name : K.lookup f_l_name = some ⟨oc_l_name, od_l_name, .func (PySem.W.fnOf "_law_name" "_law_name" (defArgs s_l_name) (defBody s_l_name) (defScope s_l_name) .none kV_l_name dc_l_name pm_l_name an_l_name cd_l_name ct_l_name), sl_l_name⟩)
    (c_l_name : PySem.W.codeIn K cd_l_name "_law_name" = true)
    (k_l_name : PySem.W.keepIn K (.ref f_l_name) = true)
    {f_l_shapes : Addr} {oc_l_shapes kV_l_shapes dc_l_shapes pm_l_shapes cd_l_shapes ct_l_shapes : Value} {od_l_shapes an_l_shapes : Option Addr} {sl_l_shapes : Array (Option Value)}
    (a_l_shapes : PySem.W.nsIn K mainGlobals "_law_shapes" = some (some (.ref f_l_shapes)))
    (l_l_shapes : K.lookup f_l_shapes = some ⟨oc_l_shapes, od_l_shapes, .func (PySem.W.fnOf "_law_shapes" "_law_shapes" (defArgs s_l_shapes) (defBody s_l_shapes) (defScope s_l_shapes) .none kV_l_shapes dc_l_shapes pm_l_shapes an_l_shapes cd_l_shapes ct_l_shapes), sl_l_shapes⟩)
    (c_l_shapes : PySem.W.codeIn K cd_l_shapes "_law_shapes" = true)
    (k_l_shapes : PySem.W.keepIn K (.ref f_l_shapes) = true)
    {f_l_number : Addr} {oc_l_number kV_l_number dc_l_number pm_l_number cd_l_number ct_l_number : Value} {od_l_number an_l_number : Option Addr} {sl_l_number : Array (Option Value)}
    (a_l_number : PySem.W.nsIn K mainGlobals "_law_number" = some (some (.ref f_l_number)))
    (l_l_number : K.lookup f_l_number = some ⟨oc_l_number, od_l_number, .func (PySem.W.fnOf "_law_number" "_law_number" (defArgs s_l_number) (defBody s_l_number) (defScope s_l_number) .none kV_l_number dc_l_number pm_l_number an_l_number cd_l_number ct_l_number), sl_l_number⟩)
    (c_l_number : PySem.W.codeIn K cd_l_number "_law_number" = true)
    (k_l_number : PySem.W.keepIn K (.ref f_l_number) = true)
    {f_l_expression : Addr} {oc_l_expression kV_l_expression dc_l_expression pm_l_expression cd_l_expression ct_l_expression : Value} {od_l_expression an_l_expression : Option Addr} {sl_l_expression : Array (Option Value)}
    (a_l_expression : PySem.W.nsIn K mainGlobals "_law_expression" = some (some (.ref f_l_expression)))
    (l_l_expression : K.lookup f_l_expression = some ⟨oc_l_expression, od_l_expression, .func (PySem.W.fnOf "_law_expression" "_law_expression" (defArgs s_l_expression) (defBody s_l_expression) (defScope s_l_expression) .none kV_l_expression dc_l_expression pm_l_expression an_l_expression cd_l_expression ct_l_expression), sl_l_expression⟩)
    (c_l_expression : PySem.W.codeIn K cd_l_expression "_law_expression" = true)
    (k_l_expression : PySem.W.keepIn K (.ref f_l_expression) = true)
    {f_l_row : Addr} {oc_l_row kV_l_row dc_l_row pm_l_row cd_l_row ct_l_row : Value} {od_l_row an_l_row : Option Addr} {sl_l_row : Array (Option Value)}
    (a_l_row : PySem.W.nsIn K mainGlobals "_law_row" = some (some (.ref f_l_row)))
    (l_l_row : K.lookup f_l_row = some ⟨oc_l_row, od_l_row, .func (PySem.W.fnOf "_law_row" "_law_row" (defArgs s_l_row) (defBody s_l_row) (defScope s_l_row) .none kV_l_row dc_l_row pm_l_row an_l_row cd_l_row ct_l_row), sl_l_row⟩)
    (c_l_row : PySem.W.codeIn K cd_l_row "_law_row" = true)
    (k_l_row : PySem.W.keepIn K (.ref f_l_row) = true)
    {f_l_laid_out : Addr} {oc_l_laid_out kV_l_laid_out dc_l_laid_out pm_l_laid_out cd_l_laid_out ct_l_laid_out : Value} {od_l_laid_out an_l_laid_out : Option Addr} {sl_l_laid_out : Array (Option Value)}
    (a_l_laid_out : PySem.W.nsIn K mainGlobals "_law_laid_out" = some (some (.ref f_l_laid_out)))
    (l_l_laid_out : K.lookup f_l_laid_out = some ⟨oc_l_laid_out, od_l_laid_out, .func (PySem.W.fnOf "_law_laid_out" "_law_laid_out" (defArgs s_l_laid_out) (defBody s_l_laid_out) (defScope s_l_laid_out) .none kV_l_laid_out dc_l_laid_out pm_l_laid_out an_l_laid_out cd_l_laid_out ct_l_laid_out), sl_l_laid_out⟩)
    (c_l_laid_out : PySem.W.codeIn K cd_l_laid_out "_law_laid_out" = true)
    (k_l_laid_out : PySem.W.keepIn K (.ref f_l_laid_out) = true)
    {f_l_row_out : Addr} {oc_l_row_out kV_l_row_out dc_l_row_out pm_l_row_out cd_l_row_out ct_l_row_out : Value} {od_l_row_out an_l_row_out : Option Addr} {sl_l_row_out : Array (Option Value)}
    (a_l_row_out : PySem.W.nsIn K mainGlobals "_law_row_out" = some (some (.ref f_l_row_out)))
    (l_l_row_out : K.lookup f_l_row_out = some ⟨oc_l_row_out, od_l_row_out, .func (PySem.W.fnOf "_law_row_out" "_law_row_out" (defArgs s_l_row_out) (defBody s_l_row_out) (defScope s_l_row_out) .none kV_l_row_out dc_l_row_out pm_l_row_out an_l_row_out cd_l_row_out ct_l_row_out), sl_l_row_out⟩)
    (c_l_row_out : PySem.W.codeIn K cd_l_row_out "_law_row_out" = true)
    (k_l_row_out : PySem.W.keepIn K (.ref f_l_row_out) = true)
    {f_l_both : Addr} {oc_l_both kV_l_both dc_l_both pm_l_both cd_l_both ct_l_both : Value} {od_l_both an_l_both : Option Addr} {sl_l_both : Array (Option Value)}
    (a_l_both : PySem.W.nsIn K mainGlobals "_law_both" = some (some (.ref f_l_both)))
    (l_l_both : K.lookup f_l_both = some ⟨oc_l_both, od_l_both, .func (PySem.W.fnOf "_law_both" "_law_both" (defArgs s_l_both) (defBody s_l_both) (defScope s_l_both) .none kV_l_both dc_l_both pm_l_both an_l_both cd_l_both ct_l_both), sl_l_both⟩)
    (c_l_both : PySem.W.codeIn K cd_l_both "_law_both" = true)
    (k_l_both : PySem.W.keepIn K (.ref f_l_both) = true)
    {f_l_module : Addr} {oc_l_module kV_l_module dc_l_module pm_l_module cd_l_module ct_l_module : Value} {od_l_module an_l_module : Option Addr} {sl_l_module : Array (Option Value)}
    (a_l_module : PySem.W.nsIn K mainGlobals "_law_module" = some (some (.ref f_l_module)))
    (l_l_module : K.lookup f_l_module = some ⟨oc_l_module, od_l_module, .func (PySem.W.fnOf "_law_module" "_law_module" (defArgs s_l_module) (defBody s_l_module) (defScope s_l_module) .none kV_l_module dc_l_module pm_l_module an_l_module cd_l_module ct_l_module), sl_l_module⟩)
    (c_l_module : PySem.W.codeIn K cd_l_module "_law_module" = true)
    (k_l_module : PySem.W.keepIn K (.ref f_l_module) = true)
    {f_law : Addr} {oc_law kV_law dc_law pm_law cd_law ct_law : Value} {od_law an_law : Option Addr} {sl_law : Array (Option Value)}
    (a_law : PySem.W.nsIn K mainGlobals "law" = some (some (.ref f_law)))
    (l_law : K.lookup f_law = some ⟨oc_law, od_law, .func (PySem.W.fnOf "law" "law" (defArgs s_law) (defBody s_law) (defScope s_law) .none kV_law dc_law pm_law an_law cd_law ct_law), sl_law⟩)
    (c_law : PySem.W.codeIn K cd_law "law" = true)
    (k_law : PySem.W.keepIn K (.ref f_law) = true)
    (z_isinstance : PySem.W.nsIn K mainGlobals "isinstance" = some none)
    (z_str : PySem.W.nsIn K mainGlobals "str" = some none)
    (z_len : PySem.W.nsIn K mainGlobals "len" = some none)
    (z_all : PySem.W.nsIn K mainGlobals "all" = some none)
    (z_list : PySem.W.nsIn K mainGlobals "list" = some none)
    (z_range : PySem.W.nsIn K mainGlobals "range" = some none)
    (z_int : PySem.W.nsIn K mainGlobals "int" = some none)
    (z_repr : PySem.W.nsIn K mainGlobals "repr" = some none)
    (z_tuple : PySem.W.nsIn K mainGlobals "tuple" = some none)
    (z_enumerate : PySem.W.nsIn K mainGlobals "enumerate" = some none)
    (z_max : PySem.W.nsIn K mainGlobals "max" = some none)
    (z_min : PySem.W.nsIn K mainGlobals "min" = some none)
    {tL tF tN t1 t2 t3 t4 t5 : Tok} {kw ke kr : Addr} {dk : Option Addr} {its : Array Value} {nk ne nr : Nat} {sk : Array (Option Value)} {ee er : Array DictEntry}
    {u_num u_not u_and u_or u_xor u_sum u_same u_below u_join u_pick u_cut u_bit v_clock v_in v_out v_wire v_box v_cross : Tok}
    (t_L : PySem.W.nsIn K mainGlobals "LETTERS" = some (some (.str letters tL)))
    (t_F : PySem.W.nsIn K mainGlobals "FIGURES" = some (some (.str figures tF)))
    (t_N : PySem.W.nsIn K mainGlobals "LONGEST_NAME" = some (some (.int 6 tN)))
    (t_1 : PySem.W.nsIn K mainGlobals "WIDEST" = some (some (.int 8 t1)))
    (t_2 : PySem.W.nsIn K mainGlobals "GREATEST" = some (some (.int 65535 t2)))
    (t_3 : PySem.W.nsIn K mainGlobals "DEEPEST" = some (some (.int 12 t3)))
    (t_4 : PySem.W.nsIn K mainGlobals "MOST_CLOCKS" = some (some (.int 4 t4)))
    (t_5 : PySem.W.nsIn K mainGlobals "MOST_HANDED" = some (some (.int 6 t5)))
    (t_K : PySem.W.nsIn K mainGlobals "KEPT_WORDS" = some (some (.ref kw)))
    (t_K2 : K.lookup kw = some ⟨.type "tuple", dk, .seq its nk, sk⟩)
    (t_K3 : Vals (keptL.map V.str) its.toList)
    (t_E : PySem.W.nsIn K mainGlobals "EXPRESSIONS" = some (some (.ref ke)))
    (t_E2 : K.lookup ke = some { cls := .type "dict", data := .dict ee ne })
    (t_E3 : PySem.W.KeysLit w.params ee.toList)
    (t_E4 : (ke == sysModules) = false)
    (t_R : PySem.W.nsIn K mainGlobals "ROWS" = some (some (.ref kr)))
    (t_R2 : K.lookup kr = some { cls := .type "dict", data := .dict er nr })
    (t_R3 : PySem.W.KeysLit w.params er.toList)
    (t_R4 : (kr == sysModules) = false)
    (e_num : PySem.W.nsIn K ke "num" = some (some (.str "WK" u_num)))
    (e_not : PySem.W.nsIn K ke "not" = some (some (.str "E" u_not)))
    (e_and : PySem.W.nsIn K ke "and" = some (some (.str "EE" u_and)))
    (e_or : PySem.W.nsIn K ke "or" = some (some (.str "EE" u_or)))
    (e_xor : PySem.W.nsIn K ke "xor" = some (some (.str "EE" u_xor)))
    (e_sum : PySem.W.nsIn K ke "sum" = some (some (.str "EE" u_sum)))
    (e_same : PySem.W.nsIn K ke "same" = some (some (.str "EE" u_same)))
    (e_below : PySem.W.nsIn K ke "below" = some (some (.str "EE" u_below)))
    (e_join : PySem.W.nsIn K ke "join" = some (some (.str "EE" u_join)))
    (e_pick : PySem.W.nsIn K ke "pick" = some (some (.str "EEE" u_pick)))
    (e_cut : PySem.W.nsIn K ke "cut" = some (some (.str "WE" u_cut)))
    (e_bit : PySem.W.nsIn K ke "bit" = some (some (.str "KE" u_bit)))
    (r_clock : PySem.W.nsIn K kr "clock" = some (some (.str "X" v_clock)))
    (r_in : PySem.W.nsIn K kr "in" = some (some (.str "XWX" v_in)))
    (r_out : PySem.W.nsIn K kr "out" = some (some (.str "XWXE" v_out)))
    (r_wire : PySem.W.nsIn K kr "wire" = some (some (.str "XWE" v_wire)))
    (r_box : PySem.W.nsIn K kr "box" = some (some (.str "XWXKE" v_box)))
    (r_cross : PySem.W.nsIn K kr "cross" = some (some (.str "XXKA" v_cross)))
    : ∃ fd : FuncData, (∀ (s : Shared) (v : Value), BindsTo s fd ⟨[v], []⟩ [("_law_script", v)]) ∧ ∀ base : Heap, K.In base → base.Ns mainGlobals mg → FnG l.prog w K mg base L2.CX0 35 fa fd ["_law_script"] (spLaw K) := by
  have e := hfa.symm.trans (PySem.W.mg_of X G a_law)
  cases e
  have D_part_words := def_mk (ps := ["part"]) (st := s_part_words) X G a_part_words l_part_words c_part_words k_part_words (fun _ _ _ _ _ _ us hl => match us, hl with | [_], _ => rfl) (fun _ _ _ _ _ _ _ ws hl => match ws, hl with | [_], _ => rfl)
  have D_parts_words := def_mk (ps := ["parts"]) (st := s_parts_words) X G a_parts_words l_parts_words c_parts_words k_parts_words (fun _ _ _ _ _ _ us hl => match us, hl with | [_], _ => rfl) (fun _ _ _ _ _ _ _ ws hl => match ws, hl with | [_], _ => rfl)
  have D_row_words := def_mk (ps := ["row"]) (st := s_row_words) X G a_row_words l_row_words c_row_words k_row_words (fun _ _ _ _ _ _ us hl => match us, hl with | [_], _ => rfl) (fun _ _ _ _ _ _ _ ws hl => match ws, hl with | [_], _ => rfl)
  have D_show_module := def_mk (ps := ["tree"]) (st := s_show_module) X G a_show_module l_show_module c_show_module k_show_module (fun _ _ _ _ _ _ us hl => match us, hl with | [_], _ => rfl) (fun _ _ _ _ _ _ _ ws hl => match ws, hl with | [_], _ => rfl)
  have D_is_name := def_mk (ps := ["thing"]) (st := s_is_name) X G a_is_name l_is_name c_is_name k_is_name (fun _ _ _ _ _ _ us hl => match us, hl with | [_], _ => rfl) (fun _ _ _ _ _ _ _ ws hl => match ws, hl with | [_], _ => rfl)
  have D_is_spot := def_mk (ps := ["word"]) (st := s_is_spot) X G a_is_spot l_is_spot c_is_spot k_is_spot (fun _ _ _ _ _ _ us hl => match us, hl with | [_], _ => rfl) (fun _ _ _ _ _ _ _ ws hl => match ws, hl with | [_], _ => rfl)
  have D_is_number := def_mk (ps := ["word", "least", "most"]) (st := s_is_number) X G a_is_number l_is_number c_is_number k_is_number (fun _ _ _ _ _ _ us hl => match us, hl with | [_, _, _], _ => rfl) (fun _ _ _ _ _ _ _ ws hl => match ws, hl with | [_, _, _], _ => rfl)
  have F_RowWords_init := fun_mk (st := s_RowWords_init) l_RowWords_init c_RowWords_init k_RowWords_init
  have b_RowWords_init := F_RowWords_init.binds (ps := ["self", "row", "line"]) (fun _ _ _ _ _ _ us hl => match us, hl with | [_, _, _], _ => rfl)
  have F_RowWords_here := fun_mk (st := s_RowWords_here) l_RowWords_here c_RowWords_here k_RowWords_here
  have b_RowWords_here := F_RowWords_here.binds (ps := ["self"]) (fun _ _ _ _ _ _ us hl => match us, hl with | [_], _ => rfl)
  have F_RowWords_more := fun_mk (st := s_RowWords_more) l_RowWords_more c_RowWords_more k_RowWords_more
  have b_RowWords_more := F_RowWords_more.binds (ps := ["self"]) (fun _ _ _ _ _ _ us hl => match us, hl with | [_], _ => rfl)
  have F_RowWords_coming := fun_mk (st := s_RowWords_coming) l_RowWords_coming c_RowWords_coming k_RowWords_coming
  have b_RowWords_coming := F_RowWords_coming.binds (ps := ["self"]) (fun _ _ _ _ _ _ us hl => match us, hl with | [_], _ => rfl)
  have F_RowWords_take := fun_mk (st := s_RowWords_take) l_RowWords_take c_RowWords_take k_RowWords_take
  have b_RowWords_take := F_RowWords_take.binds (ps := ["self", "fits"]) (fun _ _ _ _ _ _ us hl => match us, hl with | [_, _], _ => rfl)
  have F_RowWords_take_name := fun_mk (st := s_RowWords_take_name) l_RowWords_take_name c_RowWords_take_name k_RowWords_take_name
  have b_RowWords_take_name := F_RowWords_take_name.binds (ps := ["self"]) (fun _ _ _ _ _ _ us hl => match us, hl with | [_], _ => rfl)
  have F_RowWords_take_number := fun_mk (st := s_RowWords_take_number) l_RowWords_take_number c_RowWords_take_number k_RowWords_take_number
  have b_RowWords_take_number := F_RowWords_take_number.binds (ps := ["self", "least", "most"]) (fun _ _ _ _ _ _ us hl => match us, hl with | [_, _, _], _ => rfl)
  have F_RowWords_take_end := fun_mk (st := s_RowWords_take_end) l_RowWords_take_end c_RowWords_take_end k_RowWords_take_end
  have b_RowWords_take_end := F_RowWords_take_end.binds (ps := ["self"]) (fun _ _ _ _ _ _ us hl => match us, hl with | [_], _ => rfl)
  have D_read_part := def_mk (ps := ["words", "letter", "depth"]) (st := s_read_part) X G a_read_part l_read_part c_read_part k_read_part (fun _ _ _ _ _ _ us hl => match us, hl with | [_, _, _], _ => rfl) (fun _ _ _ _ _ _ _ ws hl => match ws, hl with | [_, _, _], _ => rfl)
  have D_read_expression := def_mk (ps := ["words", "depth"]) (st := s_read_expression) X G a_read_expression l_read_expression c_read_expression k_read_expression (fun _ _ _ _ _ _ us hl => match us, hl with | [_, _], _ => rfl) (fun _ _ _ _ _ _ _ ws hl => match ws, hl with | [_, _], _ => rfl)
  have D_read_use := def_mk (ps := ["words"]) (st := s_read_use) X G a_read_use l_read_use c_read_use k_read_use (fun _ _ _ _ _ _ us hl => match us, hl with | [_], _ => rfl) (fun _ _ _ _ _ _ _ ws hl => match ws, hl with | [_], _ => rfl)
  have D_read_row := def_mk (ps := ["row", "line"]) (st := s_read_row) X G a_read_row l_read_row c_read_row k_read_row (fun _ _ _ _ _ _ us hl => match us, hl with | [_, _], _ => rfl) (fun _ _ _ _ _ _ _ ws hl => match ws, hl with | [_, _], _ => rfl)
  have D_read_module := def_mk (ps := ["text"]) (st := s_read_module) X G a_read_module l_read_module c_read_module k_read_module (fun _ _ _ _ _ _ us hl => match us, hl with | [_], _ => rfl) (fun _ _ _ _ _ _ _ ws hl => match ws, hl with | [_], _ => rfl)
  have D_l_deck := def_mk (ps := ["_law_script"]) (st := s_l_deck) X G a_l_deck l_l_deck c_l_deck k_l_deck (fun _ _ _ _ _ _ us hl => match us, hl with | [_], _ => rfl) (fun _ _ _ _ _ _ _ ws hl => match ws, hl with | [_], _ => rfl)
  have D_l_draw := def_mk (ps := ["_law_deck_here", "_law_sides"]) (st := s_l_draw) X G a_l_draw l_l_draw c_l_draw k_l_draw (fun _ _ _ _ _ _ us hl => match us, hl with | [_, _], _ => rfl) (fun _ _ _ _ _ _ _ ws hl => match ws, hl with | [_, _], _ => rfl)
  have D_l_pick := def_mk (ps := ["_law_deck_here", "_law_some"]) (st := s_l_pick) X G a_l_pick l_l_pick c_l_pick k_l_pick (fun _ _ _ _ _ _ us hl => match us, hl with | [_, _], _ => rfl) (fun _ _ _ _ _ _ _ ws hl => match ws, hl with | [_, _], _ => rfl)
  have D_l_kept := def_mk (ps := []) (st := s_l_kept) X G a_l_kept l_l_kept c_l_kept k_l_kept (fun _ _ _ _ _ _ us hl => match us, hl with | [], _ => rfl) (fun h0 => absurd rfl h0)
  have D_l_name := def_mk (ps := ["_law_deck_here"]) (st := s_l_name) X G a_l_name l_l_name c_l_name k_l_name (fun _ _ _ _ _ _ us hl => match us, hl with | [_], _ => rfl) (fun _ _ _ _ _ _ _ ws hl => match ws, hl with | [_], _ => rfl)
  have D_l_shapes := def_mk (ps := []) (st := s_l_shapes) X G a_l_shapes l_l_shapes c_l_shapes k_l_shapes (fun _ _ _ _ _ _ us hl => match us, hl with | [], _ => rfl) (fun h0 => absurd rfl h0)
  have D_l_number := def_mk (ps := ["_law_deck_here", "_law_kind"]) (st := s_l_number) X G a_l_number l_l_number c_l_number k_l_number (fun _ _ _ _ _ _ us hl => match us, hl with | [_, _], _ => rfl) (fun _ _ _ _ _ _ _ ws hl => match ws, hl with | [_, _], _ => rfl)
  have D_l_expression := def_mk (ps := ["_law_deck_here", "_law_left", "_law_room"]) (st := s_l_expression) X G a_l_expression l_l_expression c_l_expression k_l_expression (fun _ _ _ _ _ _ us hl => match us, hl with | [_, _, _], _ => rfl) (fun _ _ _ _ _ _ _ ws hl => match ws, hl with | [_, _, _], _ => rfl)
  have D_l_row := def_mk (ps := ["_law_deck_here", "_law_deep"]) (st := s_l_row) X G a_l_row l_l_row c_l_row k_l_row (fun _ _ _ _ _ _ us hl => match us, hl with | [_, _], _ => rfl) (fun _ _ _ _ _ _ _ ws hl => match ws, hl with | [_, _], _ => rfl)
  have D_l_laid_out := def_mk (ps := ["_law_part", "_law_row_here", "_law_at"]) (st := s_l_laid_out) X G a_l_laid_out l_l_laid_out c_l_laid_out k_l_laid_out (fun _ _ _ _ _ _ us hl => match us, hl with | [_, _, _], _ => rfl) (fun _ _ _ _ _ _ _ ws hl => match ws, hl with | [_, _, _], _ => rfl)
  have D_l_row_out := def_mk (ps := ["_law_made", "_law_row_here"]) (st := s_l_row_out) X G a_l_row_out l_l_row_out c_l_row_out k_l_row_out (fun _ _ _ _ _ _ us hl => match us, hl with | [_, _], _ => rfl) (fun _ _ _ _ _ _ _ ws hl => match ws, hl with | [_, _], _ => rfl)
  have D_l_both := def_mk (ps := ["_law_made"]) (st := s_l_both) X G a_l_both l_l_both c_l_both k_l_both (fun _ _ _ _ _ _ us hl => match us, hl with | [_], _ => rfl) (fun _ _ _ _ _ _ _ ws hl => match ws, hl with | [_], _ => rfl)
  have D_l_module := def_mk (ps := ["_law_deck_here", "_law_most", "_law_deep"]) (st := s_l_module) X G a_l_module l_l_module c_l_module k_l_module (fun _ _ _ _ _ _ us hl => match us, hl with | [_, _, _], _ => rfl) (fun _ _ _ _ _ _ _ ws hl => match ws, hl with | [_, _, _], _ => rfl)
  have D_law := def_mk (ps := ["_law_script"]) (st := s_law) X G a_law l_law c_law k_law (fun _ _ _ _ _ _ us hl => match us, hl with | [_], _ => rfl) (fun _ _ _ _ _ _ _ ws hl => match ws, hl with | [_], _ => rfl)
  have M : Bi mg := ⟨PySem.W.mg_none_of X G z_isinstance, PySem.W.mg_none_of X G z_str, PySem.W.mg_none_of X G z_len, PySem.W.mg_none_of X G z_all, PySem.W.mg_none_of X G z_list, PySem.W.mg_none_of X G z_range, PySem.W.mg_none_of X G z_int, PySem.W.mg_none_of X G z_repr, PySem.W.mg_none_of X G z_tuple, PySem.W.mg_none_of X G z_enumerate, PySem.W.mg_none_of X G z_max, PySem.W.mg_none_of X G z_min⟩
  have T : Tp K mg := ⟨⟨_, PySem.W.mg_of X G t_L, _, rfl⟩, ⟨_, PySem.W.mg_of X G t_N, _, rfl⟩⟩
  have T2 : Tp2 K mg := ⟨⟨_, PySem.W.mg_of X G t_F, _, rfl⟩⟩
  have W : Kw K mg kw := ⟨⟨_, PySem.W.mg_of X G t_K, rfl⟩, fun H => .inr ⟨_, its, nk, t_K2, rfl, rfl, vals_size t_K3, t_K3⟩⟩
  have xE : ∀ e ∈ expTab, ∃ u, PySem.W.nsIn K ke e.1 = some (some u) ∧ RelV (.str e.2) u := by
      intro e he
      simp only [expTab, List.mem_cons, List.not_mem_nil, or_false] at he
      rcases he with rfl | rfl | rfl | rfl | rfl | rfl | rfl | rfl | rfl | rfl | rfl | rfl
      · exact ⟨_, e_num, _, rfl⟩
      · exact ⟨_, e_not, _, rfl⟩
      · exact ⟨_, e_and, _, rfl⟩
      · exact ⟨_, e_or, _, rfl⟩
      · exact ⟨_, e_xor, _, rfl⟩
      · exact ⟨_, e_sum, _, rfl⟩
      · exact ⟨_, e_same, _, rfl⟩
      · exact ⟨_, e_below, _, rfl⟩
      · exact ⟨_, e_join, _, rfl⟩
      · exact ⟨_, e_pick, _, rfl⟩
      · exact ⟨_, e_cut, _, rfl⟩
      · exact ⟨_, e_bit, _, rfl⟩
  have xR : ∀ e ∈ rowTab, ∃ u, PySem.W.nsIn K kr e.1 = some (some u) ∧ RelV (.str e.2) u := by
      intro e he
      simp only [rowTab, List.mem_cons, List.not_mem_nil, or_false] at he
      rcases he with rfl | rfl | rfl | rfl | rfl | rfl
      · exact ⟨_, r_clock, _, rfl⟩
      · exact ⟨_, r_in, _, rfl⟩
      · exact ⟨_, r_out, _, rfl⟩
      · exact ⟨_, r_wire, _, rfl⟩
      · exact ⟨_, r_box, _, rfl⟩
      · exact ⟨_, r_cross, _, rfl⟩
  have T3 : Tp3 K w mg ke kr := ⟨⟨_, PySem.W.mg_of X G t_1, _, rfl⟩, ⟨_, PySem.W.mg_of X G t_2, _, rfl⟩, ⟨_, PySem.W.mg_of X G t_3, _, rfl⟩, ⟨_, PySem.W.mg_of X G t_4, _, rfl⟩, ⟨_, PySem.W.mg_of X G t_5, _, rfl⟩, ⟨_, PySem.W.mg_of X G t_E, rfl⟩, ⟨_, PySem.W.mg_of X G t_R, rfl⟩, ⟨_, _, t_E2, t_E3, t_E4⟩, ⟨_, _, t_R2, t_R3, t_R4⟩, xE⟩
  have RW : ClRW K K_RowWords := ⟨⟨pg_RowWords, hd_RowWords, po_RowWords, sa_RowWords⟩, n_RowWords_row, n_RowWords_words, n_RowWords_at⟩
  refine ⟨PySem.W.fnOf "law" "law" (defArgs s_law) (defBody s_law) (defScope s_law) .none kV_law dc_law pm_law an_law cd_law ct_law, fun s v => .of_eq rfl, fun base _ _ => ?_⟩
  · have C_l_draw := ok_draw (P := l.prog) (w := w) (base := base) D_l_draw
    have C_l_deck := ok_deck (P := l.prog) (w := w) (base := base) D_l_deck M
    have C_l_pick := ok_pick D_l_pick M C_l_draw
    have C_l_kept := ok_kept (P := l.prog) (w := w) (base := base) D_l_kept
    have C_l_name := ok_name D_l_name M C_l_draw C_l_pick C_l_kept
    have C_l_shapes := ok_shapes (P := l.prog) (w := w) (base := base) D_l_shapes
    have C_l_number := ok_number2 D_l_number C_l_draw
    have C_l_expression := le_all D_l_expression M C_l_draw C_l_name C_l_shapes C_l_number 12 (by decide)
    have C_l_row := ok_lrow D_l_row M C_l_draw C_l_name C_l_number C_l_expression
    have C_l_module := ok_lmod D_l_module M C_l_draw C_l_row
    have C_l_laid_out := lo_all (P := l.prog) (w := w) (base := base) D_l_laid_out M 13
    have C_l_row_out := ok_ro D_l_row_out M C_l_laid_out
    have C_l_both := ok_both D_l_both M C_l_row_out
    have C_is_name := ok_is_name (P := l.prog) (w := w) (base := base) D_is_name M T W
    have C_is_spot := ok_spot D_is_spot M C_is_name
    have C_is_number := ok_number (P := l.prog) (w := w) (base := base) D_is_number M T2
    have M_here := ok_here (P := l.prog) (w := w) (mg := mg) (base := base) ⟨F_RowWords_here, ⟨a_RowWords_here, i_RowWords_here, k_RowWords_here⟩, b_RowWords_here⟩ RW
    have M_more := ok_more (P := l.prog) (w := w) (base := base) ⟨F_RowWords_more, ⟨a_RowWords_more, i_RowWords_more, k_RowWords_more⟩, b_RowWords_more⟩ RW M
    have M_coming := ok_coming ⟨F_RowWords_coming, ⟨a_RowWords_coming, i_RowWords_coming, k_RowWords_coming⟩, b_RowWords_coming⟩ RW M_more
    have M_take := ok_take ⟨F_RowWords_take, ⟨a_RowWords_take, i_RowWords_take, k_RowWords_take⟩, b_RowWords_take⟩ RW M_coming
    have M_take_name := ok_take_name ⟨F_RowWords_take_name, ⟨a_RowWords_take_name, i_RowWords_take_name, k_RowWords_take_name⟩, b_RowWords_take_name⟩ RW M_coming M_take C_is_name
    have M_take_number := ok_take_number ⟨F_RowWords_take_number, ⟨a_RowWords_take_number, i_RowWords_take_number, k_RowWords_take_number⟩, b_RowWords_take_number⟩ RW M M_coming M_take C_is_number
    have M_take_end := ok_take_end ⟨F_RowWords_take_end, ⟨a_RowWords_take_end, i_RowWords_take_end, k_RowWords_take_end⟩, b_RowWords_take_end⟩ RW M_more
    have R : MR l.prog w K mg base K_RowWords := ⟨M_here, M_more, M_coming, M_take, M_take_name, M_take_number, M_take_end⟩
    have C_read_expression := ok_part_exp D_read_part D_read_expression T3 R C_is_spot 13
    have C_read_part := ok_part (L := 31) D_read_part T3 R (by decide) C_read_expression
    have C_read_use := ok_use D_read_use M T3 R C_read_expression
    have C_read_row := ok_row D_read_row T3 xR R RW ⟨mk_RowWords, a_RowWords_init, i_RowWords_init, kc_RowWords⟩ (ok_init F_RowWords_init RW) (PySem.W.mg_of X G a_RowWords) b_RowWords_init C_read_part C_read_use
    have C_read_module := ok_module D_read_module M C_read_row
    have C_parts_words := pws_all (P := l.prog) (w := w) (base := base) D_part_words D_parts_words M 13
    have C_row_words := ok_roww D_row_words M C_parts_words
    have C_show_module := ok_show D_show_module C_row_words
    exact ok_law D_law M C_l_deck C_l_draw C_l_name C_l_module C_l_both C_show_module C_read_module
end K05
open PySem PySem.W PyProof.Rows
set_option maxRecDepth 100000 in
set_option maxHeartbeats 0 in
theorem PySem.Challenge.cw_wiretongue_k05_whole_written_and_read_ag_holds : PySem.Challenge.rw_wiretongue_k05_whole_written_and_read_ag.Holds := by
  w_on; o_law; k_head; (case hw => w_witness2)
  k_fill
  refine Kit.walk_ofG (l := PySem.Challenge.rw_wiretongue_k05_whole_written_and_read_ag) (n := 63) (k := 35) (x := "_law_script") (CX := fun _ => L2.CX0) (sp := fun w => K05.spLaw _) rfl (by decide) rfl ⟨rfl, by decide, by decide⟩ (fun w h Y => PySem.W.kIn_of Y) ?F (fun _ _ a ns hl hb _ hS => ⟨a, ns, rfl, hS, hl, hb, fun _ => rfl⟩) (fun _ _ _ _ _ h => h)
  case F =>
    intro w mg fa h KX G hmg
    refine' K05.all_mk KX G hmg ?a_RowWords ?pg_RowWords ?hd_RowWords ?po_RowWords ?sa_RowWords ?mk_RowWords ?kc_RowWords ?n_RowWords_row ?n_RowWords_words ?n_RowWords_at ?a_part_words ?l_part_words ?c_part_words ?k_part_words ?a_parts_words ?l_parts_words ?c_parts_words ?k_parts_words ?a_row_words ?l_row_words ?c_row_words ?k_row_words ?a_show_module ?l_show_module ?c_show_module ?k_show_module ?a_is_name ?l_is_name ?c_is_name ?k_is_name ?a_is_spot ?l_is_spot ?c_is_spot ?k_is_spot ?a_is_number ?l_is_number ?c_is_number ?k_is_number ?a_RowWords_init ?i_RowWords_init ?l_RowWords_init ?c_RowWords_init ?k_RowWords_init ?a_RowWords_here ?i_RowWords_here ?l_RowWords_here ?c_RowWords_here ?k_RowWords_here ?a_RowWords_more ?i_RowWords_more ?l_RowWords_more ?c_RowWords_more ?k_RowWords_more ?a_RowWords_coming ?i_RowWords_coming ?l_RowWords_coming ?c_RowWords_coming ?k_RowWords_coming ?a_RowWords_take ?i_RowWords_take ?l_RowWords_take ?c_RowWords_take ?k_RowWords_take ?a_RowWords_take_name ?i_RowWords_take_name ?l_RowWords_take_name ?c_RowWords_take_name ?k_RowWords_take_name ?a_RowWords_take_number ?i_RowWords_take_number ?l_RowWords_take_number ?c_RowWords_take_number ?k_RowWords_take_number ?a_RowWords_take_end ?i_RowWords_take_end ?l_RowWords_take_end ?c_RowWords_take_end ?k_RowWords_take_end ?a_read_part ?l_read_part ?c_read_part ?k_read_part ?a_read_expression ?l_read_expression ?c_read_expression ?k_read_expression ?a_read_use ?l_read_use ?c_read_use ?k_read_use ?a_read_row ?l_read_row ?c_read_row ?k_read_row ?a_read_module ?l_read_module ?c_read_module ?k_read_module ?a_l_deck ?l_l_deck ?c_l_deck ?k_l_deck ?a_l_draw ?l_l_draw ?c_l_draw ?k_l_draw ?a_l_pick ?l_l_pick ?c_l_pick ?k_l_pick ?a_l_kept ?l_l_kept ?c_l_kept ?k_l_kept ?a_l_name ?l_l_name ?c_l_name ?k_l_name ?a_l_shapes ?l_l_shapes ?c_l_shapes ?k_l_shapes ?a_l_number ?l_l_number ?c_l_number ?k_l_number ?a_l_expression ?l_l_expression ?c_l_expression ?k_l_expression ?a_l_row ?l_l_row ?c_l_row ?k_l_row ?a_l_laid_out ?l_l_laid_out ?c_l_laid_out ?k_l_laid_out ?a_l_row_out ?l_l_row_out ?c_l_row_out ?k_l_row_out ?a_l_both ?l_l_both ?c_l_both ?k_l_both ?a_l_module ?l_l_module ?c_l_module ?k_l_module ?a_law ?l_law ?c_law ?k_law ?z_isinstance ?z_str ?z_len ?z_all ?z_list ?z_range ?z_int ?z_repr ?z_tuple ?z_enumerate ?z_max ?z_min ?t_L ?t_F ?t_N ?t_1 ?t_2 ?t_3 ?t_4 ?t_5 ?t_K ?t_K2 ?t_K3 ?t_E ?t_E2 ?t_E3 ?t_E4 ?t_R ?t_R2 ?t_R3 ?t_R4 ?e_num ?e_not ?e_and ?e_or ?e_xor ?e_sum ?e_same ?e_below ?e_join ?e_pick ?e_cut ?e_bit ?r_clock ?r_in ?r_out ?r_wire ?r_box ?r_cross
    (case a_RowWords => k_is)
    (case pg_RowWords => k_is)
    (case hd_RowWords => k_is)
    (case po_RowWords => k_is)
    (case sa_RowWords => k_is)
    (case mk_RowWords => k_is)
    (case kc_RowWords => k_is)
    (case n_RowWords_row => k_is)
    (case n_RowWords_words => k_is)
    (case n_RowWords_at => k_is)
    (case a_part_words => k_is)
    (case l_part_words => k_is)
    (case c_part_words => k_is)
    (case k_part_words => k_is)
    (case a_parts_words => k_is)
    (case l_parts_words => k_is)
    (case c_parts_words => k_is)
    (case k_parts_words => k_is)
    (case a_row_words => k_is)
    (case l_row_words => k_is)
    (case c_row_words => k_is)
    (case k_row_words => k_is)
    (case a_show_module => k_is)
    (case l_show_module => k_is)
    (case c_show_module => k_is)
    (case k_show_module => k_is)
    (case a_is_name => k_is)
    (case l_is_name => k_is)
    (case c_is_name => k_is)
    (case k_is_name => k_is)
    (case a_is_spot => k_is)
    (case l_is_spot => k_is)
    (case c_is_spot => k_is)
    (case k_is_spot => k_is)
    (case a_is_number => k_is)
    (case l_is_number => k_is)
    (case c_is_number => k_is)
    (case k_is_number => k_is)
    (case a_RowWords_init => k_is)
    (case i_RowWords_init => k_is)
    (case l_RowWords_init => k_is)
    (case c_RowWords_init => k_is)
    (case k_RowWords_init => k_is)
    (case a_RowWords_here => k_is)
    (case i_RowWords_here => k_is)
    (case l_RowWords_here => k_is)
    (case c_RowWords_here => k_is)
    (case k_RowWords_here => k_is)
    (case a_RowWords_more => k_is)
    (case i_RowWords_more => k_is)
    (case l_RowWords_more => k_is)
    (case c_RowWords_more => k_is)
    (case k_RowWords_more => k_is)
    (case a_RowWords_coming => k_is)
    (case i_RowWords_coming => k_is)
    (case l_RowWords_coming => k_is)
    (case c_RowWords_coming => k_is)
    (case k_RowWords_coming => k_is)
    (case a_RowWords_take => k_is)
    (case i_RowWords_take => k_is)
    (case l_RowWords_take => k_is)
    (case c_RowWords_take => k_is)
    (case k_RowWords_take => k_is)
    (case a_RowWords_take_name => k_is)
    (case i_RowWords_take_name => k_is)
    (case l_RowWords_take_name => k_is)
    (case c_RowWords_take_name => k_is)
    (case k_RowWords_take_name => k_is)
    (case a_RowWords_take_number => k_is)
    (case i_RowWords_take_number => k_is)
    (case l_RowWords_take_number => k_is)
    (case c_RowWords_take_number => k_is)
    (case k_RowWords_take_number => k_is)
    (case a_RowWords_take_end => k_is)
    (case i_RowWords_take_end => k_is)
    (case l_RowWords_take_end => k_is)
    (case c_RowWords_take_end => k_is)
    (case k_RowWords_take_end => k_is)
    (case a_read_part => k_is)
    (case l_read_part => k_is)
    (case c_read_part => k_is)
    (case k_read_part => k_is)
    (case a_read_expression => k_is)
    (case l_read_expression => k_is)
    (case c_read_expression => k_is)
    (case k_read_expression => k_is)
    (case a_read_use => k_is)
    (case l_read_use => k_is)
    (case c_read_use => k_is)
    (case k_read_use => k_is)
    (case a_read_row => k_is)
    (case l_read_row => k_is)
    (case c_read_row => k_is)
    (case k_read_row => k_is)
    (case a_read_module => k_is)
    (case l_read_module => k_is)
    (case c_read_module => k_is)
    (case k_read_module => k_is)
    (case a_l_deck => k_is)
    (case l_l_deck => k_is)
    (case c_l_deck => k_is)
    (case k_l_deck => k_is)
    (case a_l_draw => k_is)
    (case l_l_draw => k_is)
    (case c_l_draw => k_is)
    (case k_l_draw => k_is)
    (case a_l_pick => k_is)
    (case l_l_pick => k_is)
    (case c_l_pick => k_is)
    (case k_l_pick => k_is)
    (case a_l_kept => k_is)
    (case l_l_kept => k_is)
    (case c_l_kept => k_is)
    (case k_l_kept => k_is)
    (case a_l_name => k_is)
    (case l_l_name => k_is)
    (case c_l_name => k_is)
    (case k_l_name => k_is)
    (case a_l_shapes => k_is)
    (case l_l_shapes => k_is)
    (case c_l_shapes => k_is)
    (case k_l_shapes => k_is)
    (case a_l_number => k_is)
    (case l_l_number => k_is)
    (case c_l_number => k_is)
    (case k_l_number => k_is)
    (case a_l_expression => k_is)
    (case l_l_expression => k_is)
    (case c_l_expression => k_is)
    (case k_l_expression => k_is)
    (case a_l_row => k_is)
    (case l_l_row => k_is)
    (case c_l_row => k_is)
    (case k_l_row => k_is)
    (case a_l_laid_out => k_is)
    (case l_l_laid_out => k_is)
    (case c_l_laid_out => k_is)
    (case k_l_laid_out => k_is)
    (case a_l_row_out => k_is)
    (case l_l_row_out => k_is)
    (case c_l_row_out => k_is)
    (case k_l_row_out => k_is)
    (case a_l_both => k_is)
    (case l_l_both => k_is)
    (case c_l_both => k_is)
    (case k_l_both => k_is)
    (case a_l_module => k_is)
    (case l_l_module => k_is)
    (case c_l_module => k_is)
    (case k_l_module => k_is)
    (case a_law => k_is)
    (case l_law => k_is)
    (case c_law => k_is)
    (case k_law => k_is)
    (case z_isinstance => k_is)
    (case z_str => k_is)
    (case z_len => k_is)
    (case z_all => k_is)
    (case z_list => k_is)
    (case z_range => k_is)
    (case z_int => k_is)
    (case z_repr => k_is)
    (case z_tuple => k_is)
    (case z_enumerate => k_is)
    (case z_max => k_is)
    (case z_min => k_is)
    (case t_L => k_is)
    (case t_F => k_is)
    (case t_N => k_is)
    (case t_1 => k_is)
    (case t_2 => k_is)
    (case t_3 => k_is)
    (case t_4 => k_is)
    (case t_5 => k_is)
    (case t_K => k_is)
    (case t_K2 => k_is)
    (case t_K3 => (rw [K05.keptL_eq]; repeat (first | exact Paired.nil | refine Paired.cons ⟨_, rfl⟩ ?_)))
    (case t_E => k_is)
    (case t_E2 => k_is)
    (case t_E3 => (repeat (first | exact True.intro | refine And.intro ⟨_, _, rfl, rfl⟩ ?_)))
    (case t_E4 => rfl)
    (case t_R => k_is)
    (case t_R2 => k_is)
    (case t_R3 => (repeat (first | exact True.intro | refine And.intro ⟨_, _, rfl, rfl⟩ ?_)))
    (case t_R4 => rfl)
    (case e_num => k_is)
    (case e_not => k_is)
    (case e_and => k_is)
    (case e_or => k_is)
    (case e_xor => k_is)
    (case e_sum => k_is)
    (case e_same => k_is)
    (case e_below => k_is)
    (case e_join => k_is)
    (case e_pick => k_is)
    (case e_cut => k_is)
    (case e_bit => k_is)
    (case r_clock => k_is)
    (case r_in => k_is)
    (case r_out => k_is)
    (case r_wire => k_is)
    (case r_box => k_is)
    (case r_cross => k_is)

