import PyProof.Rows.All
import Wide.All
import OpenK.AllK
import Wide.FinOn
import HandS.ForMost
import HandS.Style
import HandS.IsInst
import HandS.EndBits
import HandS.MakeKwOnly
import KE.IntBitsLaws
import HandS.Exc
import HandS.Iter
import HandS.List
import HandS.Text
import HandS.TupMul
import KE.KRevSl
import HandS.SortKw
import HandS.TupLe
import HandS.Walk
import HandS.Zip
import KE.GoesEnum
import HandS.Lambda
import HandS.Nested
import HandS.EndTab
import HandS.Deep
import HandS.NoneIn
import PyProof.P3In
import KE.GoesMore
import KE.GoesZip
import HandS.Star
import HandS.Wide
import HandS.Flow
import HandS.ExcOwn
import HandS.RaiseMore
import HandS.Conv
import HandS.Sort
import HandS.ExcInit
import HandS.ExcField
import HandS.ExcIs
import HandS.ExcValue
import KE.KExcIs
import KE.KExcInit
import HandS.TryMany
import HandS.DictComp
import PyProof.DictFindH
import KE.SortData
import KE.KDictZip
import PyProof.ListNew
import HandS.SortInts
import PyProof.Rows.Digits
import HandS.Codes
import HandS.WideBits
import PySem.Challenge.RW_wiretongue_k34_gates_beat_by_beat
set_option Elab.async false
set_option linter.all false
set_option maxRecDepth 100000
set_option maxHeartbeats 4000000
/-! promises of defs that may show things: what runs around holds nothing that is being shown -/
namespace Kit
open PySem PySem.Spec PyProof.Rows L2

/-- nothing is being shown -/
abbrev Qt (A : Around) : Prop := A.guards = some []
theorem Qt.deeper {A : Around} (h : Qt A) (env : Env) : Qt (A.deeper env) := h

structure FnG (P : Program) (w : World) (K : PySem.W.Frag) (mg : Str → Option Value)
    (base : Heap) (CX : CXT) (k : Nat) (f : Addr) (fd : FuncData) (ps : List Str) (sp : Sp) : Prop where
  len : ∀ vs H Q E, sp vs H Q E → vs.length = ps.length
  run : ∀ (A : Around) (outer : List Env) (s : Shared) (H : Hp) (args : Args) (us : List Value)
    (vs : List V) (Q : VK) (E : XK), Qt A → Room k A → Env0 P w K mg base A outer s H →
    BindsTo s fd args (ps.zip us) → Vals vs us → sp vs H Q E →
    codeAny (model P w) A (.call (.ref f) args) (CR CX outer P w H s Q E) s

section
variable {P : Program} {w : World} {K : PySem.W.Frag} {mg : Str → Option Value} {base : Heap} {CX : CXT}

theorem FnG.of {k : Nat} {f : Addr} {fd : FuncData} {ps : List Str} {sp : Sp}
    (F : FnOk P w K mg base CX k f fd ps sp) : FnG P w K mg base CX k f fd ps sp :=
  ⟨F.len, fun A outer s H args us vs Q E _ => F.run A outer s H args us vs Q E⟩

/-- by its body -/
theorem fn_ofG {k : Nat} {f : Addr} {name qual : Str} {params : Arguments} {body : List Stmt} {scope : Scope}
    {dV kV doc pm cdv ct oc : Value} {an od : Option Addr} {osl : Array (Option Value)} {N ps : List Str} {sp : Sp}
    (lk : K.lookup f = some ⟨oc, od, .func (PySem.W.fnOf name qual params body scope dV kV doc pm an cdv ct), osl⟩)
    (hcd : PySem.W.codeIn K cdv qual = true) (S : FnScope N ps scope)
    (len : ∀ vs H Q E, sp vs H Q E → vs.length = ps.length)
    (hbody : ∀ (A : Around) (outer : List Env) (s : Shared) (H : Hp) (vs : List V) (Q : VK) (E : XK),
      Qt (A.deeper (envOfC qual scope s.heap.objs.size f cdv)) →
      Room k (A.deeper (envOfC qual scope s.heap.objs.size f cdv)) → sp vs H Q E →
      ∃ t, PSs (cxOf CX P w K mg base N qual scope f cdv A outer s H E) body t ∧
        t { nx := fun _ H' => Q .non H', rt := Q } (start N vs) H) :
    FnG P w K mg base CX (k + 1) f (PySem.W.fnOf name qual params body scope dV kV doc pm an cdv ct) ps sp := by
  refine ⟨len, ?_⟩
  intro A outer s H args us vs Q E hq hr e0 hb r hsp
  have hl := len _ _ _ _ hsp
  have kept : ∀ b o, base.get? b = some o → s.heap.get? b = some o := fun b o e => (e0.bs b o e).1
  have KX : K.In s.heap := e0.mod.kin.keeps kept
  have lim : s.heap.NoLimit := e0.mod.nolimit.keeps kept
  have hkind : ∀ y ∈ ps.zip us, scope.names.lookup y.1 = some .local ∨
      (scope.names.lookup y.1 = some .cell ∧
        ((cellsFrom (s.heap.objs.size + 1) scope.names []).lookup y.1).isSome = true) := by
    intro y hy
    rcases S.par y.1 (List.of_mem_zip (a := y.1) (b := y.2) hy).1 with q | q
    · exact .inl q
    · exact .inr ⟨q, PySem.W.cellsFrom_some _ _ _ (.inl q)⟩
  refine codeAny_call_function hr.depth (KX _ _ lk) rfl S.co S.gen rfl
    (PySem.W.codeRec_of KX hcd) (hb _ _ _ _ ?_)
  refine wpAny_newFunctionEnv_cells S.kind hkind fun env he s1 x => ?_
  subst he
  refine ⟨lim.keeps x.toInCall.keep, codeAny_func ?_⟩
  obtain ⟨t, ht, go⟩ := hbody A outer s H vs Q E (hq.deeper _) (hr.deeper _) hsp
  have I : Inv (cxOf CX P w K mg base N qual scope f cdv A outer s H E) [] (start N vs) H s1 :=
    inv_start S hr.hd e0 hl r x
  refine wpAny_mono (ht.run [] s1 (start N vs) H _ I go) (fun fl s' hs => ?_) fun e s' hs => hs
  cases fl with
  | ret u =>
    obtain ⟨v, σ', H', J, rv, q⟩ := hs
    exact ⟨v, H', J.os, J.bare, J.base, J.hok, rv, q⟩
  | next =>
    obtain ⟨σ', H', J, q⟩ := hs
    exact ⟨V.non, H', J.os, J.bare, J.base, J.hok, rfl, q⟩
  | brk => obtain ⟨_, _, _, q⟩ := hs; exact False.elim q
  | cont => obtain ⟨_, _, _, q⟩ := hs; exact False.elim q
end

section
variable {X : Cx} {CX : CXT} {k : Nat} {f : Addr} {fd : FuncData} {ps : List Str} {sp : Sp} {ds : List Value} {dvs : List V} {E : XK}

theorem run_fnG {pins : List (Addr × Obj)} {σ : L2.St} {H : Hp} {s : Shared} {Q : VK} {us ws : List Value} {vs zs : List V} {ks : List Str}
    {g : List Value → List Value → List Value} {gV : List V → List V → List V}
    (F : FnG X.prog X.w X.K X.mg X.base CX k f fd ps sp) (hq : Qt X.A) (hr : Room k X.A)
    (hb : KBinds X.K fd ps ks g gV) (hx : Passes CX X E) (I : Inv X pins σ H s) (r : Vals vs us) (rz : Vals zs ws)
    (h : sp (gV vs zs) H Q E) :
    wpAny (model X.prog X.w) X.A (call (.ref f) us (ks.zip ws)) (EP X pins σ Q) X.xe s := by
  have r2 := hb.rel r rz
  have hl : (g us ws).length = ps.length := by
    rw [← r2.length]
    exact F.len _ _ _ _ h
  have z := F.run X.A X.stack s H ⟨us, ks.zip ws⟩ (g us ws) (gV vs zs) Q E hq hr I.env0 (hb.to s us ws I.kIn hl) r2 h
  refine wpAny_call (codeAny_mono z ?_)
  intro o s' ho
  match o, ho with
  | .error e, ho => exact hx pins σ H s e s' I ho
  | .ok (.ret u), ho => exact I.after ho
  | .ok .next, ho => exact False.elim ho
  | .ok .brk, ho => exact False.elim ho
  | .ok .cont, ho => exact False.elim ho

/-- all by their names, or nothing -/
def gK {α : Type} : List α → List α → List α
  | [], ws => ws
  | _ :: _, _ => []

/-- a def of the module that may be called by its name, all parameters given -/
structure Cal (P : Program) (w : World) (K : PySem.W.Frag) (mg : Str → Option Value)
    (base : Heap) (CX : CXT) (k : Nat) (x : Str) (ps : List Str) (sp : Sp) : Prop where
  ex : ∃ (f : Addr) (fd : FuncData), FnG P w K mg base CX k f fd ps sp ∧ mg x = some (.ref f) ∧
    PySem.W.keepIn K (.ref f) = true ∧ Binds K fd ps [] ∧
    (ps ≠ [] → KBinds K fd ps ps gK gK)

variable {x : Str} {p pos : Pos} {e : Expr} {es : List Expr} {kws : List Keyword} {t tk : TA} {j : Nat}

theorem kb_of {fd : FuncData} (hb : Binds X.K fd ps []) : KBinds X.K fd ps [] (fun us _ => us) (fun vs _ => vs) :=
  ⟨fun s us ws hK hl => by
    have z := hb s us hK (by rw [List.append_nil]; exact hl)
    rw [List.append_nil] at z
    exact z, fun r _ => r⟩

theorem pe_c (c : Cal X.prog X.w X.K X.mg X.base CX k x ps sp) (hx : Passes CX X E) (hq : Qt X.A) (hr : Room j X.A) (hk : k ≤ j)
    (hg : Gl X x) (ha : PA X (e :: es) t) (hdb : (x == ("__debug__" : Str)) = false := by decide)
    (he : starEach (e :: es) X.env = (false, eval e X.env) :: starEach es X.env := by rfl)
    (hpl : (backTo pos (starEach es X.env)).any (·.1) = false := by rfl) :
    PE X (.Call (.Name x p) (e :: es) [] pos) (tCall sp [] E t) := by
  obtain ⟨f, fd, F, hm, hkp, hb, _⟩ := c.ex
  constructor
  intro pins s σ H Q I h
  refine wpAny_Call_Name_kw (ld_glob I hg hm ?_ hdb)
  refine PySem.W.callWith_K (h₀ := X.base) I.ok.mod.kin hkp ?_ he hpl
  refine thn (ha.run pos pins s σ H _ I h) ?_
  rintro us s1 ⟨vs, H1, I1, r, q⟩
  rw [List.append_nil] at q
  exact ⟨I1.kIn, run_fnG (ks := []) (ws := []) F hq (hr.mono hk) (kb_of hb) hx I1 r .nil q⟩

theorem pe_c0 (c : Cal X.prog X.w X.K X.mg X.base CX k x ps sp) (hx : Passes CX X E) (hq : Qt X.A) (hr : Room j X.A) (hk : k ≤ j)
    (hg : Gl X x) (hdb : (x == ("__debug__" : Str)) = false := by decide) :
    PE X (.Call (.Name x p) [] [] pos) (tCall sp [] E tNil) := by
  obtain ⟨f, fd, F, hm, hkp, hb, _⟩ := c.ex
  constructor
  intro pins s σ H Q I h
  refine wpAny_Call_Name_kw (ld_glob I hg hm ?_ hdb)
  exact PySem.W.callWith_K0 I.kIn hkp (run_fnG (ks := []) (us := []) (ws := []) F hq (hr.mono hk) (kb_of hb) hx I .nil .nil h)

/-- all by their names, in the parameters' order -/
theorem pe_cK (c : Cal X.prog X.w X.K X.mg X.base CX k x ps sp) (hx : Passes CX X E) (hq : Qt X.A) (hr : Room j X.A) (hk : k ≤ j)
    (hg : Gl X x) (h0 : ps ≠ []) (hkw : PK X kws tk)
    (hall : (backToKw pos (keywordEach kws X.env)).all (·.1.isSome) = true := by rfl)
    (hks : (backToKw pos (keywordEach kws X.env)).filterMap (·.1) = ps := by rfl)
    (hdb : (x == ("__debug__" : Str)) = false := by decide)
    (hpl : ((backTo pos (starEach [] X.env)).any (·.1) || (backToKw pos (keywordEach kws X.env)).any (·.1.isNone)) = false := by rfl) :
    PE X (.Call (.Name x p) [] kws pos) (tCall sp [] E tk) := by
  obtain ⟨f, fd, F, hm, hkp, _, hb⟩ := c.ex
  constructor
  intro pins s σ H Q I h
  refine wpAny_Call_Name_kw (ld_glob I hg hm ?_ hdb)
  refine PySem.W.callWith_KW0 (h₀ := X.base) I.ok.mod.kin hkp hall ?_ hpl
  refine thn (hkw.run pos pins s σ H _ I h) ?_
  rintro ws s1 ⟨zs, H1, I1, r, q⟩
  rw [List.append_nil] at q
  refine ⟨I1.kIn, ?_⟩
  rw [hks]
  exact run_fnG (us := []) (vs := []) F hq (hr.mono hk) (hb h0) hx I1 .nil r q
end

section
variable {P : Program} {w : World} {K : PySem.W.Frag} {mg : Str → Option Value} {base : Heap}
theorem kb_all {fd : FuncData} {ps : List Str} (h0 : ps ≠ [])
    (h : ∀ ws : List Value, ws.length = ps.length → bindArgs fd ⟨[], ps.zip ws⟩ = pure (ps.zip ws)) : KBinds K fd ps ps gK gK where
  to := fun s us ws _ hl => by
    cases us with
    | nil => exact .of_eq (h ws hl)
    | cons u us =>
      exfalso
      cases ps with
      | nil => exact h0 rfl
      | cons y ps => cases hl
  rel := fun {vs us zs ws} r rz => by
    cases r with
    | nil => exact rz
    | cons _ _ => exact .nil
/-- a def by its body; nothing leaves it by a raise -/
theorem fng_of {x0 x : Str} {st : Stmt} {f : Addr} {fd : FuncData} {N ps : List Str} {k : Nat} {sp : Sp}
    (F : L2.Fun K x0 x st f fd)
    (S : FnScope N ps (defScope st)) (len : ∀ vs H Q E, sp vs H Q E → vs.length = ps.length)
    (hbody : ∀ (cdv : Value) (A : Around) (outer : List Env) (s : Shared) (H : Hp) (vs : List V) (Q : VK) (E : XK),
      Qt (A.deeper (envOfC x (defScope st) s.heap.objs.size f cdv)) →
      Room k (A.deeper (envOfC x (defScope st) s.heap.objs.size f cdv)) → sp vs H Q E →
      ∃ t, PSs (cxOf L2.CX0 P w K mg base N x (defScope st) f cdv A outer s H E).nox (defBody st) t ∧
        t { nx := fun _ H' => Q .non H', rt := Q } (start N vs) H) :
    FnG P w K mg base L2.CX0 (k + 1) f fd ps sp := by
  obtain ⟨oc, od, kV, doc, pm, an, cdv, ct, osl, rfl, lk, hcd⟩ := F.ex
  refine fn_ofG lk hcd S len ?_
  intro A outer s H vs Q E hq hr hsp
  obtain ⟨t, h, q⟩ := hbody cdv A outer s H vs Q E hq hr hsp
  exact ⟨t, h.nox, q⟩
theorem cal_of {x : Str} {st : Stmt} {f : Addr} {fd : FuncData} {N ps : List Str} {k : Nat} {sp : Sp}
    (F : L2.Fun K x x st f fd) (hm : mg x = some (.ref f)) (hb : Binds K fd ps []) (hkb : ps ≠ [] → KBinds K fd ps ps gK gK)
    (S : FnScope N ps (defScope st)) (len : ∀ vs H Q E, sp vs H Q E → vs.length = ps.length)
    (hbody : ∀ (cdv : Value) (A : Around) (outer : List Env) (s : Shared) (H : Hp) (vs : List V) (Q : VK) (E : XK),
      Qt (A.deeper (envOfC x (defScope st) s.heap.objs.size f cdv)) →
      Room k (A.deeper (envOfC x (defScope st) s.heap.objs.size f cdv)) → sp vs H Q E →
      ∃ t, PSs (cxOf L2.CX0 P w K mg base N x (defScope st) f cdv A outer s H E).nox (defBody st) t ∧
        t { nx := fun _ H' => Q .non H', rt := Q } (start N vs) H) :
    Cal P w K mg base L2.CX0 (k + 1) x ps sp :=
  ⟨f, fd, fng_of F S len hbody, hm, F.kp, hb, hkb⟩

/-- the law's call, from the world outside -/
theorem law_callG {mb : Str → Option Value} {CX : CXT} {k : Nat} {fa a : Addr} {fd : FuncData} {x : Str} {sp : Sp}
    {s₁ : Shared} {vs : List Value} {ns : List Int}
    (KX : K.In s₁.heap) (hns : s₁.heap.Ns mainGlobals mg) (hb : s₁.heap.Ns builtinsNs mb)
    (hbb : ∀ x : Str, x ≠ "__name__" → mb x = bootBuiltins x) (hlim : s₁.heap.NoLimit) (hg : s₁.gens = #[])
    (ha : s₁.heap.get? a = some { cls := .type "list", data := .seq vs.toArray }) (hi : IntsAre vs ns)
    (hl : ns.length ≤ sizeLine) (hr : Room k callerA)
    (F : ∀ base : Heap, K.In base → base.Ns mainGlobals mg → FnG P w K mg base CX k fa fd [x] sp)
    (hbind : ∀ (s : Shared) (u : Value), BindsTo s fd ⟨[u], []⟩ [(x, u)])
    (hsp : ∀ H : Hp, Only H → SqL K H a (ns.map V.int) → sp [.ref a] H (fun v _ => v = .bl true) fun _ _ _ => False)
    (hCX : ∀ H e s', CX [] H s₁ (fun _ _ _ => False) e s' → False) :
    codeAny (model P w) callerA (.call (.ref fa) ⟨[.ref a], []⟩)
      (fun r s' => r = .ok (.ret (.bool true)) ∧ OldK s₁.heap s'.heap ∧ s'.os = s₁.os ∧ AllBare s'.gens) s₁ := by
  have rv := vals_ints hi
  have lenV := hi.length
  -- over any abstract heap that tracks the script at most
  have inner : ∀ H : Hp, Only H → SqL K H a (ns.map V.int) → HOk P w H s₁.heap → (∀ b, H b ≠ none → b = a) →
      (H a ≠ none → K.lookup a = none) →
      codeAny (model P w) callerA (.call (.ref fa) ⟨[.ref a], []⟩)
        (fun r s' => r = .ok (.ret (.bool true)) ∧ OldK s₁.heap s'.heap ∧ s'.os = s₁.os ∧ AllBare s'.gens) s₁ := by
    intro H hO hS hok hA hK
    have one : ∀ {b : Addr} {u : HO}, H b = some u → b = a := fun {b u} z => hA b (by rw [z]; simp)
    have noD : ∀ {b : Addr} {o : Obj} {es : Array DictEntry} {ep : Nat},
        s₁.heap.get? b = some o → o.data = .dict es ep → H b = none := by
      intro b o es ep e d
      cases q : H b with
      | none => rfl
      | some u =>
        obtain rfl := one q
        rw [ha] at e
        cases e
        have d' : Data.seq vs.toArray _ = Data.dict es ep := d
        cases d'
    have nsK : ∀ {b : Addr} {m : Str → Option Value}, s₁.heap.Ns b m → (hidT s₁.heap H).Ns b m := by
      rintro b m ⟨o, es, ep, e, d, r⟩
      exact ⟨o, es, ep, hidT_get e (noD e d), d, r⟩
    have hKb : K.In (hidT s₁.heap H) := by
      intro b o e
      refine hidT_get (KX b o e) ?_
      cases q : H b with
      | none => rfl
      | some u =>
        obtain rfl := one q
        rw [hK (by rw [q]; simp)] at e
        cases e
    obtain ⟨mc, l1, l2⟩ := hlim
    have hM : Mod K mg (hidT s₁.heap H) := ⟨hKb, nsK hns, ⟨mb, nsK hb, hbb⟩, mc, nsK l1, l2⟩
    have no0 : ∀ b : Addr, b ∈ ([] : List Addr) → False := fun b z => by simp at z
    have e0 : Env0 P w K mg (hidT s₁.heap H) callerA [] s₁ H :=
      ⟨rfl, hM, fun b o e => of_hidT e, Nat.le_of_eq (hidT_size _ _), trivial, fun b z => (no0 b z).elim, hok, .of_eq hg⟩
    have go := (F _ hKb (nsK hns)).run callerA [] s₁ H ⟨[.ref a], []⟩ [.ref a] [.ref a] _ _ rfl hr e0
      (hbind s₁ (.ref a)) (.cons rfl .nil) (hsp H hO hS)
    refine codeAny_mono go ?_
    intro r s' h
    match r, h with
    | .error e, h => exact (hCX H e s' h).elim
    | .ok .next, h => exact False.elim h
    | .ok .brk, h => exact False.elim h
    | .ok .cont, h => exact False.elim h
    | .ok (.ret u), h =>
      obtain ⟨v, H', os, bare, un, hok', r', q⟩ := h
      have q' : v = .bl true := q
      subst q'
      obtain rfl : u = Value.bool true := r'
      refine ⟨rfl, OldK.of_keep ?_, os, bare⟩
      intro b o e
      cases q : H b with
      | none => exact un.keep b o e q (no0 b) (by simp)
      | some u =>
        rcases hO b with z | ⟨ob, xs, z⟩
        · rw [q] at z
          cases z
        · obtain ⟨e1, _⟩ := hok b _ z
          obtain ⟨e2, _⟩ := hok' b _ (un.frzs b ob _ z)
          rw [e] at e1
          cases e1
          exact e2
  cases hk : K.lookup a with
  | some o =>
    have e := KX a o hk
    rw [ha] at e
    cases e
    have sz : vs.toArray.size ≤ sizeLine := by
      rw [List.size_toArray, lenV]
      exact hl
    refine inner (fun _ => none) (fun _ => .inl rfl) (.inr ⟨_, vs.toArray, _, hk, rfl, rfl, rfl, sz, by simpa using rv⟩) ?_ ?_ ?_
    · intro b u z
      have z' : (none : Option HO) = some u := z
      cases z'
    · exact fun b z => absurd rfl z
    · exact fun z => absurd rfl z
  | none =>
    let u : HO := .frz { cls := .type "list", data := .seq vs.toArray } (.lst (ns.map V.int))
    have yes : ∀ {b : Addr}, b = a → (if b = a then some u else none) = some u := fun h => if_pos h
    have no : ∀ {b : Addr}, ¬ b = a → (if b = a then some u else none) = none := fun h => if_neg h
    refine inner (fun b => if b = a then some u else none) ?_ (.inl (.inr ⟨_, yes rfl⟩)) ?_ ?_ fun _ => hk
    · intro b
      by_cases hb : b = a
      · exact .inr ⟨_, _, yes hb⟩
      · exact .inl (no hb)
    · intro b v z
      by_cases hb : b = a
      · have z' := (yes hb).symm.trans z
        cases z'
        subst hb
        refine ⟨ha, ?_, vs, _, rv, ha⟩
        rw [List.length_map]
        exact hl
      · have z' := (no hb).symm.trans z
        cases z'
    · intro b z
      by_cases hb : b = a
      · exact hb
      · exact absurd (no hb) z
end

/-- the goal of the head, from the law's promise -/
theorem walk_ofG {l : PySem.W.OpenLaw} {n k : Nat} {q : Program} {loose : List Str} {XP : (Str → Option Value) → Heap → Prop}
    {YP : World → Heap → Prop} {d : DefRec} {K : Params → PySem.W.Frag} {CX : World → CXT} {sp : World → Sp} {x : Str}
    (hn : l.most = some n) (hn2 : n ≤ sizeLine) (hdf : d.params.defaults = []) (hr : Room k callerA)
    (hY : ∀ (w : World) (h : Heap), YP w h → (K w.params).In h)
    (F : ∀ (w : World) (mg : Str → Option Value) (fa : Addr) (h : Heap), (K w.params).In h → h.Ns mainGlobals mg →
      mg d.name = some (.ref fa) →
      ∃ fd : FuncData, (∀ (s : Shared) (u : Value), BindsTo s fd ⟨[u], []⟩ [(x, u)]) ∧
        ∀ base : Heap, (K w.params).In base → base.Ns mainGlobals mg → FnG l.prog w (K w.params) mg base (CX w) k fa fd [x] (sp w))
    (hsp : ∀ (w : World) (H : Hp) (a : Addr) (ns : List Int), ns.length ≤ n →
      (∀ z ∈ ns, Builtin.Int.intBits z ≤ 1048576) → Only H → SqL (K w.params) H a (ns.map V.int) →
      sp w [.ref a] H (fun v _ => v = .bl true) fun _ _ _ => False)
    (hCX : ∀ (w : World) (H : Hp) (s : Shared) (e : Value) (s' : Shared), CX w [] H s (fun _ _ _ => False) e s' → False) :
    PySem.W.WalkO q loose XP YP l.row.toRowW d [] (fun f vs => PySem.call f vs) := by
  refine Att.attach_callB hn hdf ?_
  intro w s₀ s₁ mg mb fa o pm cd doc a vs ns G Y ho hd hcd hmg hobj hints hlen hbits hg
  have KX := hY w _ Y
  obtain ⟨fd, hb, hF⟩ := F w mg fa _ KX G.T.g hmg
  exact law_callG KX G.T.g G.T.b G.T.builtins G.T.nolimit hg hobj hints (Nat.le_trans hlen hn2) hr hF hb
    (fun H hO hS => hsp w H a ns hlen hbits hO hS) fun H e s' => hCX w H s₁ e s'
end Kit

namespace Kit
open PySem PySem.Spec PyProof.Rows L2
section
variable {X : Cx}
/-- * of whole numbers, as great as the machine lets -/
theorem op_mulB : OpR X (binaryOp .Mult) (rI IntMulOk fun i j => .int (i * j)) :=
  opI fun i j t u s Q E hc q => mul_int q hc

/-- a text times a number -/
def rRepS : R2 := fun x y H Q => ∃ (z : Str) (k : Int), x = .str z ∧ y = .int k ∧ z.length ≤ 1000 ∧ 0 ≤ k ∧ k ≤ 1000 ∧ Q (.str (Txt.mul z k)) H
theorem op_repS : OpR X (binaryOp .Mult) rRepS := by
  intro pins s σ H x y v u Q I rx ry h
  obtain ⟨z, k, rfl, rfl, hz, h0, hk, q⟩ := h
  obtain ⟨t, rfl⟩ := rx
  obtain ⟨t', rfl⟩ := ry
  exact SB.mul (mulOk_of 1000 1000 hz hk (by omega) (by decide) (by decide)) fun t' k => ⟨.str _, H, I.tok _, ⟨_, rfl⟩, q⟩

/-- repr of lists and tuples of data -/
def rReprD (K : PySem.W.Frag) : List V → Hp → VK → Prop := fun xs H Q => ∃ (a : Addr) (d : PyData), xs = [.ref a] ∧ Dp K H (.ref a) d ∧
  d.showable = true ∧ d.hasDict = false ∧ d.depth ≤ 150 ∧ d.shown.length ≤ sizeLine ∧ Q (.str d.shown) H
theorem call_reprD (hq : Qt X.A) (hu : X.A.units + 200 < cLine) : CallR X (.builtin "repr") (rReprD X.K) := by
  intro pins s σ H xs us Q I r h
  obtain ⟨a, d, rfl, hd, hs, hn, hp, hz, q⟩ := h
  obtain ⟨u, rfl, ru⟩ := vals1 r
  obtain ⟨as, rd⟩ := Dp.reads I d _ _ hd ru
  obtain rfl : u = Value.ref a := ru
  refine repr_of_reads' rd hs (PyData.noDict_hsm hn) hq (by omega) (fun _ _ e => e) (fun h' u tk hk => ?_) hz
  exact ⟨.str _, H, I.kept hk, ⟨_, rfl⟩, q⟩

/-- a list of anything beside one without items -/
def rEqNil (K : PySem.W.Frag) : R2 := fun x y H Q => ∃ (a b : Addr) (xs : List V), x = .ref a ∧ y = .ref b ∧ SqL K H a xs ∧ SqL K H b [] ∧ Q (.bl xs.isEmpty) H
def rNeNil (K : PySem.W.Frag) : R2 := fun x y H Q => ∃ (a b : Addr) (xs : List V), x = .ref a ∧ y = .ref b ∧ SqL K H a xs ∧ SqL K H b [] ∧ Q (.bl (!xs.isEmpty)) H
theorem op_eqNil (hu : X.A.units + 200 < cLine) : OpR X (compareOp .Eq) (rEqNil X.K) := by
  intro pins s σ H x y v u Q I rx ry h
  obtain ⟨a, b, xs, rfl, rfl, ha, hb, q⟩ := h
  cases rx
  cases ry
  obtain ⟨its, r1, p1, _⟩ := I.list ha
  obtain ⟨its2, r2, p2, _⟩ := I.list hb
  cases r2
  cases xs with
  | nil =>
    cases r1
    exact SeqAt.eq_listAt (e := fun _ => true) p1.isList p2.isList rfl (by omega) (fun j h1 _ => absurd h1 (Nat.not_lt_zero j)) ⟨.bl true, H, I, rfl, q⟩
  | cons z zs =>
    cases r1
    exact SeqAt.eq_list_lengthsAt p1.isList p2.isList (by simp) (by omega) ⟨.bl false, H, I, rfl, q⟩
theorem op_neNil (hu : X.A.units + 200 < cLine) : OpR X (compareOp .NotEq) (rNeNil X.K) := by
  intro pins s σ H x y v u Q I rx ry h
  obtain ⟨a, b, xs, rfl, rfl, ha, hb, q⟩ := h
  cases rx
  cases ry
  obtain ⟨its, r1, p1, _⟩ := I.list ha
  obtain ⟨its2, r2, p2, _⟩ := I.list hb
  cases r2
  cases xs with
  | nil =>
    cases r1
    exact SeqAt.RcNeAt.lists (e := fun _ => true) p1.isList p2.isList rfl (by omega) (fun j h1 _ => absurd h1 (Nat.not_lt_zero j)) _ _ _ _ ⟨.bl false, H, I, rfl, q⟩
  | cons z zs =>
    cases r1
    exact SeqAt.RcNeAt.lists_lengths p1.isList p2.isList (by simp) (by omega) _ _ _ _ ⟨.bl true, H, I, rfl, q⟩

/-- a text from behind: what of it is told is its length -/
def tRevS (te : TE) : TE := fun σ H Q => te σ H fun x H1 => ∃ z : Str, x = .str z ∧ z.length ≤ sizeLine ∧ ∀ y : Str, y.length ≤ z.length → Q (.str y) H1
theorem pe_revS {e : Expr} {te : TE} {k : Nat} {p1 p2 p3 pos : Pos} (he : PE X e te)
    (hlt : ∀ (z : Str) (t : Tok) r, letTemporaryGo e (.str z t) r = pure () := by intro _ _ _; with_unfolding_all rfl) :
    PE X (.Subscript e (.Slice none none (some (.UnaryOp .USub (.Constant (.int 1) k p1) p2)) p3) pos) (tRevS te) := by
  constructor
  intro pins s σ H Q I h
  refine Subscript_ (thn (he.run pins s σ H _ I h) ?_)
  rintro v s1 ⟨x, H1, I1, r1, z, rfl, hz, q⟩
  obtain ⟨t, rfl⟩ := r1
  have hst : PO X (some (.UnaryOp .USub (.Constant (.int 1) k p1) p2)) (tPart (tUn (rU fun i => .int (-i)) (tC (.int 1)))) :=
    po_some (pe_un un_neg pe_int)
  refine wpAny_Slice (thn (po_none.run pins s1 σ H1 (fun o H2 => o = none ∧ H2 = H1) I1 ⟨rfl, rfl⟩) ?_)
  rintro vl s2 ⟨l, H2, I2, pl, rfl, rfl⟩
  refine thn (po_none.run pins s2 σ H2 (fun o H3 => o = none ∧ H3 = H2) I2 ⟨rfl, rfl⟩) ?_
  rintro vu s3 ⟨u, H3, I3, pu, rfl, rfl⟩
  refine thn (hst.run pins s3 σ H3 (fun o H4 => o = some (-1) ∧ H4 = H3) I3 ⟨1, rfl, -1, rfl, rfl, rfl⟩) ?_
  rintro vs s4 ⟨o, H4, I4, ps, rfl, rfl⟩
  cases pl
  cases pu
  cases ps with
  | int _ uk =>
    refine tail_of_ItemOn (ops := [.ref s4.heap.objs.size, .str z t]) ⟨"str", _, F.slot_str_getitem.lookup, typeIs_str _ _ _,
      wpAny_getItem_str_slice (l := none) (u := none) (st := some (-1, uk)) ⟨_, Heap.get?_push_size _ rfl, rfl, rfl⟩ rfl
        (post_val_or_str ⟨?_, ?_⟩)⟩ (by with_unfolding_all rfl) (hlt z t)
    · exact Nat.le_trans (Txt.sliceBy_le z none none (-1, uk) (by show (-1 : Int) ≠ 0; decide)) hz
    · intro t' c
      exact ⟨.str _, H4, I4.kept (fun b u e => Heap.get?_push_of_some _ e), ⟨_, rfl⟩, q _ (Txt.sliceBy_le z none none (-1, uk) (by show (-1 : Int) ≠ 0; decide))⟩

/-- the signs of a text, a text each -/
def sgV (z : Str) : List V := z.cps.toList.map fun c => .str ⟨#[c]⟩
theorem sgV_len (z : Str) : (sgV z).length = z.length := by
  unfold sgV
  rw [List.length_map, Array.length_toList]
  rfl
theorem vals_signs : ∀ (cs : List Nat) (us : List Value), us.length = cs.length → (∀ (j : Nat) (v : Value), us[j]? = some v → ∃ c t, cs[j]? = some c ∧ v = Value.str ⟨#[c]⟩ t) →
    Vals (cs.map fun c => V.str ⟨#[c]⟩) us
  | [], [], _, _ => .nil
  | [], _ :: _, h, _ => by cases h
  | _ :: _, [], h, _ => by cases h
  | c :: cs, u :: us, hl, h => by
    obtain ⟨c', t, e1, e2⟩ := h 0 u rfl
    have e1' : c = c' := Option.some.inj e1
    subst e1'
    exact .cons ⟨t, e2⟩ (vals_signs cs us (by simpa using hl) fun j v e => h (j + 1) v (by simpa using e))
/-- list(a text) -/
theorem call_listS (hc : X.calm = true) : CallR X (.type "list") (fun xs H Q => ∃ z : Str, xs = [.str z] ∧ z.length ≤ sizeLine ∧ ∀ l, H l = none → Q (.ref l) (upd H l (.lst (sgV z)))) := by
  intro pins s σ H xs us Q I r h
  obtain ⟨z, rfl, hz, q⟩ := h
  obtain ⟨u, rfl, t, rfl⟩ := vals1 r
  refine PySem.call_list_str (I.ok.hd hc) z t (fun h' tk acc c' kp e ia => ?_) hz
  have hv : Vals (sgV z) acc.toList := vals_signs _ _ (by rw [Array.length_toList, Array.length_toList]; exact ia.1) fun j v e => by
    obtain ⟨c, u, h1, h2⟩ := ia.2 j v (by rw [← Array.getElem?_toList]; exact e)
    exact ⟨c, u, by rw [Array.getElem?_toList]; exact h1, h2⟩
  exact ⟨.ref s.heap.objs.size, _, I.laid (t' := tk) kp (Nat.le_refl _)
    (show ObjOk X.prog X.w _ h' _ (.lst (sgV z)) from ⟨by rw [sgV_len]; exact hz, acc.toList, c', hv, by rw [Array.toArray_toList]; exact e⟩), rfl, q _ (I.hok.fresh (Nat.le_refl _))⟩
end

/-! ### a comprehension over the signs of a text -/
theorem lc_str {x : Str} {g : TG} {tt : TT} {te : TE} {vs : List Nat} {σ : L2.St} {H1 : Hp} {D : Addr} {Qd : Hp → Prop} (Pv : Nat → Hp → Prop)
    (h0 : Pv 0 (upd H1 D (.lst [])))
    (hs : ∀ i c H, x.cps.toList[i]? = some c → Pv i H → g (.str ⟨#[c]⟩) (wipe σ vs) H fun σ2 H2 => wipe σ2 vs = wipe σ vs ∧ tt σ2 H2 fun b H3 =>
      if b = true then te σ2 H3 fun y H4 => ∃ acc, H4 D = some (.lst acc) ∧ acc.length < sizeLine ∧ Pv (i + 1) (upd H4 D (.lst (acc ++ [y])))
      else Pv (i + 1) H3)
    (hd : ∀ H, Pv x.cps.size H → Qd H) :
    ∃ W : Nat → Nat → Hp → Prop, (∃ m, W 0 m (upd H1 D (.lst []))) ∧ ∀ i m H, W i m H →
      ((Its x).stop i H ∧ Qd H) ∨ ((Its x).go i H ∧ ∃ Nx : Hp → Prop, (∀ H', Nx H' → ∃ m', m' < m ∧ W (i + 1) m' H') ∧
        ∀ v H', (Its x).yld i H v H' → g v (wipe σ vs) H' fun σ2 H2 => wipe σ2 vs = wipe σ vs ∧ tt σ2 H2 fun b H3 =>
          if b = true then te σ2 H3 fun y H4 => ∃ acc, H4 D = some (.lst acc) ∧ acc.length < sizeLine ∧ Nx (upd H4 D (.lst (acc ++ [y]))) else Nx H3) := by
  refine ⟨fun i m H => m = x.cps.size - i ∧ i ≤ x.cps.size ∧ Pv i H, ⟨x.cps.size, rfl, Nat.zero_le _, h0⟩, ?_⟩
  rintro i m H ⟨rfl, hi, p⟩
  by_cases hlt : i < x.cps.size
  · refine .inr ⟨hlt, Pv (i + 1), fun H' q => ⟨x.cps.size - (i + 1), by omega, rfl, by omega, q⟩, ?_⟩
    rintro v H' ⟨rfl, c, e, rfl⟩
    exact hs i c H' (by rw [Array.getElem?_toList]; exact e) p
  · have e : i = x.cps.size := by omega
    subst e
    exact .inl ⟨Nat.le_refl _, hd H p⟩

theorem sgV_get {z : Str} {j : Nat} {x : V} (h : (sgV z)[j]? = some x) : ∃ k, x = .str ⟨#[k]⟩ ∧ z.cps.toList[j]? = some k := by
  unfold sgV at h
  rw [List.getElem?_map] at h
  cases q : z.cps.toList[j]? with
  | none =>
    rw [q] at h
    cases h
  | some k =>
    rw [q] at h
    exact ⟨k, (Option.some.inj h).symm, rfl⟩
/-! ### what may be drawn from: a list, a tuple, a text -/
inductive Sq (K : PySem.W.Frag) (H : Hp) : V → List V → Prop
  | lst {a : Addr} {xs : List V} (h : SqL K H a xs) : Sq K H (.ref a) xs
  | tup {a : Addr} {xs : List V} (h : SqT K H a xs) : Sq K H (.ref a) xs
  | str {z : Str} (h : z.length ≤ sizeLine) : Sq K H (.str z) (sgV z)
theorem atI_lt {α : Type} {xs : List α} {i : Int} {n : Nat} (h0 : 0 ≤ i) (h1 : i < (n : Int)) (hn : n = xs.length) : ∃ v, atI xs i = some v ∧ xs[i.toNat]? = some v := by
  subst hn
  obtain ⟨k, rfl⟩ := Int.eq_ofNat_of_zero_le h0
  have h2 : k < xs.length := by omega
  exact ⟨xs[k], atI_nat (List.getElem?_eq_getElem h2), List.getElem?_eq_getElem h2⟩

/-- a def of the module, as it stands behind the top -/
structure DefAt (K : PySem.W.Frag) (mg : Str → Option Value) (x : Str) (ps : List Str) (st : Stmt) (f : Addr) (fd : FuncData) : Prop where
  fn : L2.Fun K x x st f fd
  mgf : mg x = some (.ref f)
  bs : L2.Binds K fd ps []
  kbs : ps ≠ [] → KBinds K fd ps ps gK gK


theorem def_mk {K : PySem.W.Frag} {mg : Str → Option Value} {h : Heap} {x : Str} {ps : List Str} {st : Stmt} {f : Addr} {oc : Value} {od an : Option Addr} {osl : Array (Option Value)}
    {kV doc pm cdv ct : Value} (X : K.In h) (G : h.Ns mainGlobals mg) (a : PySem.W.nsIn K mainGlobals x = some (some (.ref f)))
    (l : K.lookup f = some ⟨oc, od, .func (PySem.W.fnOf x x (defArgs st) (defBody st) (defScope st) .none kV doc pm an cdv ct), osl⟩)
    (c : PySem.W.codeIn K cdv x = true) (k : PySem.W.keepIn K (.ref f) = true)
    (hb : ∀ (kV doc pm : Value) (an : Option Addr) (cdv ct : Value) (us : List Value), us.length = ps.length →
      bindArgs (PySem.W.fnOf x x (defArgs st) (defBody st) (defScope st) .none kV doc pm an cdv ct) ⟨us, []⟩ = pure (ps.zip us))
    (hk : ps ≠ [] → ∀ (kV doc pm : Value) (an : Option Addr) (cdv ct : Value) (ws : List Value), ws.length = ps.length →
      bindArgs (PySem.W.fnOf x x (defArgs st) (defBody st) (defScope st) .none kV doc pm an cdv ct) ⟨[], ps.zip ws⟩ = pure (ps.zip ws)) :
    DefAt K mg x ps st f (PySem.W.fnOf x x (defArgs st) (defBody st) (defScope st) .none kV doc pm an cdv ct) := by
  have F := fun_mk (st := st) l c k
  exact ⟨F, PySem.W.mg_of X G a, F.binds hb, fun h0 => kb_all h0 fun ws hl => hk h0 kV doc pm an cdv ct ws hl⟩

theorem room200 {A : Around} {k : Nat} (hr : Room k A) : A.units + 200 < cLine := by
  have h := hr.un
  omega

/-! ### heaps -/
theorem same_new {H : Hp} {p : Addr} {o : HO} (h : H p = none) : Same H (upd H p o) := fun b x e => by
  rw [upd_ne (ne_of_none e h)]
  exact e
theorem same_mut {H H' : Hp} {p : Addr} {o : HO} (s : Same H H') (h : H p = none) : Same H (upd H' p o) := fun b x e => by
  rw [upd_ne (ne_of_none e h)]
  exact s b x e
/-- all but two is as it was -/
def But (d c : Addr) (H H' : Hp) : Prop := ∀ b o, b ≠ d → b ≠ c → H b = some o → H' b = some o
theorem But.refl (d c : Addr) (H : Hp) : But d c H H := fun _ _ _ _ e => e
theorem But.trans {d c : Addr} {H H1 H2 : Hp} (a : But d c H H1) (b : But d c H1 H2) : But d c H H2 := fun x o h1 h2 e => b x o h1 h2 (a x o h1 h2 e)
theorem But.same {d c : Addr} {H H1 H2 : Hp} (a : But d c H H1) (b : Same H1 H2) : But d c H H2 := fun x o h1 h2 e => b x o (a x o h1 h2 e)
theorem But.of {d c : Addr} {H H1 : Hp} (b : Same H H1) : But d c H H1 := fun x o _ _ e => b x o e
theorem But.mut {d c p : Addr} {o : HO} {H H1 : Hp} (a : But d c H H1) (h : H p = none) : But d c H (upd H1 p o) := fun x u h1 h2 e => by
  rw [upd_ne (ne_of_none e h)]
  exact a x u h1 h2 e
theorem But.sql {K : PySem.W.Frag} {d c a : Addr} {H H1 : Hp} {xs : List V} (h : But d c H H1) (h1 : a ≠ d) (h2 : a ≠ c) (e : SqL K H a xs) : SqL K H1 a xs := by
  rcases e with (e | ⟨o, e⟩) | e
  · exact .inl (.inl (h _ _ h1 h2 e))
  · exact .inl (.inr ⟨o, h _ _ h1 h2 e⟩)
  · exact .inr e
theorem But.sqt {K : PySem.W.Frag} {d c a : Addr} {H H1 : Hp} {xs : List V} (h : But d c H H1) (h1 : a ≠ d) (h2 : a ≠ c) (e : SqT K H a xs) : SqT K H1 a xs := by
  rcases e with (e | ⟨o, e⟩) | e
  · exact .inl (.inl (h _ _ h1 h2 e))
  · exact .inl (.inr ⟨o, h _ _ h1 h2 e⟩)
  · exact .inr e
theorem But.sq {K : PySem.W.Frag} {d c : Addr} {H H1 : Hp} {v : V} {xs : List V} (h : But d c H H1) (h1 : v ≠ .ref d) (h2 : v ≠ .ref c) (e : Sq K H v xs) : Sq K H1 v xs := by
  cases e with
  | lst e => exact .lst (h.sql (fun z => h1 (by rw [z])) (fun z => h2 (by rw [z])) e)
  | tup e => exact .tup (h.sqt (fun z => h1 (by rw [z])) (fun z => h2 (by rw [z])) e)
  | str e => exact .str e
theorem Sq.lenV {K : PySem.W.Frag} {H : Hp} {v : V} {xs : List V} (h : Sq K H v xs) : LenV K v H xs.length := by
  cases h with
  | lst e => exact .inl ⟨_, e, rfl⟩
  | tup e => exact .inr ⟨_, e, rfl⟩
  | str e => exact ⟨e, sgV_len _⟩
/-- an item of it -/
theorem Sq.item {K : PySem.W.Frag} {H : Hp} {v y : V} {xs : List V} {i : Int} {Q : VK} (h : Sq K H v xs) (e : atI xs i = some y) (q : Q y H) : rIx K v (.int i) H Q := by
  cases h with
  | lst h => exact .inl ⟨_, _, _, _, rfl, rfl, h, e, q⟩
  | tup h => exact .inr (.inl ⟨_, _, _, _, rfl, rfl, h, e, q⟩)
  | @str z hz =>
    have e2 : (ixN (sgV z).length i).bind (fun j => (sgV z)[j]?) = some y := e
    have e3 : ∃ c, atI z.cps.toList i = some c ∧ y = .str ⟨#[c]⟩ := by
      unfold sgV at e2
      rw [List.length_map] at e2
      show ∃ c, (ixN z.cps.toList.length i).bind (fun j => z.cps.toList[j]?) = some c ∧ _
      cases q : ixN z.cps.toList.length i with
      | none =>
        rw [q] at e2
        cases e2
      | some j =>
        rw [q] at e2
        have e4 : (z.cps.toList.map fun c => V.str ⟨#[c]⟩)[j]? = some y := e2
        rw [List.getElem?_map] at e4
        show ∃ c, z.cps.toList[j]? = some c ∧ _
        cases q2 : z.cps.toList[j]? with
        | none =>
          rw [q2] at e4
          cases e4
        | some c =>
          rw [q2] at e4
          exact ⟨c, rfl, (Option.some.inj e4).symm⟩
    obtain ⟨c, h1, rfl⟩ := e3
    exact .inr (.inr ⟨z, i, c, rfl, rfl, hz, h1, q⟩)
end Kit

/-! methods over promises of the quiet kind; data made of tuples -/
namespace Kit
open PySem PySem.Spec PyProof.Rows L2
section
variable {X : Cx} {CX : CXT} {k j : Nat} {C : Addr} {m : Str} {ps : List Str} {sp : Sp} {E : XK} {o e : Expr} {es : List Expr} {ta : TE} {t : TA} {pos apos : Pos}
/-- a method of the class at C -/
structure Met (P : Program) (w : World) (K : PySem.W.Frag) (mg : Str → Option Value) (base : Heap) (CX : CXT) (k : Nat) (C : Addr) (m : Str) (ps : List Str) (sp : Sp) : Prop where
  cl : Cls K C
  ex : ∃ (f : Addr) (fd : FuncData), Meth K C m f ∧ FnG P w K mg base CX k f fd ps sp ∧ Binds K fd ps []
theorem pe_m {pl : Sem Bool} (c : Met X.prog X.w X.K X.mg X.base CX k C m ps sp) (hx : Passes CX X E) (hq : Qt X.A) (hr : Room j X.A) (hk : k ≤ j)
    (he : PE X o ta) (ha : PA X (e :: es) t)
    (hst : starEach (e :: es) X.env = (false, eval e X.env) :: starEach es X.env := by rfl)
    (hpl : (backTo pos (starEach es X.env)).any (·.1) = false := by rfl)
    (ht : eval (.Call (.Attribute o m apos) (e :: es) [] pos) X.env = (eval o X.env >>= fun ov => standAt apos.atName >>= fun _ =>
      holding [ov] (getMethod ov m pl) >>= fun q =>
        callWith pos q.1 q.2 (backTo pos (starEach (e :: es) X.env)) (backToKw pos (keywordEach [] X.env))) := by rfl) :
    PE X (.Call (.Attribute o m apos) (e :: es) [] pos) (tMeth C m sp [] E ta t) := by
  obtain ⟨f, fd, hm, F, hb⟩ := c.ex
  constructor
  intro pins s σ H Q I h
  refine PySem.W.methodCall_KW (pl := pl) (thn (he.run pins s σ H _ I h) ?_) ht
  rintro u s1 ⟨x, H1, I1, rx, a, dx, fs, rfl, ea, l, q⟩
  obtain rfl : u = Value.ref a := rx
  refine getmeth_ok I1 ea c.cl hm l ?_
  refine PySem.W.callWith_K (first := [.ref a]) (h₀ := X.base) I.ok.mod.kin hm.kp (thn (ha.run pos pins s1 σ H1 _ I1 q) ?_) hst hpl
  rintro us s2 ⟨vs, H2, I2, r, q2⟩
  rw [List.append_nil] at q2
  exact ⟨I2.kIn, run_fnG (ks := []) (ws := []) (us := .ref a :: us) (vs := .ref a :: vs) F hq (hr.mono hk) (kb_of hb) hx I2 (.cons rfl r) .nil q2⟩
theorem pe_m0 {pl : Sem Bool} (c : Met X.prog X.w X.K X.mg X.base CX k C m ps sp) (hx : Passes CX X E) (hq : Qt X.A) (hr : Room j X.A) (hk : k ≤ j)
    (he : PE X o ta)
    (ht : eval (.Call (.Attribute o m apos) [] [] pos) X.env = (eval o X.env >>= fun ov => standAt apos.atName >>= fun _ =>
      holding [ov] (getMethod ov m pl) >>= fun q =>
        callWith pos q.1 q.2 (backTo pos (starEach [] X.env)) (backToKw pos (keywordEach [] X.env))) := by rfl) :
    PE X (.Call (.Attribute o m apos) [] [] pos) (tMeth C m sp [] E ta tNil) := by
  obtain ⟨f, fd, hm, F, hb⟩ := c.ex
  constructor
  intro pins s σ H Q I h
  refine PySem.W.methodCall_KW (pl := pl) (thn (he.run pins s σ H _ I h) ?_) ht
  rintro u s1 ⟨x, H1, I1, rx, a, dx, fs, rfl, ea, l, q⟩
  obtain rfl : u = Value.ref a := rx
  refine getmeth_ok I1 ea c.cl hm l ?_
  exact PySem.W.callWith_K0 (first := [.ref a]) I1.kIn hm.kp (run_fnG (ks := []) (ws := []) (us := [.ref a]) (vs := [.ref a]) F hq (hr.mono hk) (kb_of hb) hx I1 (.cons rfl .nil) .nil q)
end
end Kit

/-! values as data: tuples and lists that no one changes by what they hold; what changes by its number in a store -/
namespace DL
open PySem PySem.Spec PyProof.Rows L2 Kit

inductive D where
  | non | bl (b : Bool) | int (i : Int) | str (z : Str) | ty (n : String) | ref (n : Nat)
  | tup (xs : List D) | lst (xs : List D) | dct (t : Bool) (kvs : List (D × D)) | scr (ns : List Int) | ktp (xs : List D) | adr (a : Addr)

/-- what stands in the store -/
inductive MO where
  | lst (xs : List D) | deck (t : Nat) | dct (t : Bool) (kvs : List (D × D)) | hid | gone
abbrev Mu := List MO
/-- an exception: its class, its fields, the slots of the def that called or raised -/
structure Exn where
  C : Addr
  fs : List (Str × D)
  sl : List (Option D) := []

structure W (α : Type) where
  run : (α → Mu → Prop) → (Exn → Mu → Prop) → Mu → Prop
  mono : ∀ {Q Q' : α → Mu → Prop} {E E' : Exn → Mu → Prop} {μ : Mu}, (∀ a μ', Q a μ' → Q' a μ') → (∀ x μ', E x μ' → E' x μ') → run Q E μ → run Q' E' μ
namespace W
def ret {α : Type} (a : α) : W α := ⟨fun Q _ μ => Q a μ, fun h _ q => h _ _ q⟩
def bnd {α β : Type} (m : W α) (k : α → W β) : W β := ⟨fun Q E μ => m.run (fun a μ' => (k a).run Q E μ') E μ, fun h h2 q => m.mono (fun a μ' r => (k a).mono h h2 r) h2 q⟩
def fail {α : Type} : W α := ⟨fun _ _ _ => False, fun _ _ q => q⟩
def chk {α : Type} (p : Prop) (m : W α) : W α := ⟨fun Q E μ => p ∧ m.run Q E μ, fun h h2 q => ⟨q.1, m.mono h h2 q.2⟩⟩
def rd {α : Type} (k : Mu → W α) : W α := ⟨fun Q E μ => (k μ).run Q E μ, fun {_ _ _ _ μ} h h2 q => (k μ).mono h h2 q⟩
def wr {α : Type} (f : Mu → Mu) (m : W α) : W α := ⟨fun Q E μ => m.run Q E (f μ), fun h h2 q => m.mono h h2 q⟩
def any {α β : Type} (p : β → Prop) (k : β → W α) : W α := ⟨fun Q E μ => ∀ b, p b → (k b).run Q E μ, fun h h2 q b hb => (k b).mono h h2 (q b hb)⟩
/-- nothing is raised within -/
def nox {α : Type} (m : W α) : W α := ⟨fun Q _ μ => m.run Q (fun _ _ => False) μ, fun h _ q => m.mono h (fun _ _ z => z) q⟩
def exn {α : Type} (x : Exn) : W α := ⟨fun _ E μ => E x μ, fun _ h2 q => h2 _ _ q⟩
/-- .. seen at the slots ε -/
def tag {α : Type} (ε : List (Option D)) (m : W α) : W α := ⟨fun Q E μ => m.run Q (fun x μ' => E { x with sl := ε } μ') μ, fun h h2 q => m.mono h (fun _ _ z => h2 _ _ z) q⟩
def opt {α : Type} : Option α → W α
  | some a => ret a
  | none => fail
end W
section
variable {α β : Type} {Q : α → Mu → Prop} {Qb : β → Mu → Prop} {E : Exn → Mu → Prop} {μ : Mu}
theorem run_ret {a : α} : (W.ret a).run Q E μ = Q a μ := rfl
theorem run_bnd {m : W α} {k : α → W β} : (W.bnd m k).run Qb E μ = m.run (fun a μ' => (k a).run Qb E μ') E μ := rfl
theorem run_fail : (W.fail : W α).run Q E μ = False := rfl
theorem run_chk {p : Prop} {m : W α} : (W.chk p m).run Q E μ = (p ∧ m.run Q E μ) := rfl
theorem run_rd {k : Mu → W α} : (W.rd k).run Q E μ = (k μ).run Q E μ := rfl
theorem run_wr {f : Mu → Mu} {m : W α} : (W.wr f m).run Q E μ = m.run Q E (f μ) := rfl
theorem run_any {p : β → Prop} {k : β → W α} : (W.any p k).run Q E μ = (∀ b, p b → (k b).run Q E μ) := rfl
theorem run_nox {m : W α} : (W.nox m).run Q E μ = m.run Q (fun _ _ => False) μ := rfl
theorem run_exn {x : Exn} : (W.exn x : W α).run Q E μ = E x μ := rfl
theorem run_tag {ε : List (Option D)} {m : W α} : (W.tag ε m).run Q E μ = m.run Q (fun x μ' => E { x with sl := ε } μ') μ := rfl
theorem run_some {a : α} : (W.opt (some a)).run Q E μ = Q a μ := rfl
theorem run_none : (W.opt (none : Option α)).run Q E μ = False := rfl
end

/-! ### where it stands -/
structure Pl where
  L : List Addr
  hid : List Addr
def live (S : Pl) (μ : Mu) (a : Addr) : Prop := a ∈ S.hid ∨ ∃ (n : Nat) (m : MO), S.L[n]? = some a ∧ μ[n]? = some m ∧ m ≠ MO.gone

section
variable (K : PySem.W.Frag)
def FrT (S : Pl) (μ : Mu) (H : Hp) (a : Addr) (vs : List V) : Prop := H a = some (.tup vs) ∧ ¬ live S μ a
def FrL (S : Pl) (μ : Mu) (H : Hp) (a : Addr) (vs : List V) : Prop := H a = some (.lst vs) ∧ ¬ live S μ a
def FrS (S : Pl) (μ : Mu) (H : Hp) (a : Addr) (vs : List V) : Prop := (Rd H a (.lst vs) ∧ ¬ live S μ a) ∨ SqL K (fun _ => none) a vs
/-- a key, as the machine has it -/
def dkK : D → Option Key
  | .int i => some (.inl i)
  | .str z => some (.inr z)
  | _ => none
def dkL : List D → Option (List Key)
  | [] => some []
  | x :: xs => (dkK x).bind fun k => (dkL xs).map (k :: ·)
/-- .. of a dict whose keys are tuples -/
def dkT : D → Option (List Key)
  | .tup ds => dkL ds
  | _ => none
abbrev IsKey (d : D) (k : Key) : Prop := dkK d = some k
abbrev IsKeyT (d : D) (k : List Key) : Prop := dkT d = some k
mutual
inductive Rep (S : Pl) (μ : Mu) (H : Hp) : D → V → Prop
  | non : Rep S μ H .non .non
  | bl (b : Bool) : Rep S μ H (.bl b) (.bl b)
  | int (i : Int) : Rep S μ H (.int i) (.int i)
  | str (z : Str) : Rep S μ H (.str z) (.str z)
  | ty (n : String) : Rep S μ H (.ty n) (.ty n)
  | ref {n : Nat} {a : Addr} (h : S.L[n]? = some a) : Rep S μ H (.ref n) (.ref a)
  | tup {xs : List D} {a : Addr} {vs : List V} (h : FrT S μ H a vs) (r : RepA S μ H xs vs) : Rep S μ H (.tup xs) (.ref a)
  | lst {xs : List D} {a : Addr} {vs : List V} (h : FrL S μ H a vs) (r : RepA S μ H xs vs) : Rep S μ H (.lst xs) (.ref a)
  | ktp {xs : List D} {a : Addr} {vs : List V} (h : SqT K (fun _ => none) a vs) (r : RepA S μ H xs vs) : Rep S μ H (.ktp xs) (.ref a)
  | scr {ns : List Int} {a : Addr} (h : FrS K S μ H a (ns.map V.int)) : Rep S μ H (.scr ns) (.ref a)
  | dcK {ks : List (D × D)} {a : Addr} {kvs : List (Key × V)} (h : H a = some (.dK kvs) ∧ ¬ live S μ a) (r : RepK S μ H ks kvs) : Rep S μ H (.dct false ks) (.ref a)
  | dcT {ks : List (D × D)} {a : Addr} {kvs : List (List Key × V)} (h : H a = some (.dT kvs) ∧ ¬ live S μ a) (r : RepT S μ H ks kvs) : Rep S μ H (.dct true ks) (.ref a)
  | adr (a : Addr) : Rep S μ H (.adr a) (.ref a)
inductive RepA (S : Pl) (μ : Mu) (H : Hp) : List D → List V → Prop
  | nil : RepA S μ H [] []
  | cons {d : D} {v : V} {ds : List D} {vs : List V} (h : Rep S μ H d v) (t : RepA S μ H ds vs) : RepA S μ H (d :: ds) (v :: vs)
inductive RepK (S : Pl) (μ : Mu) (H : Hp) : List (D × D) → List (Key × V) → Prop
  | nil : RepK S μ H [] []
  | cons {k d : D} {q : Key} {v : V} {ds : List (D × D)} {vs : List (Key × V)} (hk : IsKey k q) (h : Rep S μ H d v) (t : RepK S μ H ds vs) : RepK S μ H ((k, d) :: ds) ((q, v) :: vs)
inductive RepT (S : Pl) (μ : Mu) (H : Hp) : List (D × D) → List (List Key × V) → Prop
  | nil : RepT S μ H [] []
  | cons {k d : D} {q : List Key} {v : V} {ds : List (D × D)} {vs : List (List Key × V)} (hk : IsKeyT k q) (h : Rep S μ H d v) (t : RepT S μ H ds vs) : RepT S μ H ((k, d) :: ds) ((q, v) :: vs)
end

structure Ex (S : Pl) (μ : Mu) (H : Hp) (S' : Pl) (μ' : Mu) (H' : Hp) : Prop where
  L : ∃ more, S'.L = S.L ++ more
  hid : S'.hid = S.hid
  keep : ∀ a o, H a = some o → ¬ live S μ a → H' a = some o ∧ ¬ live S' μ' a
  hk : ∀ a ∈ S.hid, H' a = H a

/-- .. what is known of values stays -/
structure Ux (S : Pl) (μ : Mu) (H : Hp) (S' : Pl) (μ' : Mu) (H' : Hp) : Prop where
  L : ∃ more, S'.L = S.L ++ more
  keep : ∀ a o, H a = some o → ¬ live S μ a → H' a = some o ∧ ¬ live S' μ' a

/-- the object of the store at a -/
def MoOk (dk : Hp → Addr → Addr → Nat → Prop) (S : Pl) (μ : Mu) (H : Hp) (n : Nat) (a : Addr) : MO → Prop
  | .lst ds => ∃ vs, H a = some (.lst vs) ∧ RepA K S μ H ds vs
  | .deck t => ∃ c, S.L[n + 1]? = some c ∧ μ[n + 1]? = some .hid ∧ dk H a c t
  | .dct false ks => ∃ kvs, H a = some (.dK kvs) ∧ RepK K S μ H ks kvs
  | .dct true ks => ∃ kvs, H a = some (.dT kvs) ∧ RepT K S μ H ks kvs
  | .hid => True
  | .gone => True
structure Ok (dk : Hp → Addr → Addr → Nat → Prop) (S : Pl) (μ : Mu) (H : Hp) : Prop where
  len : S.L.length = μ.length
  nd : (S.L ++ S.hid).Nodup
  here : ∀ a, a ∈ S.L ++ S.hid → H a ≠ none
  at_ : ∀ (n : Nat) m a, μ[n]? = some m → S.L[n]? = some a → MoOk K dk S μ H n a m
end

section
variable {K : PySem.W.Frag} {S S1 S2 S' : Pl} {μ μ1 μ2 μ' : Mu} {H H1 H2 H' : Hp}
theorem Ex.refl : Ex S μ H S μ H := ⟨⟨[], by rw [List.append_nil]⟩, rfl, fun _ _ h n => ⟨h, n⟩, fun _ _ => rfl⟩
theorem Ex.trans (a : Ex S μ H S1 μ1 H1) (b : Ex S1 μ1 H1 S2 μ2 H2) : Ex S μ H S2 μ2 H2 := by
  refine ⟨?_, b.hid.trans a.hid, fun x o h n => ?_, fun x hx => ?_⟩
  · obtain ⟨m, e⟩ := a.L
    obtain ⟨m2, e2⟩ := b.L
    exact ⟨m ++ m2, by rw [e2, e, List.append_assoc]⟩
  · obtain ⟨h1, n1⟩ := a.keep x o h n
    exact b.keep x o h1 n1
  · exact (b.hk x (by rw [a.hid]; exact hx)).trans (a.hk x hx)
theorem Ex.ux (a : Ex S μ H S1 μ1 H1) : Ux S μ H S1 μ1 H1 := ⟨a.L, a.keep⟩
theorem Ux.trans (a : Ux S μ H S1 μ1 H1) (b : Ux S1 μ1 H1 S2 μ2 H2) : Ux S μ H S2 μ2 H2 := by
  refine ⟨?_, fun x o h n => ?_⟩
  · obtain ⟨m, e⟩ := a.L
    obtain ⟨m2, e2⟩ := b.L
    exact ⟨m ++ m2, by rw [e2, e, List.append_assoc]⟩
  · obtain ⟨h1, n1⟩ := a.keep x o h n
    exact b.keep x o h1 n1
theorem Ux.at (a : Ux S μ H S1 μ1 H1) {n : Nat} {x : Addr} (h : S.L[n]? = some x) : S1.L[n]? = some x := by
  obtain ⟨m, e⟩ := a.L
  rw [e, List.getElem?_append_left (List.getElem?_eq_some_iff.mp h).1]
  exact h
theorem Ux.rd (x : Ux S μ H S1 μ1 H1) {a : Addr} {u : HO} (h : Rd H a u ∧ ¬ live S μ a) : Rd H1 a u ∧ ¬ live S1 μ1 a := by
  rcases h with ⟨h | ⟨o, h⟩, n⟩
  · obtain ⟨h1, n1⟩ := x.keep _ _ h n
    exact ⟨.inl h1, n1⟩
  · obtain ⟨h1, n1⟩ := x.keep _ _ h n
    exact ⟨.inr ⟨o, h1⟩, n1⟩
theorem FrT.ux (x : Ux S μ H S1 μ1 H1) {a : Addr} {vs : List V} (h : FrT S μ H a vs) : FrT S1 μ1 H1 a vs := x.keep _ _ h.1 h.2
theorem FrL.ux (x : Ux S μ H S1 μ1 H1) {a : Addr} {vs : List V} (h : FrL S μ H a vs) : FrL S1 μ1 H1 a vs := x.keep _ _ h.1 h.2
theorem FrS.ux (x : Ux S μ H S1 μ1 H1) {a : Addr} {vs : List V} (h : FrS K S μ H a vs) : FrS K S1 μ1 H1 a vs := by
  rcases h with h | h
  · exact .inl (x.rd h)
  · exact .inr h
theorem FrT.sq {a : Addr} {vs : List V} (h : FrT S μ H a vs) : SqT K H a vs := .inl (.inl h.1)
theorem kt_sq {a : Addr} {vs : List V} (h : SqT K (fun _ => none) a vs) : SqT K H a vs := by
  rcases h with h | h
  · rcases h with h | ⟨_, h⟩ <;> cases h
  · exact .inr h
theorem FrL.sq {a : Addr} {vs : List V} (h : FrL S μ H a vs) : SqL K H a vs := .inl (.inl h.1)
theorem FrS.sq {a : Addr} {vs : List V} (h : FrS K S μ H a vs) : SqL K H a vs := by
  rcases h with ⟨h, _⟩ | (h | h)
  · exact .inl h
  · rcases h with h | ⟨_, h⟩ <;> cases h
  · exact .inr h
mutual
theorem Rep.ux (x : Ux S μ H S1 μ1 H1) : ∀ {d : D} {v : V}, Rep K S μ H d v → Rep K S1 μ1 H1 d v
  | _, _, .non => .non
  | _, _, .bl b => .bl b
  | _, _, .int i => .int i
  | _, _, .str z => .str z
  | _, _, .ty n => .ty n
  | _, _, .ref h => .ref (x.at h)
  | _, _, .tup h r => .tup (h.ux x) (RepA.ux x r)
  | _, _, .lst h r => .lst (h.ux x) (RepA.ux x r)
  | _, _, .ktp h r => .ktp h (RepA.ux x r)
  | _, _, .scr h => .scr (h.ux x)
  | _, _, .dcK h r => .dcK (x.keep _ _ h.1 h.2) (RepK.ux x r)
  | _, _, .dcT h r => .dcT (x.keep _ _ h.1 h.2) (RepT.ux x r)
  | _, _, .adr a => .adr a
theorem RepA.ux (x : Ux S μ H S1 μ1 H1) : ∀ {ds : List D} {vs : List V}, RepA K S μ H ds vs → RepA K S1 μ1 H1 ds vs
  | _, _, .nil => .nil
  | _, _, .cons h t => .cons (Rep.ux x h) (RepA.ux x t)
theorem RepK.ux (x : Ux S μ H S1 μ1 H1) : ∀ {ds : List (D × D)} {vs : List (Key × V)}, RepK K S μ H ds vs → RepK K S1 μ1 H1 ds vs
  | _, _, .nil => .nil
  | _, _, .cons k h t => .cons k (Rep.ux x h) (RepK.ux x t)
theorem RepT.ux (x : Ux S μ H S1 μ1 H1) : ∀ {ds : List (D × D)} {vs : List (List Key × V)}, RepT K S μ H ds vs → RepT K S1 μ1 H1 ds vs
  | _, _, .nil => .nil
  | _, _, .cons k h t => .cons k (Rep.ux x h) (RepT.ux x t)
end
theorem FrT.ex (x : Ex S μ H S1 μ1 H1) {a : Addr} {vs : List V} (h : FrT S μ H a vs) : FrT S1 μ1 H1 a vs := h.ux x.ux
theorem Rep.ex (x : Ex S μ H S1 μ1 H1) {d : D} {v : V} (h : Rep K S μ H d v) : Rep K S1 μ1 H1 d v := Rep.ux x.ux h
theorem RepA.ex (x : Ex S μ H S1 μ1 H1) {ds : List D} {vs : List V} (h : RepA K S μ H ds vs) : RepA K S1 μ1 H1 ds vs := RepA.ux x.ux h
theorem RepK.ex (x : Ex S μ H S1 μ1 H1) {ds : List (D × D)} {vs : List (Key × V)} (h : RepK K S μ H ds vs) : RepK K S1 μ1 H1 ds vs := RepK.ux x.ux h
theorem RepT.ex (x : Ex S μ H S1 μ1 H1) {ds : List (D × D)} {vs : List (List Key × V)} (h : RepT K S μ H ds vs) : RepT K S1 μ1 H1 ds vs := RepT.ux x.ux h
theorem Ex.at (a : Ex S μ H S1 μ1 H1) {n : Nat} {x : Addr} (h : S.L[n]? = some x) : S1.L[n]? = some x := a.ux.at h
theorem RepA.len {ds : List D} {vs : List V} (h : RepA K S μ H ds vs) : ds.length = vs.length := by
  induction ds generalizing vs with
  | nil => cases h; rfl
  | cons d ds ih =>
    cases h with
    | cons h t => rw [List.length_cons, List.length_cons, ih t]
theorem RepA.get {ds : List D} {vs : List V} (h : RepA K S μ H ds vs) : ∀ {i : Nat} {d : D}, ds[i]? = some d → ∃ v, vs[i]? = some v ∧ Rep K S μ H d v := by
  induction ds generalizing vs with
  | nil => intro i d e; cases e
  | cons d ds ih =>
    intro i x e
    cases h with
    | cons h t =>
      cases i with
      | zero => cases e; exact ⟨_, rfl, h⟩
      | succ i => exact ih t e
theorem RepA.app {ds es : List D} {vs ws : List V} (h : RepA K S μ H ds vs) (g : RepA K S μ H es ws) : RepA K S μ H (ds ++ es) (vs ++ ws) := by
  induction ds generalizing vs with
  | nil => cases h; exact g
  | cons d ds ih =>
    cases h with
    | cons h t => exact .cons h (ih t)
theorem RepA.of : ∀ {ds : List D} {vs : List V}, ds.length = vs.length → (∀ (i : Nat) d v, ds[i]? = some d → vs[i]? = some v → Rep K S μ H d v) → RepA K S μ H ds vs
  | [], [], _, _ => .nil
  | [], _ :: _, h, _ => by cases h
  | _ :: _, [], h, _ => by cases h
  | d :: ds, v :: vs, h, g => .cons (g 0 d v rfl rfl) (RepA.of (by simpa using h) fun i d v h1 h2 => g (i + 1) d v h1 h2)

/-! ### slots -/
abbrev DS := List (Option D)
structure RS (K : PySem.W.Frag) (S : Pl) (μ : Mu) (H : Hp) (ε : DS) (σ : L2.St) : Prop where
  len : ε.length = σ.length
  at_ : ∀ (i : Nat) d, ε[i]? = some (some d) → ∃ v, σ[i]? = some (some v) ∧ Rep K S μ H d v
theorem RS.ux (x : Ux S μ H S1 μ1 H1) {ε : DS} {σ : L2.St} (r : RS K S μ H ε σ) : RS K S1 μ1 H1 ε σ := ⟨r.len, fun i d e => by
  obtain ⟨v, h1, h2⟩ := r.at_ i d e
  exact ⟨v, h1, h2.ux x⟩⟩
theorem RS.ex (x : Ex S μ H S1 μ1 H1) {ε : DS} {σ : L2.St} (r : RS K S μ H ε σ) : RS K S1 μ1 H1 ε σ := r.ux x.ux
theorem RS.set {ε : DS} {σ : L2.St} (r : RS K S μ H ε σ) {d : D} {v : V} (i : Nat) (h : Rep K S μ H d v) : RS K S μ H (ε.set i (some d)) (σ.set i (some v)) := by
  refine ⟨by rw [List.length_set, List.length_set]; exact r.len, fun j e h1 => ?_⟩
  by_cases hj : i = j
  · subst hj
    have hl : i < ε.length := by
      have := (List.getElem?_eq_some_iff.mp h1).1
      rw [List.length_set] at this
      exact this
    rw [List.getElem?_set_self hl] at h1
    cases h1
    rw [List.getElem?_set_self (by rw [← r.len]; exact hl)]
    exact ⟨v, rfl, h⟩
  · rw [List.getElem?_set_ne hj] at h1
    rw [List.getElem?_set_ne hj]
    exact r.at_ j e h1
def wipeD (ε : DS) : List Nat → DS
  | [] => ε
  | v :: vs => (wipeD ε vs).set v none
theorem RS.forget {ε : DS} {σ : L2.St} (r : RS K S μ H ε σ) (i : Nat) : RS K S μ H (ε.set i none) (σ.set i none) := by
  refine ⟨by rw [List.length_set, List.length_set]; exact r.len, fun j e h1 => ?_⟩
  by_cases hj : i = j
  · subst hj
    have hl : i < ε.length := by
      have := (List.getElem?_eq_some_iff.mp h1).1
      rw [List.length_set] at this
      exact this
    rw [List.getElem?_set_self hl] at h1
    cases h1
  · rw [List.getElem?_set_ne hj] at h1
    rw [List.getElem?_set_ne hj]
    exact r.at_ j e h1
theorem RS.wipe {ε : DS} {σ : L2.St} (r : RS K S μ H ε σ) : ∀ vs : List Nat, RS K S μ H (wipeD ε vs) (wipe σ vs)
  | [] => r
  | v :: vs => (RS.wipe r vs).forget v
end
end DL

namespace DL
open PySem PySem.Spec PyProof.Rows L2 Kit

structure DK where
  p : Hp → Addr → Addr → Nat → Prop
  st : ∀ {H H' : Hp} {a c : Addr} {t : Nat}, H' a = H a → H' c = H c → p H a c t → p H' a c t
section
variable (K : PySem.W.Frag) (dk : DK)
def Post (S : Pl) (μ : Mu) (H : Hp) (Q : VK) : D → Mu → Prop := fun d μ' => ∀ v S' H', Ex S μ H S' μ' H' → Ok K dk.p S' μ' H' → Rep K S' μ' H' d v → Q v H'
def PostB (S : Pl) (μ : Mu) (H : Hp) (Q : Bool → Hp → Prop) : Bool → Mu → Prop := fun b μ' => ∀ S' H', Ex S μ H S' μ' H' → Ok K dk.p S' μ' H' → Q b H'
def PostA (S : Pl) (μ : Mu) (H : Hp) (Q : List V → Hp → Prop) : List D → Mu → Prop := fun ds μ' => ∀ vs S' H', Ex S μ H S' μ' H' → Ok K dk.p S' μ' H' → RepA K S' μ' H' ds vs → Q vs H'
/-- an exception's fields -/
def RepF (S : Pl) (μ : Mu) (H : Hp) (fs : List (Str × D)) (vs : List (Str × V)) : Prop := fs.map (·.1) = vs.map (·.1) ∧ RepA K S μ H (fs.map (·.2)) (vs.map (·.2))
def PostX (S : Pl) (μ : Mu) (H : Hp) (E : XK) : Exn → Mu → Prop := fun x μ' => ∀ d vs S' H', Ex S μ H S' μ' H' → Ok K dk.p S' μ' H' → H' d = some (.xd vs) → ¬ live S' μ' d → RepF K S' μ' H' x.fs vs → E (.ref x.C) (some d) H'
/-- .. wished at slots -/
def PostXs (S : Pl) (μ : Mu) (H : Hp) (w : WX) : Exn → Mu → Prop := fun x μ' => ∀ d vs S' H' σ, Ex S μ H S' μ' H' → Ok K dk.p S' μ' H' → H' d = some (.xd vs) → ¬ live S' μ' d → RepF K S' μ' H' x.fs vs → RS K S' μ' H' x.sl σ → w (.ref x.C) (some d) σ H'
structure LC where
  E : Exn → Mu → Prop
  lk : Pl → Mu → Hp → Prop
  x : WX
  up : ∀ {S S' : Pl} {μ μ' : Mu} {H H' : Hp}, lk S μ H → Ex S μ H S' μ' H' → lk S' μ' H'
  xl : ∀ {S : Pl} {μ μ' : Mu} {H : Hp} {e : Exn}, lk S μ H → E e μ' → PostXs K dk S μ H x e μ'
/-- within a comprehension -/
def cF : LC K dk := ⟨fun _ _ => False, fun _ _ _ => True, fun _ _ _ _ => False, fun _ _ => True.intro, fun _ h => h.elim⟩
inductive Fl where
  | nx (ε : DS) | rt (d : D) | bk (ε : DS) | ct (ε : DS)
def PostS (S : Pl) (μ : Mu) (H : Hp) (Dn : Ends) : Fl → Mu → Prop
  | .nx ε, μ' => ∀ σ S' H', Ex S μ H S' μ' H' → Ok K dk.p S' μ' H' → RS K S' μ' H' ε σ → Dn.nx σ H'
  | .rt d, μ' => ∀ v S' H', Ex S μ H S' μ' H' → Ok K dk.p S' μ' H' → Rep K S' μ' H' d v → Dn.rt v H'
  | .bk ε, μ' => ∀ σ S' H', Ex S μ H S' μ' H' → Ok K dk.p S' μ' H' → RS K S' μ' H' ε σ → Dn.bk σ H'
  | .ct ε, μ' => ∀ σ S' H', Ex S μ H S' μ' H' → Ok K dk.p S' μ' H' → RS K S' μ' H' ε σ → Dn.ct σ H'
def lowE (c : LC K dk) (f : DS → W D) : TE := fun σ H Q => ∃ ε S μ, c.lk S μ H ∧ Ok K dk.p S μ H ∧ RS K S μ H ε σ ∧ (f ε).run (Post K dk S μ H Q) c.E μ
def lowT (c : LC K dk) (f : DS → W Bool) : TT := fun σ H Q => ∃ ε S μ, c.lk S μ H ∧ Ok K dk.p S μ H ∧ RS K S μ H ε σ ∧ (f ε).run (PostB K dk S μ H Q) c.E μ
def lowA (c : LC K dk) (f : DS → W (List D)) : TA := fun σ H Q => ∃ ε S μ, c.lk S μ H ∧ Ok K dk.p S μ H ∧ RS K S μ H ε σ ∧ (f ε).run (PostA K dk S μ H Q) c.E μ
def lowS (c : LC K dk) (f : DS → W Fl) : TS := fun Dn σ H => ∃ ε S μ, c.lk S μ H ∧ Ok K dk.p S μ H ∧ RS K S μ H ε σ ∧ (f ε).run (PostS K dk S μ H Dn) c.E μ

/-- rules by values -/
def LR2 (r : R2) (g : D → D → W D) : Prop := ∀ {x y : V} {dx dy : D} {S : Pl} {μ : Mu} {H : Hp} {Q : VK} {E : Exn → Mu → Prop}, Ok K dk.p S μ H → Rep K S μ H dx x → Rep K S μ H dy y →
  (g dx dy).run (Post K dk S μ H Q) E μ → r x y H Q
def LR1 (r : V → Hp → VK → Prop) (g : D → W D) : Prop := ∀ {x : V} {dx : D} {S : Pl} {μ : Mu} {H : Hp} {Q : VK} {E : Exn → Mu → Prop}, Ok K dk.p S μ H → Rep K S μ H dx x →
  (g dx).run (Post K dk S μ H Q) E μ → r x H Q
def LRC (r : List V → Hp → VK → Prop) (g : List D → W D) : Prop := ∀ {xs : List V} {ds : List D} {S : Pl} {μ : Mu} {H : Hp} {Q : VK} {E : Exn → Mu → Prop}, Ok K dk.p S μ H → RepA K S μ H ds xs →
  (g ds).run (Post K dk S μ H Q) E μ → r xs H Q
end

section
variable {K : PySem.W.Frag} {dk : DK} {S S1 S' : Pl} {μ μ1 μ' : Mu} {H H1 H' : Hp} {Q : VK}
theorem Post.ex (x : Ex S μ H S1 μ1 H1) {d : D} (h : Post K dk S μ H Q d μ') : Post K dk S1 μ1 H1 Q d μ' := fun v S' H' e => h v S' H' (x.trans e)
theorem PostB.ex {Q : Bool → Hp → Prop} (x : Ex S μ H S1 μ1 H1) {d : Bool} (h : PostB K dk S μ H Q d μ') : PostB K dk S1 μ1 H1 Q d μ' := fun S' H' e => h S' H' (x.trans e)
theorem PostA.ex {Q : List V → Hp → Prop} (x : Ex S μ H S1 μ1 H1) {d : List D} (h : PostA K dk S μ H Q d μ') : PostA K dk S1 μ1 H1 Q d μ' := fun v S' H' e => h v S' H' (x.trans e)
theorem PostS.ex {Dn : Ends} (x : Ex S μ H S1 μ1 H1) {fl : Fl} (h : PostS K dk S μ H Dn fl μ') : PostS K dk S1 μ1 H1 Dn fl μ' := by
  cases fl with
  | nx ε => exact fun σ S' H' e => h σ S' H' (x.trans e)
  | rt d => exact fun v S' H' e => h v S' H' (x.trans e)
  | bk ε => exact fun σ S' H' e => h σ S' H' (x.trans e)
  | ct ε => exact fun σ S' H' e => h σ S' H' (x.trans e)
theorem PostX.ex {E : XK} (x : Ex S μ H S1 μ1 H1) {e : Exn} (h : PostX K dk S μ H E e μ') : PostX K dk S1 μ1 H1 E e μ' := fun d vs S' H' ex => h d vs S' H' (x.trans ex)
theorem W.up {α : Type} {m : W α} {Q Q' : α → Mu → Prop} {E : Exn → Mu → Prop} (r : m.run Q E μ) (h : ∀ a μ', Q a μ' → Q' a μ') : m.run Q' E μ := m.mono h (fun _ _ z => z) r

/-! ### a new object -/
theorem Ok.fresh (ok : Ok K dk.p S μ H) {p : Addr} (hp : H p = none) : p ∉ S.L ++ S.hid := fun h => ok.here p h hp
theorem Ok.dead (ok : Ok K dk.p S μ H) {p : Addr} (hp : H p = none) : ¬ live S μ p := by
  have h := ok.fresh hp
  rintro (z | ⟨n, m, e, _⟩)
  · exact h (List.mem_append_right _ z)
  · exact h (List.mem_append_left _ (List.mem_of_getElem? e))
theorem new_ex (ok : Ok K dk.p S μ H) {p : Addr} {o : HO} (hp : H p = none) : Ex S μ H S μ (upd H p o) := by
  refine ⟨⟨[], by rw [List.append_nil]⟩, rfl, fun a u h n => ⟨?_, n⟩, fun a ha => ?_⟩
  · rw [upd_ne (ne_of_none h hp)]
    exact h
  · rw [upd_ne]
    rintro rfl
    exact ok.fresh hp (List.mem_append_right _ ha)
theorem mo_ux {n : Nat} {a : Addr} {m : MO} (h : MoOk K dk.p S μ H n a m) (x : Ux S μ H S1 μ1 H1) (e : H1 a = H a) (ec : ∀ c, S.L[n + 1]? = some c → H1 c = H c) (em : μ[n + 1]? = some .hid → μ1[n + 1]? = some .hid) : MoOk K dk.p S1 μ1 H1 n a m := by
  cases m with
  | lst ds =>
    obtain ⟨vs, h1, h2⟩ := h
    exact ⟨vs, e.trans h1, h2.ux x⟩
  | deck t =>
    obtain ⟨c, h1, h2, h3⟩ := h
    exact ⟨c, x.at h1, em h2, dk.st e (ec c h1) h3⟩
  | dct b ks =>
    cases b with
    | false =>
      obtain ⟨kvs, h1, h2⟩ := h
      exact ⟨kvs, e.trans h1, h2.ux x⟩
    | true =>
      obtain ⟨kvs, h1, h2⟩ := h
      exact ⟨kvs, e.trans h1, h2.ux x⟩
  | hid => exact True.intro
  | gone => exact True.intro
theorem mo_ex {n : Nat} {a : Addr} {m : MO} (h : MoOk K dk.p S μ H n a m) (x : Ex S μ H S1 μ1 H1) (e : H1 a = H a) (ec : ∀ c, S.L[n + 1]? = some c → H1 c = H c) (em : μ[n + 1]? = some .hid → μ1[n + 1]? = some .hid) : MoOk K dk.p S1 μ1 H1 n a m := mo_ux h x.ux e ec em
theorem new_ok (ok : Ok K dk.p S μ H) {p : Addr} {o : HO} (hp : H p = none) : Ok K dk.p S μ (upd H p o) := by
  have ne : ∀ a, a ∈ S.L ++ S.hid → a ≠ p := fun a ha z => ok.fresh hp (z ▸ ha)
  refine ⟨ok.len, ok.nd, fun a ha => ?_, fun n m a e1 e2 => ?_⟩
  · rw [upd_ne (ne a ha)]
    exact ok.here a ha
  · refine mo_ex (ok.at_ n m a e1 e2) (new_ex ok hp) (upd_ne (ne a (List.mem_append_left _ (List.mem_of_getElem? e2)))) (fun c hc => upd_ne (ne c (List.mem_append_left _ (List.mem_of_getElem? hc)))) (fun z => z)
theorem new_tup (ok : Ok K dk.p S μ H) {p : Addr} {ds : List D} {vs : List V} (hp : H p = none) (r : RepA K S μ H ds vs) : Rep K S μ (upd H p (.tup vs)) (.tup ds) (.ref p) :=
  .tup ⟨upd_same, ok.dead hp⟩ (r.ex (new_ex ok hp))
theorem new_lst (ok : Ok K dk.p S μ H) {p : Addr} {ds : List D} {vs : List V} (hp : H p = none) (r : RepA K S μ H ds vs) : Rep K S μ (upd H p (.lst vs)) (.lst ds) (.ref p) :=
  .lst ⟨upd_same, ok.dead hp⟩ (r.ex (new_ex ok hp))

/-! ### slots, constants -/
def slot : DS → Nat → Option D
  | [], _ => none
  | x :: _, 0 => x
  | _ :: xs, n + 1 => slot xs n
theorem slot_eq : ∀ {ε : DS} {i : Nat} {d : D}, slot ε i = some d → ε[i]? = some (some d)
  | _ :: _, 0, _, h => by
    exact congrArg some h
  | _ :: xs, n + 1, _, h => by
    rw [List.getElem?_cons_succ]
    exact slot_eq h
  | [], 0, _, h => by cases h
  | [], n + 1, _, h => by cases h
def dV (i : Nat) : DS → W D := fun ε => W.opt (slot ε i)
def dC (d : D) : DS → W D := fun _ => W.ret d
end
section
variable {X : Cx} {dk : DK} {c : LC X.K dk} {e a b : Expr} {es : List Expr} {te : TE} {f fa fb : DS → W D} {pos p : Pos}
theorem pe_w (h : PE X e te) (w : ∀ σ H Q, lowE X.K dk c f σ H Q → te σ H Q) : PE X e (lowE X.K dk c f) := ⟨fun pins s σ H Q I q => h.run pins s σ H Q I (w σ H Q q)⟩
theorem pt_w {tt : TT} {f : DS → W Bool} (h : PT X e tt) (w : ∀ σ H Q, lowT X.K dk c f σ H Q → tt σ H Q) : PT X e (lowT X.K dk c f) := ⟨fun pins s σ H Q I q => h.run pins s σ H Q I (w σ H Q q)⟩
theorem pw_w {tt : TT} {f : DS → W Bool} (h : PW X e tt) (w : ∀ σ H Q, lowT X.K dk c f σ H Q → tt σ H Q) : PW X e (lowT X.K dk c f) := ⟨fun wh pins s σ H Q I q => h.run wh pins s σ H Q I (w σ H Q q)⟩
theorem pa_w {ta : TA} {f : DS → W (List D)} (h : PA X es ta) (w : ∀ σ H Q, lowA X.K dk c f σ H Q → ta σ H Q) : PA X es (lowA X.K dk c f) := ⟨fun pos pins s σ H Q I q => h.run pos pins s σ H Q I (w σ H Q q)⟩
theorem pk_w {kws : List Keyword} {ta : TA} {f : DS → W (List D)} (h : PK X kws ta) (w : ∀ σ H Q, lowA X.K dk c f σ H Q → ta σ H Q) : PK X kws (lowA X.K dk c f) := ⟨fun _ pins s σ H Q I q => h.run _ pins s σ H Q I (w σ H Q q)⟩
theorem ps_w {st : Stmt} {ts : TS} {f : DS → W Fl} (h : PS X st ts) (w : ∀ Dn σ H, lowS X.K dk c f Dn σ H → ts Dn σ H) : PS X st (lowS X.K dk c f) := ⟨fun pins s σ H Dn I q => h.run pins s σ H Dn I (w Dn σ H q)⟩
theorem pss_w {st : List Stmt} {ts : TS} {f : DS → W Fl} (h : PSs X st ts) (w : ∀ Dn σ H, lowS X.K dk c f Dn σ H → ts Dn σ H) : PSs X st (lowS X.K dk c f) := ⟨fun pins s σ H Dn I q => h.run pins s σ H Dn I (w Dn σ H q)⟩

theorem de_v {i : Nat} {x : Str} (hN : X.N[i]? = some x) (hv : Vis X.env.scope x) (hd : (x == ("__debug__" : Str)) = false := by decide) (hcd : (x == ("__classdict__" : Str)) = false := by decide) : PE X (.Name x p) (lowE X.K dk c (dV i)) :=
  pe_w (pe_var hN hv hd hcd) fun σ H Q ⟨ε, S, μ, lk, ok, rs, q⟩ => by
    unfold dV at q
    cases hs : slot ε i with
    | none => rw [hs] at q; exact False.elim q
    | some d =>
      rw [hs] at q
      obtain ⟨v, h1, h2⟩ := rs.at_ i d (slot_eq hs)
      exact ⟨v, h1, q v S H Ex.refl ok h2⟩
theorem low_c {d : D} {v : V} (hd : ∀ {S : Pl} {μ : Mu} {H : Hp}, Rep X.K S μ H d v) {σ : L2.St} {H : Hp} {Q : VK} (q : lowE X.K dk c (dC d) σ H Q) : Q v H :=
  let ⟨_, S, _, _, ok, _, q⟩ := q
  q v S H Ex.refl ok hd
theorem de_int {i j pos} : PE X (.Constant (.int i) j pos) (lowE X.K dk c (dC (.int i))) := pe_w pe_int fun _ _ _ q => low_c (.int i) q
theorem de_bl {b j pos} : PE X (.Constant (.bool b) j pos) (lowE X.K dk c (dC (.bl b))) := pe_w pe_bl fun _ _ _ q => low_c (.bl b) q
theorem de_non {j pos} : PE X (.Constant .none j pos) (lowE X.K dk c (dC .non)) := pe_w pe_non fun _ _ _ q => low_c .non q
theorem de_str {x j pos} : PE X (.Constant (.str x) j pos) (lowE X.K dk c (dC (.str x))) := pe_w pe_str fun _ _ _ q => low_c (.str x) q
/-- a module's constant -/
theorem de_g {d : D} {v : V} (h : PE X e (tC v)) (hd : ∀ {S : Pl} {μ : Mu} {H : Hp}, Rep X.K S μ H d v) : PE X e (lowE X.K dk c (dC d)) := pe_w h fun _ _ _ q => low_c hd q

/-! ### operators -/
def dOp (g : D → D → W D) (fa fb : DS → W D) : DS → W D := fun ε => W.bnd (fa ε) fun x => W.bnd (fb ε) fun y => g x y
def dUn (g : D → W D) (fa : DS → W D) : DS → W D := fun ε => W.bnd (fa ε) g
theorem low_op {r : R2} {g : D → D → W D} (l : LR2 X.K dk r g) {σ : L2.St} {H : Hp} {Q : VK} (q : lowE X.K dk c (dOp g fa fb) σ H Q) : tOp r (lowE X.K dk c fa) (lowE X.K dk c fb) σ H Q := by
  obtain ⟨ε, S, μ, lk, ok, rs, run⟩ := q
  refine ⟨ε, S, μ, lk, ok, rs, W.up run fun dx μ1 run1 x S1 H1 ex1 ok1 rep1 => ?_⟩
  refine ⟨ε, S1, μ1, c.up lk ex1, ok1, rs.ex ex1, W.up run1 fun dy μ2 run2 y S2 H2 ex2 ok2 rep2 => ?_⟩
  exact l ok2 (rep1.ex ex2) rep2 (W.up run2 fun d μ' q => q.ex (ex1.trans ex2))
theorem low_un {r : V → Hp → VK → Prop} {g : D → W D} (l : LR1 X.K dk r g) {σ : L2.St} {H : Hp} {Q : VK} (q : lowE X.K dk c (dUn g fa) σ H Q) : tUn r (lowE X.K dk c fa) σ H Q := by
  obtain ⟨ε, S, μ, lk, ok, rs, run⟩ := q
  refine ⟨ε, S, μ, lk, ok, rs, W.up run fun dx μ1 run1 x S1 H1 ex1 ok1 rep1 => ?_⟩
  exact l ok1 rep1 (W.up run1 fun d μ' q => q.ex ex1)
theorem de_op {op : Operator} {r : R2} {g : D → D → W D} (ho : OpR X (binaryOp op) r) (l : LR2 X.K dk r g) (ha : PE X a (lowE X.K dk c fa)) (hb : PE X b (lowE X.K dk c fb)) :
    PE X (.BinOp a op b pos) (lowE X.K dk c (dOp g fa fb)) := pe_w (pe_op ho ha hb) fun _ _ _ q => low_op l q
theorem de_un {op : UnaryOp} {r : V → Hp → VK → Prop} {g : D → W D} (ho : UnR X (unaryOp op) r) (l : LR1 X.K dk r g) (ha : PE X a (lowE X.K dk c fa)) :
    PE X (.UnaryOp op a pos) (lowE X.K dk c (dUn g fa)) := pe_w (pe_un ho ha) fun _ _ _ q => low_un l q
theorem de_cmp {op : CmpOp} {r : R2} {g : D → D → W D} (ho : OpR X (compareOp op) r) (l : LR2 X.K dk r g) (ha : PE X a (lowE X.K dk c fa)) (hb : PE X b (lowE X.K dk c fb)) (hm : behindInMarks op b = false) :
    PE X (.Compare a [op] [b] pos) (lowE X.K dk c (dOp g fa fb)) := pe_w (pe_cmpR ho ha hb hm) fun _ _ _ q => low_op l q
theorem de_ix {r : R2} {g : D → D → W D} (hr : IxR X r) (l : LR2 X.K dk r g) (ha : PE X a (lowE X.K dk c fa)) (hb : PE X b (lowE X.K dk c fb)) (hs : PlainIx b) :
    PE X (.Subscript a b pos) (lowE X.K dk c (dOp g fa fb)) := pe_w (pe_ix hr ha hb hs) fun _ _ _ q => low_op l q

/-! ### tests -/
/-- a value that is a truth -/
def asB : D → W Bool
  | .bl b => W.ret b
  | _ => W.fail
def dB (f : DS → W D) : DS → W Bool := fun ε => W.bnd (f ε) asB
theorem low_b {σ : L2.St} {H : Hp} {Q : Bool → Hp → Prop} (q : lowT X.K dk c (dB f) σ H Q) : lowE X.K dk c f σ H fun x H1 => ∃ k, x = .bl k ∧ Q k H1 := by
  obtain ⟨ε, S, μ, lk, ok, rs, run⟩ := q
  refine ⟨ε, S, μ, lk, ok, rs, W.up run fun dx μ1 run1 x S1 H1 ex1 ok1 rep1 => ?_⟩
  cases dx with
  | bl k =>
    cases rep1
    exact ⟨k, rfl, run1 S1 H1 ex1 ok1⟩
  | _ => exact run1.elim
theorem dt_val (h : PE X e (lowE X.K dk c f)) (he : ∀ whole, isTrue e X.env whole = (do let v ← whole; standAt e.pos; holding [v] (truthy v)) := by intro _; rfl) : PT X e (lowT X.K dk c (dB f)) :=
  pt_w (pt_val h he) fun _ _ _ q => low_b q
theorem dt_cmp {op : CmpOp} {r : R2} {g : D → D → W D} (ho : OpR X (compareOp op) r) (l : LR2 X.K dk r g) (ha : PE X a (lowE X.K dk c fa)) (hb : PE X b (lowE X.K dk c fb)) (hm : behindInMarks op b = false) :
    PT X (.Compare a [op] [b] pos) (lowT X.K dk c (dB (dOp g fa fb))) := pt_w (pt_cmpR ho ha hb hm) fun _ _ _ q => by
  obtain ⟨ε, S, μ, lk, ok, rs, run⟩ := q
  refine low_op l ⟨ε, S, μ, lk, ok, rs, W.up run fun dx μ1 run1 x S1 H1 ex1 ok1 rep1 => ?_⟩
  cases dx with
  | bl k =>
    cases rep1
    exact ⟨k, rfl, run1 S1 H1 ex1 ok1⟩
  | _ => exact run1.elim
variable {t u : DS → W Bool}
def dAnd (t u : DS → W Bool) : DS → W Bool := fun ε => W.bnd (t ε) fun b => if b = true then u ε else W.ret false
def dOr (t u : DS → W Bool) : DS → W Bool := fun ε => W.bnd (t ε) fun b => if b = true then W.ret true else u ε
def dNot (t : DS → W Bool) : DS → W Bool := fun ε => W.bnd (t ε) fun b => W.ret (!b)
def dTrue : DS → W Bool := fun _ => W.ret true
theorem low_bnd {α β : Type} {m : DS → W Bool} {k : Bool → W Bool} {σ : L2.St} {H : Hp} {Q : Bool → Hp → Prop} (q : lowT X.K dk c (fun ε => W.bnd (m ε) k) σ H Q) :
    lowT X.K dk c m σ H fun b H1 => ∃ ε S μ, c.lk S μ H1 ∧ Ok X.K dk.p S μ H1 ∧ RS X.K S μ H1 ε σ ∧ (k b).run (PostB X.K dk S μ H1 Q) c.E μ := by
  obtain ⟨ε, S, μ, lk, ok, rs, run⟩ := q
  refine ⟨ε, S, μ, lk, ok, rs, W.up run fun b μ1 run1 S1 H1 ex1 ok1 => ?_⟩
  exact ⟨ε, S1, μ1, c.up lk ex1, ok1, rs.ex ex1, W.up run1 fun _ _ q => q.ex ex1⟩
theorem dw_and1 (ha : PT X a (lowT X.K dk c t)) : PW X (.BoolOp .And [a] pos) (lowT X.K dk c t) := pw_and1 ha
theorem dw_or1 (ha : PT X a (lowT X.K dk c t)) : PW X (.BoolOp .Or [a] pos) (lowT X.K dk c t) := pw_or1 ha
variable {rest : List Expr}
theorem dw_and (ha : PT X a (lowT X.K dk c t)) (hb : PW X (.BoolOp .And (b :: rest) pos) (lowT X.K dk c u)) : PW X (.BoolOp .And (a :: b :: rest) pos) (lowT X.K dk c (dAnd t u)) :=
  pw_w (pw_and ha hb) fun σ H Q ⟨ε, S, μ, lk, ok, rs, run⟩ => by
    refine ⟨ε, S, μ, lk, ok, rs, W.up run fun b μ1 run1 S1 H1 ex1 ok1 => ?_⟩
    cases b with
    | true => exact ⟨ε, S1, μ1, c.up lk ex1, ok1, rs.ex ex1, W.up run1 fun _ _ q => q.ex ex1⟩
    | false => exact run1 S1 H1 ex1 ok1
theorem dw_or (ha : PT X a (lowT X.K dk c t)) (hb : PW X (.BoolOp .Or (b :: rest) pos) (lowT X.K dk c u)) : PW X (.BoolOp .Or (a :: b :: rest) pos) (lowT X.K dk c (dOr t u)) :=
  pw_w (pw_or ha hb) fun σ H Q ⟨ε, S, μ, lk, ok, rs, run⟩ => by
    refine ⟨ε, S, μ, lk, ok, rs, W.up run fun b μ1 run1 S1 H1 ex1 ok1 => ?_⟩
    cases b with
    | false => exact ⟨ε, S1, μ1, c.up lk ex1, ok1, rs.ex ex1, W.up run1 fun _ _ q => q.ex ex1⟩
    | true => exact run1 S1 H1 ex1 ok1
theorem dt_not (ha : PT X a (lowT X.K dk c t)) : PT X (.UnaryOp .Not a pos) (lowT X.K dk c (dNot t)) :=
  pt_w (pt_not ha) fun σ H Q ⟨ε, S, μ, lk, ok, rs, run⟩ => ⟨ε, S, μ, lk, ok, rs, W.up run fun b μ1 run1 S1 H1 ex1 ok1 => run1 S1 H1 ex1 ok1⟩
/-- as values -/
def dAndV (f g : DS → W D) : DS → W D := fun ε => W.bnd (f ε) fun d => W.bnd (asB d) fun b => if b = true then g ε else W.ret (.bl false)
def dOrV (f g : DS → W D) : DS → W D := fun ε => W.bnd (f ε) fun d => W.bnd (asB d) fun b => if b = true then W.ret (.bl true) else g ε
def dNotV (f : DS → W D) : DS → W D := fun ε => W.bnd (f ε) fun d => W.bnd (asB d) fun b => W.ret (.bl (!b))
theorem de_and (ha : PE X a (lowE X.K dk c fa)) (hb : PE X (.BoolOp .And (b :: rest) pos) (lowE X.K dk c fb)) : PE X (.BoolOp .And (a :: b :: rest) pos) (lowE X.K dk c (dAndV fa fb)) :=
  pe_w (pe_and ha hb) fun σ H Q ⟨ε, S, μ, lk, ok, rs, run⟩ => by
    refine ⟨ε, S, μ, lk, ok, rs, W.up run fun d μ1 run1 x S1 H1 ex1 ok1 rep1 => ?_⟩
    cases d with
    | bl b =>
      cases rep1
      refine ⟨b, rfl, ?_⟩
      cases b with
      | true => exact ⟨ε, S1, μ1, c.up lk ex1, ok1, rs.ex ex1, W.up run1 fun _ _ q => q.ex ex1⟩
      | false => exact run1 _ S1 H1 ex1 ok1 (.bl false)
    | _ => exact run1.elim
theorem de_or (ha : PE X a (lowE X.K dk c fa)) (hb : PE X (.BoolOp .Or (b :: rest) pos) (lowE X.K dk c fb)) : PE X (.BoolOp .Or (a :: b :: rest) pos) (lowE X.K dk c (dOrV fa fb)) :=
  pe_w (pe_or ha hb) fun σ H Q ⟨ε, S, μ, lk, ok, rs, run⟩ => by
    refine ⟨ε, S, μ, lk, ok, rs, W.up run fun d μ1 run1 x S1 H1 ex1 ok1 rep1 => ?_⟩
    cases d with
    | bl b =>
      cases rep1
      refine ⟨b, rfl, ?_⟩
      cases b with
      | false => exact ⟨ε, S1, μ1, c.up lk ex1, ok1, rs.ex ex1, W.up run1 fun _ _ q => q.ex ex1⟩
      | true => exact run1 _ S1 H1 ex1 ok1 (.bl true)
    | _ => exact run1.elim
theorem de_not (ha : PE X a (lowE X.K dk c fa)) : PE X (.UnaryOp .Not a pos) (lowE X.K dk c (dNotV fa)) :=
  pe_w (pe_not ha) fun σ H Q ⟨ε, S, μ, lk, ok, rs, run⟩ => by
    refine ⟨ε, S, μ, lk, ok, rs, W.up run fun d μ1 run1 x S1 H1 ex1 ok1 rep1 => ?_⟩
    cases d with
    | bl b =>
      cases rep1
      exact ⟨b, rfl, run1 _ S1 H1 ex1 ok1 (.bl (!b))⟩
    | _ => exact run1.elim
theorem de_one {op} (h : PE X a (lowE X.K dk c f)) : PE X (.BoolOp op [a] pos) (lowE X.K dk c f) := pe_one h
def dIfE (t : DS → W Bool) (f g : DS → W D) : DS → W D := fun ε => W.bnd (t ε) fun b => if b = true then f ε else g ε
theorem de_if {x : Expr} (hc : PT X x (lowT X.K dk c t)) (ha : PE X a (lowE X.K dk c fa)) (hb : PE X b (lowE X.K dk c fb)) : PE X (.IfExp x a b pos) (lowE X.K dk c (dIfE t fa fb)) :=
  pe_w (pe_ifExp hc ha hb) fun σ H Q ⟨ε, S, μ, lk, ok, rs, run⟩ => by
    refine ⟨ε, S, μ, lk, ok, rs, W.up run fun b μ1 run1 S1 H1 ex1 ok1 => ?_⟩
    cases b with
    | true => exact ⟨ε, S1, μ1, c.up lk ex1, ok1, rs.ex ex1, W.up run1 fun _ _ q => q.ex ex1⟩
    | false => exact ⟨ε, S1, μ1, c.up lk ex1, ok1, rs.ex ex1, W.up run1 fun _ _ q => q.ex ex1⟩

/-! ### arguments, tuples, lists -/
def aNil : DS → W (List D) := fun _ => W.ret []
def aCons (f : DS → W D) (g : DS → W (List D)) : DS → W (List D) := fun ε => W.bnd (f ε) fun d => W.bnd (g ε) fun ds => W.ret (d :: ds)
variable {g : DS → W (List D)}
theorem low_nil {σ : L2.St} {H : Hp} {Q : List V → Hp → Prop} (q : lowA X.K dk c aNil σ H Q) : tNil σ H Q :=
  let ⟨_, S, _, _, ok, _, q⟩ := q
  q [] S H Ex.refl ok .nil
theorem low_cons {σ : L2.St} {H : Hp} {Q : List V → Hp → Prop} (q : lowA X.K dk c (aCons f g) σ H Q) : tCons (lowE X.K dk c f) (lowA X.K dk c g) σ H Q := by
  obtain ⟨ε, S, μ, lk, ok, rs, run⟩ := q
  refine ⟨ε, S, μ, lk, ok, rs, W.up run fun d μ1 run1 x S1 H1 ex1 ok1 rep1 => ?_⟩
  refine ⟨ε, S1, μ1, c.up lk ex1, ok1, rs.ex ex1, W.up run1 fun ds μ2 run2 xs S2 H2 ex2 ok2 rep2 => ?_⟩
  exact run2 (x :: xs) S2 H2 (ex1.trans ex2) ok2 (.cons (rep1.ex ex2) rep2)
theorem da_nil : PA X [] (lowA X.K dk c aNil) := pa_w pa_nil fun _ _ _ q => low_nil q
theorem da_cons (ha : PE X e (lowE X.K dk c f)) (hr : PA X es (lowA X.K dk c g)) (hs : starEach (e :: es) X.env = (false, eval e X.env) :: starEach es X.env := by rfl) : PA X (e :: es) (lowA X.K dk c (aCons f g)) :=
  pa_w (pa_cons ha hr hs) fun _ _ _ q => low_cons q
theorem dk_nil : PK X [] (lowA X.K dk c aNil) := pk_w pk_nil fun _ _ _ q => low_nil q
theorem dk_cons {nm : Option Str} {kpos : Pos} {kws : List Keyword} (ha : PE X e (lowE X.K dk c f)) (hr : PK X kws (lowA X.K dk c g)) : PK X (⟨nm, e, kpos⟩ :: kws) (lowA X.K dk c (aCons f g)) :=
  pk_w (pk_cons ha hr) fun _ _ _ q => low_cons q
def dTup (g : DS → W (List D)) : DS → W D := fun ε => W.bnd (g ε) fun ds => W.chk (ds.length ≤ sizeLine) (W.ret (.tup ds))
def dLst (g : DS → W (List D)) : DS → W D := fun ε => W.bnd (g ε) fun ds => W.chk (ds.length ≤ sizeLine) (W.ret (.lst ds))
theorem de_tup {x1} (h : PA X es (lowA X.K dk c g)) : PE X (.Tuple es x1 pos) (lowE X.K dk c (dTup g)) :=
  pe_w (pe_tup h) fun σ H Q ⟨ε, S, μ, lk, ok, rs, run⟩ => by
    refine ⟨ε, S, μ, lk, ok, rs, W.up run fun ds μ1 run1 xs S1 H1 ex1 ok1 rep1 => ⟨rep1.len ▸ run1.1, fun p hp => ?_⟩⟩
    exact run1.2 (.ref p) S1 _ (ex1.trans (new_ex ok1 hp)) (new_ok ok1 hp) (new_tup ok1 hp rep1)
theorem de_lst (h : PA X es (lowA X.K dk c g)) : PE X (.List es pos) (lowE X.K dk c (dLst g)) :=
  pe_w (pe_lst h) fun σ H Q ⟨ε, S, μ, lk, ok, rs, run⟩ => by
    refine ⟨ε, S, μ, lk, ok, rs, W.up run fun ds μ1 run1 xs S1 H1 ex1 ok1 rep1 => ⟨rep1.len ▸ run1.1, fun p hp => ?_⟩⟩
    exact run1.2 (.ref p) S1 _ (ex1.trans (new_ex ok1 hp)) (new_ok ok1 hp) (new_lst ok1 hp rep1)

/-! ### calls of what the machine brings -/
def dCall (g : List D → W D) (fa : DS → W (List D)) : DS → W D := fun ε => W.bnd (fa ε) g
variable {fs : DS → W (List D)}
theorem low_call {r : List V → Hp → VK → Prop} {g : List D → W D} (l : LRC X.K dk r g) {σ : L2.St} {H : Hp} {Q : VK} (q : lowE X.K dk c (dCall g fs) σ H Q) : tCB r (lowA X.K dk c fs) σ H Q := by
  obtain ⟨ε, S, μ, lk, ok, rs, run⟩ := q
  refine ⟨ε, S, μ, lk, ok, rs, W.up run fun ds μ1 run1 xs S1 H1 ex1 ok1 rep1 => ?_⟩
  exact l ok1 rep1 (W.up run1 fun d μ' q => q.ex ex1)
theorem de_callB {x : Str} {id : String} {r : List V → Hp → VK → Prop} {g : List D → W D} (hc : CallR X (.builtin id) r) (l : LRC X.K dk r g) (hg : Gl X x) (hm : X.mg x = none) (hv : bootBuiltins x = some (.builtin id))
    (ha : PA X (e :: es) (lowA X.K dk c fs)) (hn : x ≠ "__name__" := by decide) (hdb : (x == ("__debug__" : Str)) = false := by decide)
    (he : starEach (e :: es) X.env = (false, eval e X.env) :: starEach es X.env := by rfl) (hpl : (backTo pos (starEach es X.env)).any (·.1) = false := by rfl) :
    PE X (.Call (.Name x p) (e :: es) [] pos) (lowE X.K dk c (dCall g fs)) := pe_w (pe_callB hc hg hm hv ha hn hdb he hpl) fun _ _ _ q => low_call l q
theorem de_callTy {x : Str} {T : String} {r : List V → Hp → VK → Prop} {g : List D → W D} (hc : CallR X (.type T) r) (l : LRC X.K dk r g) (hg : Gl X x) (hm : X.mg x = none) (hv : bootBuiltins x = some (.type T))
    (ha : PA X (e :: es) (lowA X.K dk c fs)) (hn : x ≠ "__name__" := by decide) (hdb : (x == ("__debug__" : Str)) = false := by decide)
    (he : starEach (e :: es) X.env = (false, eval e X.env) :: starEach es X.env := by rfl) (hpl : (backTo pos (starEach es X.env)).any (·.1) = false := by rfl) :
    PE X (.Call (.Name x p) (e :: es) [] pos) (lowE X.K dk c (dCall g fs)) := pe_w (pe_callTy hc hg hm hv ha hn hdb he hpl) fun _ _ _ q => low_call l q
end
end DL

namespace DL
open PySem PySem.Spec PyProof.Rows L2 Kit

/-! ### statements -/
def sNx (ε : DS) : W Fl := W.ret (.nx ε)
def sSet (i : Nat) (f : DS → W D) : DS → W Fl := fun ε => W.bnd (f ε) fun d => W.ret (.nx (ε.set i (some d)))
def sRet (f : DS → W D) : DS → W Fl := fun ε => W.bnd (f ε) fun d => W.ret (.rt d)
def sRetN : DS → W Fl := fun _ => W.ret (.rt .non)
def sExpr (f : DS → W D) : DS → W Fl := fun ε => W.bnd (f ε) fun _ => W.ret (.nx ε)
def sNil : DS → W Fl := fun ε => W.ret (.nx ε)
def sBrk : DS → W Fl := fun ε => W.ret (.bk ε)
def sCt : DS → W Fl := fun ε => W.ret (.ct ε)
def sNever : DS → W Fl := fun _ => W.fail
def andThen (g : DS → W Fl) : Fl → W Fl
  | .nx ε => g ε
  | x => W.ret x
def sSeq (f g : DS → W Fl) : DS → W Fl := fun ε => W.bnd (f ε) (andThen g)
def sIf (t : DS → W Bool) (f g : DS → W Fl) : DS → W Fl := fun ε => W.bnd (t ε) fun b => if b = true then f ε else g ε
/-- a target's reading, by data -/
def LG (K : PySem.W.Frag) (g : TG) (vs : List Nat) (dg : D → DS → Option DS) : Prop := ∀ {v : V} {d : D} {ε ε' : DS} {σ : L2.St} {S : Pl} {μ : Mu} {H : Hp} {Q : L2.St → Hp → Prop},
  Rep K S μ H d v → RS K S μ H ε σ → dg d ε = some ε' → (∀ σ', RS K S μ H ε' σ' → wipe σ' vs = wipe σ vs → Q σ' H) → g v σ H Q
def LGs (K : PySem.W.Frag) (g : TGs) (vs : List Nat) (dg : List D → DS → Option DS) : Prop := ∀ {xs : List V} {ds : List D} {ε ε' : DS} {σ : L2.St} {S : Pl} {μ : Mu} {H : Hp} {Q : L2.St → Hp → Prop},
  RepA K S μ H ds xs → RS K S μ H ε σ → dg ds ε = some ε' → (∀ σ', RS K S μ H ε' σ' → wipe σ' vs = wipe σ vs → Q σ' H) → g xs σ H Q
theorem wipe_get {σ : L2.St} : ∀ {vs : List Nat} {i : Nat}, (wipe σ vs)[i]? = if i ∈ vs ∧ i < σ.length then some none else σ[i]?
  | [], i => by simp [wipe]
  | v :: vs, i => by
    unfold wipe
    have ih := @wipe_get σ vs i
    by_cases hv : v = i
    · subst hv
      by_cases hl : v < σ.length
      · rw [List.getElem?_set_self (by rw [wipe_length]; exact hl), if_pos ⟨List.mem_cons_self, hl⟩]
      · rw [List.getElem?_eq_none (by rw [List.length_set, wipe_length]; omega), if_neg (fun h => hl h.2), List.getElem?_eq_none (by omega)]
    · rw [List.getElem?_set_ne hv, ih]
      have e : (i ∈ v :: vs) = (i ∈ vs) := by
        rw [List.mem_cons]
        exact propext ⟨fun h => h.resolve_left (fun z => hv z.symm), .inr⟩
      simp only [e]
theorem wipe_eq {σ τ : L2.St} {vs : List Nat} (hl : σ.length = τ.length) (h : ∀ i, i ∉ vs → σ[i]? = τ[i]?) : wipe σ vs = wipe τ vs := by
  refine List.ext_getElem? fun i => ?_
  rw [wipe_get, wipe_get, hl]
  by_cases hi : i ∈ vs
  · by_cases hj : i < τ.length
    · rw [if_pos ⟨hi, hj⟩, if_pos ⟨hi, hj⟩]
    · rw [if_neg (fun z => hj z.2), if_neg (fun z => hj z.2), List.getElem?_eq_none (by omega), List.getElem?_eq_none (by omega)]
  · rw [if_neg (fun z => hi z.1), if_neg (fun z => hi z.1), h i hi]
theorem wipe_set {σ : L2.St} {vs : List Nat} {i : Nat} {x : Option V} (h : i ∈ vs) : wipe (σ.set i x) vs = wipe σ vs := by
  refine wipe_eq (by rw [List.length_set]) fun j hj => ?_
  rw [List.getElem?_set_ne]
  rintro rfl
  exact hj h
def gN (i : Nat) : D → DS → Option DS := fun d ε => some (ε.set i (some d))
theorem lg_name {K : PySem.W.Frag} {i : Nat} {vs : List Nat} (h : i ∈ vs) : LG K (gName i) vs (gN i) := fun {_ _ _ _ _ _ _ _ _} r rs e q => by
  cases e
  exact q _ (rs.set i r) (wipe_set h)
def gNl : List D → DS → Option DS
  | [], ε => some ε
  | _ :: _, _ => none
def gCn (g : D → DS → Option DS) (r : List D → DS → Option DS) : List D → DS → Option DS
  | d :: ds, ε => (g d ε).bind fun ε' => r ds ε'
  | [], _ => none
def gTp (n : Nat) (r : List D → DS → Option DS) : D → DS → Option DS
  | .tup ds, ε => if ds.length = n then r ds ε else none
  | _, _ => none
theorem lg_nil {K : PySem.W.Frag} {vs : List Nat} : LGs K gNil vs gNl := fun {xs ds _ _ _ _ _ _ _} r rs e q => by
  cases r with
  | nil =>
    cases e
    exact ⟨rfl, q _ rs rfl⟩
  | cons _ _ => cases e
theorem lg_cons {K : PySem.W.Frag} {vs : List Nat} {g : TG} {gs : TGs} {dg : D → DS → Option DS} {dr : List D → DS → Option DS} (h1 : LG K g vs dg) (h2 : LGs K gs vs dr) : LGs K (gCons g gs) vs (gCn dg dr) := fun {xs ds ε ε' σ S μ H Q} r rs e q => by
  cases r with
  | nil => cases e
  | @cons d v ds vs h t =>
    refine ⟨v, vs, rfl, ?_⟩
    have e : (dg d ε).bind _ = some ε' := e
    cases hd : dg d ε with
    | none => rw [hd] at e; cases e
    | some ε1 =>
      rw [hd] at e
      exact h1 h rs hd fun σ1 r1 w1 => h2 t r1 e fun σ2 r2 w2 => q σ2 r2 (w2.trans w1)
theorem lg_tup {K : PySem.W.Frag} {vs : List Nat} {gs : TGs} {n : Nat} {dr : List D → DS → Option DS} (h2 : LGs K gs vs dr) : LG K (gTup K n gs) vs (gTp n dr) := fun {v d ε ε' σ S μ H Q} r rs e q => by
  cases r with
  | @tup ds a xs h r =>
    have e : (if ds.length = n then dr ds ε else none) = some ε' := e
    by_cases hn : ds.length = n
    · rw [if_pos hn] at e
      exact ⟨a, xs, rfl, h.sq, r.len ▸ hn, h2 r rs e q⟩
    · rw [if_neg hn] at e
      cases e
  | _ => cases e
section
variable {X : Cx} {dk : DK} {c : LC X.K dk} {e : Expr} {st : Stmt} {rest : List Stmt} {f g : DS → W Fl} {fe : DS → W D} {t : DS → W Bool} {pos : Pos}
theorem ds_set {i : Nat} {x : Str} {pos' : Pos} (hN : X.N.Nodup) (hi : X.N[i]? = some x) (hx : Loc X.env.scope x) (he : PE X e (lowE X.K dk c fe)) (hs : swapsWith e (some (.Name x pos')) pos.line X.env = pure false := by rfl)
    (hf : X.fn x = true ∨ X.env.scope.names.lookup x = some .local := by first | exact .inl rfl | exact .inr rfl | assumption) :
    PS X (.Assign [.Name x pos'] e pos) (lowS X.K dk c (sSet i fe)) := ps_w (ps_set hN hi hx he hs hf) fun Dn σ H ⟨ε, S, μ, lk, ok, rs, run⟩ =>
  ⟨ε, S, μ, lk, ok, rs, W.up run fun d μ1 run1 v S1 H1 ex1 ok1 rep1 => run1 _ S1 H1 ex1 ok1 ((rs.ex ex1).set i rep1)⟩
theorem ds_ret (he : PE X e (lowE X.K dk c fe)) : PS X (.Return (some e) pos) (lowS X.K dk c (sRet fe)) := ps_w (ps_ret he) fun Dn σ H ⟨ε, S, μ, lk, ok, rs, run⟩ =>
  ⟨ε, S, μ, lk, ok, rs, W.up run fun d μ1 run1 v S1 H1 ex1 ok1 rep1 => run1 v S1 H1 ex1 ok1 rep1⟩
theorem ds_retN : PS X (.Return none pos) (lowS X.K dk c sRetN) := ps_w ps_retN fun Dn σ H ⟨ε, S, μ, lk, ok, rs, run⟩ => run .non S H Ex.refl ok .non
theorem ds_expr (he : PE X e (lowE X.K dk c fe)) (hs : swapsWith e none pos.line X.env = pure false := by rfl) : PS X (.Expr e pos) (lowS X.K dk c (sExpr fe)) := ps_w (ps_expr he hs) fun Dn σ H ⟨ε, S, μ, lk, ok, rs, run⟩ =>
  ⟨ε, S, μ, lk, ok, rs, W.up run fun d μ1 run1 v S1 H1 ex1 ok1 rep1 => run1 σ S1 H1 ex1 ok1 (rs.ex ex1)⟩
theorem dss_nil : PSs X [] (lowS X.K dk c sNil) := pss_w pss_nil fun Dn σ H ⟨ε, S, μ, lk, ok, rs, run⟩ => run σ S H Ex.refl ok rs
theorem ds_never : PS X st (lowS X.K dk c sNever) := ps_w ps_never fun Dn σ H ⟨_, _, _, _, _, _, run⟩ => run.elim
theorem ds_break : PS X (.Break pos) (lowS X.K dk c sBrk) := ps_w ps_break fun Dn σ H ⟨ε, S, μ, lk, ok, rs, run⟩ => run σ S H Ex.refl ok rs
theorem ds_cont : PS X (.Continue pos) (lowS X.K dk c sCt) := ps_w ps_continue fun Dn σ H ⟨ε, S, μ, lk, ok, rs, run⟩ => run σ S H Ex.refl ok rs
theorem dss_one (h1 : PS X st (lowS X.K dk c f)) : PSs X [st] (lowS X.K dk c f) := pss_one h1
theorem dss_cons (h1 : PS X st (lowS X.K dk c f)) (h2 : PSs X rest (lowS X.K dk c g)) : PSs X (st :: rest) (lowS X.K dk c (sSeq f g)) := pss_w (pss_cons h1 h2) fun Dn σ H ⟨ε, S, μ, lk, ok, rs, run⟩ => by
  refine ⟨ε, S, μ, lk, ok, rs, W.up run fun fl μ1 run1 => ?_⟩
  cases fl with
  | nx ε' => exact fun σ' S1 H1 ex1 ok1 rs1 => ⟨ε', S1, μ1, c.up lk ex1, ok1, rs1, W.up run1 fun _ _ q => q.ex ex1⟩
  | rt d => exact run1
  | bk ε' => exact run1
  | ct ε' => exact run1
theorem ds_if {x : Expr} {a b : List Stmt} (hc : PT X x (lowT X.K dk c t)) (ha : PSs X a (lowS X.K dk c f)) (hb : PSs X b (lowS X.K dk c g)) : PS X (.If x a b pos) (lowS X.K dk c (sIf t f g)) :=
  ps_w (ps_if hc ha hb) fun Dn σ H ⟨ε, S, μ, lk, ok, rs, run⟩ => by
    refine ⟨ε, S, μ, lk, ok, rs, W.up run fun b μ1 run1 S1 H1 ex1 ok1 => ?_⟩
    cases b with
    | true => exact ⟨ε, S1, μ1, c.up lk ex1, ok1, rs.ex ex1, W.up run1 fun _ _ q => q.ex ex1⟩
    | false => exact ⟨ε, S1, μ1, c.up lk ex1, ok1, rs.ex ex1, W.up run1 fun _ _ q => q.ex ex1⟩
/-- a target that is a tuple of names -/
def sAsg (dg : D → DS → Option DS) (fe : DS → W D) : DS → W Fl := fun ε => W.bnd (fe ε) fun d => W.bnd (W.opt (dg d ε)) fun ε' => W.ret (.nx ε')
theorem ds_asg {tg : Expr} {gg : TG} {vs : List Nat} {dg : D → DS → Option DS} (he : PE X e (lowE X.K dk c fe)) (hg : PG X tg gg) (lg : LG X.K gg vs dg) (hs : swapsWithSole [tg] e pos.line X.env = pure false := by rfl) (hw : swappedStores [tg] e X.env = pure none := by rfl)
    (h1 : (assignEach [tg] X.env).map (·.2) = [assign tg X.env] := by rfl) : PS X (.Assign [tg] e pos) (lowS X.K dk c (sAsg dg fe)) := ps_w (ps_asg he hg hs hw h1) fun Dn σ H ⟨ε, S, μ, lk, ok, rs, run⟩ => by
  refine ⟨ε, S, μ, lk, ok, rs, W.up run fun d μ1 run1 v S1 H1 ex1 ok1 rep1 => ?_⟩
  cases hd : dg d ε with
  | none =>
    have run1 : (W.bnd (W.opt (dg d ε)) fun ε' => W.ret (Fl.nx ε')).run (PostS X.K dk S μ H Dn) c.E μ1 := run1
    rw [hd] at run1
    exact run1.elim
  | some ε' =>
    have run1 : (W.bnd (W.opt (dg d ε)) fun ε' => W.ret (Fl.nx ε')).run (PostS X.K dk S μ H Dn) c.E μ1 := run1
    rw [hd] at run1
    exact lg rep1 (rs.ex ex1) hd fun σ' r _ => run1 σ' S1 H1 ex1 ok1 r
/-- a, b = x, y -/
def two (i j : Nat) (ε : DS) : List D → W Fl
  | [x, y] => W.ret (.nx ((ε.set i (some x)).set j (some y)))
  | _ => W.fail
def sPar (i j : Nat) (fa : DS → W (List D)) : DS → W Fl := fun ε => W.bnd (fa ε) (two i j ε)
theorem ds_par {i j : Nat} {x y : Str} {a b : Expr} {fa : DS → W (List D)} {px py pt : Pos} {kt k2 pt2} (hc : X.calm = true) (hN : X.N.Nodup) (hi : X.N[i]? = some x) (hj : X.N[j]? = some y) (hij : i ≠ j)
    (hx : X.env.scope.names.lookup x = some .local) (hy : X.env.scope.names.lookup y = some .local) (ha : PA X [a, b] (lowA X.K dk c fa))
    (hw : swappedStores [.Tuple [.Name x px, .Name y py] kt pt] (.Tuple [a, b] k2 pt2) X.env = pure (some [x, y]))
    (hs : swapsWithSole [.Tuple [.Name x px, .Name y py] kt pt] (.Tuple [a, b] k2 pt2) pos.line X.env = pure false := by rfl) :
    PS X (.Assign [.Tuple [.Name x px, .Name y py] kt pt] (.Tuple [a, b] k2 pt2) pos) (lowS X.K dk c (sPar i j fa)) := ps_w (ps_par hc hN hi hj hij hx hy ha hw hs) fun Dn σ H ⟨ε, S, μ, lk, ok, rs, run⟩ => by
  refine ⟨ε, S, μ, lk, ok, rs, W.up run fun ds μ1 run1 xs S1 H1 ex1 ok1 rep1 => ?_⟩
  cases rep1 with
  | nil => exact run1.elim
  | cons h1 t1 =>
    cases t1 with
    | nil => exact run1.elim
    | cons h2 t2 =>
      cases t2 with
      | nil => exact ⟨_, _, rfl, run1 _ S1 H1 ex1 ok1 (((rs.ex ex1).set i h1).set j h2)⟩
      | cons _ _ => exact run1.elim
/-- x op= e -/
def sAug (i : Nat) (g : D → D → W D) (fe : DS → W D) : DS → W Fl := fun ε => W.bnd (W.opt (slot ε i)) fun x => W.bnd (fe ε) fun y => W.bnd (g x y) fun z => W.ret (.nx (ε.set i (some z)))
theorem ds_aug {i : Nat} {x : Str} {op : Operator} {ti : TIp} {gd : D → D → W D} {pos' : Pos} (hN : X.N.Nodup) (hi : X.N[i]? = some x) (hx : Loc X.env.scope x) (he : PE X e (lowE X.K dk c fe)) (ho : PIp X op ti) (l : LR2 X.K dk ti gd)
    (hf : X.fn x = true ∨ X.env.scope.names.lookup x = some .local := by first | exact .inl rfl | exact .inr rfl | assumption) :
    PS X (.AugAssign (.Name x pos') op e pos) (lowS X.K dk c (sAug i gd fe)) := ps_w (ps_aug hN hi hx he ho hf) fun Dn σ H ⟨ε, S, μ, lk, ok, rs, run⟩ => by
  have run : ((W.opt (slot ε i)).bnd fun x => W.bnd (fe ε) fun y => W.bnd (gd x y) fun z => W.ret (Fl.nx (ε.set i (some z)))).run (PostS X.K dk S μ H Dn) c.E μ := run
  cases hs : slot ε i with
  | none => rw [hs] at run; exact run.elim
  | some d =>
    rw [hs] at run
    obtain ⟨v, h1, h2⟩ := rs.at_ i d (slot_eq hs)
    refine ⟨v, h1, ε, S, μ, lk, ok, rs, W.up (m := fe ε) run fun dy μ1 run1 y S1 H1 ex1 ok1 rep1 => ?_⟩
    exact l ok1 (h2.ex ex1) rep1 (W.up run1 fun z μ2 q v2 S2 H2 ex2 ok2 rep2 => q _ S2 H2 (ex1.trans ex2) ok2 (((rs.ex ex1).ex ex2).set i rep2))
end

/-! ### what is walked -/
/-- the items, and what must stay of the store meanwhile -/
structure Itm where
  xs : List D
  inv : Mu → Prop
abbrev itm (xs : List D) : Itm := ⟨xs, fun _ => True⟩
structure ItD (K : PySem.W.Frag) (dk : DK) (J : L2.It) (S : Pl) (μ : Mu) (H : Hp) (t : Itm) : Prop where
  go : ∀ {i : Nat} {S' μ' H'}, Ux S μ H S' μ' H' → Ok K dk.p S' μ' H' → t.inv μ' → i < t.xs.length → J.go i H'
  stop : ∀ {i : Nat} {S' μ' H'}, Ux S μ H S' μ' H' → Ok K dk.p S' μ' H' → t.inv μ' → i = t.xs.length → J.stop i H'
  yld : ∀ {i : Nat} {S' μ' H' d x H''}, Ux S μ H S' μ' H' → Ok K dk.p S' μ' H' → t.inv μ' → t.xs[i]? = some d → J.yld i H' x H'' → Ex S' μ' H' S' μ' H'' ∧ Ok K dk.p S' μ' H'' ∧ Rep K S' μ' H'' d x
def lowI (K : PySem.W.Frag) (dk : DK) (c : LC K dk) (f : DS → W Itm) : TI := fun σ H R => ∃ ε S μ, c.lk S μ H ∧ Ok K dk.p S μ H ∧ RS K S μ H ε σ ∧
  (f ε).run (fun t μ' => ∀ J S' H', Ex S μ H S' μ' H' → Ok K dk.p S' μ' H' → ItD K dk J S' μ' H' t → R J H') c.E μ
section
variable {X : Cx} {dk : DK} {c : LC X.K dk} {tg iter : Expr} {fi : DS → W Itm}
theorem pi_w {wi : TI} (h : PI X tg iter wi) (w : ∀ σ H R, lowI X.K dk c fi σ H R → wi σ H R) : PI X tg iter (lowI X.K dk c fi) := ⟨fun pins s σ H R I q => h.run pins s σ H R I (w σ H R q)⟩
/-- the items of a tuple, a list, a text -/
def sgD (z : Str) : List D := z.cps.toList.map fun k => .str ⟨#[k]⟩
def itsOf (μ : Mu) : D → Option Itm
  | .tup xs => some (itm xs)
  | .ktp xs => some (itm xs)
  | .lst xs => some (itm xs)
  | .str z => some (itm (sgD z))
  | .ref n => match μ[n]? with
    | some (.lst xs) => some ⟨xs, fun μ => μ[n]? = some (.lst xs)⟩
    | _ => none
  | _ => none
def its (d : D) : W Itm := W.rd fun μ => W.opt (itsOf μ d)
def iOf {α : Type} (g : α → W Itm) (f : DS → W α) : DS → W Itm := fun ε => W.bnd (f ε) g
theorem itd_tup {K : PySem.W.Frag} {dk : DK} {S : Pl} {μ : Mu} {H : Hp} {a : Addr} {xs : List D} {vs : List V} (h : ∀ {S' μ' H'}, Ux S μ H S' μ' H' → SqT K H' a vs) (r : RepA K S μ H xs vs) : ItD K dk (Itt K a) S μ H (itm xs) where
  go := fun ex _ _ hi => ⟨vs, vs[_]'(r.len ▸ hi), h ex, List.getElem?_eq_getElem _⟩
  stop := fun ex _ _ hi => ⟨vs, h ex, r.len ▸ Nat.le_of_eq hi.symm⟩
  yld := fun ex ok _ hd hy => by
    obtain ⟨rfl, hy⟩ := hy
    obtain ⟨v, h1, h2⟩ := (r.ux ex).get hd
    have := hy vs (h ex)
    rw [h1] at this
    cases this
    exact ⟨Ex.refl, ok, h2⟩
theorem itd_lst {K : PySem.W.Frag} {dk : DK} {S : Pl} {μ : Mu} {H : Hp} {a : Addr} {xs : List D} {vs : List V} (h : FrL S μ H a vs) (r : RepA K S μ H xs vs) : ItD K dk (Itl K a) S μ H (itm xs) where
  go := fun ex _ _ hi => ⟨vs, vs[_]'(r.len ▸ hi), (h.ux ex).sq, List.getElem?_eq_getElem _⟩
  stop := fun ex _ _ hi => ⟨vs, (h.ux ex).sq, r.len ▸ Nat.le_of_eq hi.symm⟩
  yld := fun ex ok _ hd hy => by
    obtain ⟨rfl, hy⟩ := hy
    obtain ⟨v, h1, h2⟩ := (r.ux ex).get hd
    have := hy vs (h.ux ex).sq
    rw [h1] at this
    cases this
    exact ⟨Ex.refl, ok, h2⟩
theorem itd_ref {K : PySem.W.Frag} {dk : DK} {S : Pl} {μ : Mu} {H : Hp} {a : Addr} {n : Nat} {xs : List D} (h : S.L[n]? = some a) : ItD K dk (Itl K a) S μ H ⟨xs, fun μ => μ[n]? = some (.lst xs)⟩ where
  go := fun {i S' μ' H'} ex ok hm hi => by
    obtain ⟨vs, h1, h2⟩ := ok.at_ n _ a hm (ex.at h)
    exact ⟨vs, vs[i]'(h2.len ▸ hi), .inl (.inl h1), List.getElem?_eq_getElem _⟩
  stop := fun {i S' μ' H'} ex ok hm hi => by
    obtain ⟨vs, h1, h2⟩ := ok.at_ n _ a hm (ex.at h)
    exact ⟨vs, .inl (.inl h1), h2.len ▸ Nat.le_of_eq hi.symm⟩
  yld := fun {i S' μ' H' d x H''} ex ok hm hd hy => by
    obtain ⟨vs, h1, h2⟩ := ok.at_ n _ a hm (ex.at h)
    obtain ⟨rfl, hy⟩ := hy
    obtain ⟨v, h3, h4⟩ := h2.get hd
    have := hy vs (.inl (.inl h1))
    rw [h3] at this
    cases this
    exact ⟨Ex.refl, ok, h4⟩
theorem itd_str {K : PySem.W.Frag} {dk : DK} {S : Pl} {μ : Mu} {H : Hp} {z : Str} : ItD K dk (Its z) S μ H (itm (sgD z)) where
  go := fun _ _ _ hi => by
    have hi : _ < (z.cps.toList.map _).length := hi
    rw [List.length_map, Array.length_toList] at hi
    exact hi
  stop := fun _ _ _ hi => by
    have hi : _ = (z.cps.toList.map _).length := hi
    rw [List.length_map, Array.length_toList] at hi
    exact Nat.le_of_eq hi.symm
  yld := fun {i S' μ' H' d x H''} _ ok _ hd hy => by
    obtain ⟨rfl, k, h1, rfl⟩ := hy
    have hd : (z.cps.toList.map fun k => D.str ⟨#[k]⟩)[i]? = some d := hd
    rw [List.getElem?_map, Array.getElem?_toList, h1] at hd
    cases hd
    exact ⟨Ex.refl, ok, .str _⟩
theorem pi_seq {l : Expr} {tl : TE} (hl : PE X l tl) : PI X tg l (fun σ H R => tl σ H fun x H1 => (∃ a, x = .ref a ∧ (∃ xs, SqL X.K H1 a xs) ∧ R (Itl X.K a) H1) ∨ (∃ a, x = .ref a ∧ (∃ xs, SqT X.K H1 a xs) ∧ R (Itt X.K a) H1) ∨ ∃ z, x = .str z ∧ R (Its z) H1) := by
  refine ⟨fun pins s σ H R I h => ?_⟩
  refine thn (hl.run pins s σ H _ I h) fun v s1 ⟨x, H1, I1, r1, q1⟩ => ?_
  rcases q1 with ⟨a, e, ⟨xs, hq⟩, q⟩ | ⟨a, e, ⟨xs, hq⟩, q⟩ | ⟨z, e, q⟩
  · subst e
    cases r1
    obtain ⟨its, rv, p, hz⟩ := I1.list hq
    refine wpAny_pyIter_list p.isList ?_
    refine ⟨s1.heap.objs.size, [s1.heap.objs.size], _, _, H1, rfl, I1.kept (t' := s1.toks) fun b o e => Heap.get?_push_of_some _ e, turn_list a _, ⟨_, Heap.get?_push_size _ rfl, rfl, rfl⟩, fun b hb => ?_, q⟩
    have e : b = s1.heap.objs.size := by simpa using hb
    subst e
    exact I1.fpOk (Nat.le_refl _) (I1.hok.fresh (Nat.le_refl _))
  · subst e
    cases r1
    obtain ⟨its, rv, p, hz⟩ := I1.tuple hq
    refine wpAny_pyIter_tuple (show s1.heap.IsTuple a its.toArray from p) ?_
    refine ⟨s1.heap.objs.size, [s1.heap.objs.size], _, _, H1, rfl, I1.kept (t' := s1.toks) fun b o e => Heap.get?_push_of_some _ e, turn_tuple a _, ⟨_, Heap.get?_push_size _ rfl, rfl, rfl⟩, fun b hb => ?_, q⟩
    have e : b = s1.heap.objs.size := by simpa using hb
    subst e
    exact I1.fpOk (Nat.le_refl _) (I1.hok.fresh (Nat.le_refl _))
  · subst e
    obtain ⟨t, rfl⟩ := r1
    cases ha : z.cps.all (· < 128)
    · exact wpAny_pyIter_wide ha (pi_one (tk := s1.toks) I1 _ (turn_str _ z t "str_iterator" (.inr rfl)) ⟨_, Heap.get?_push_size _ rfl, rfl, rfl⟩ q)
    · exact wpAny_pyIter_ascii ha (pi_one (tk := s1.toks) I1 _ (turn_str _ z t "str_ascii_iterator" (.inl rfl)) ⟨_, Heap.get?_push_size _ rfl, rfl, rfl⟩ q)
theorem di_seq {l : Expr} {f : DS → W D} (hl : PE X l (lowE X.K dk c f)) : PI X tg l (lowI X.K dk c (iOf its f)) := pi_w (pi_seq hl) fun σ H R ⟨ε, S, μ, lk, ok, rs, run⟩ => by
  refine ⟨ε, S, μ, lk, ok, rs, W.up run fun d μ1 run1 v S1 H1 ex1 ok1 rep1 => ?_⟩
  have run1 : (W.opt (itsOf μ1 d)).run _ c.E μ1 := run1
  cases rep1 with
  | @tup xs a vs h r => exact .inr (.inl ⟨a, rfl, ⟨vs, h.sq⟩, run1 _ S1 H1 ex1 ok1 (itd_tup (fun x => (h.ux x).sq) r)⟩)
  | @ktp xs a vs h r => exact .inr (.inl ⟨a, rfl, ⟨vs, kt_sq h⟩, run1 _ S1 H1 ex1 ok1 (itd_tup (fun _ => kt_sq h) r)⟩)
  | @lst xs a vs h r => exact .inl ⟨a, rfl, ⟨vs, .inl (.inl h.1)⟩, run1 _ S1 H1 ex1 ok1 (itd_lst h r)⟩
  | str z => exact .inr (.inr ⟨z, rfl, run1 _ S1 H1 ex1 ok1 itd_str⟩)
  | @ref n a h =>
    cases hm : μ1[n]? with
    | none =>
      have e : itsOf μ1 (.ref n) = none := by
        show (match μ1[n]? with
          | some (.lst xs) => some (Itm.mk xs fun μ => μ[n]? = some (MO.lst xs))
          | _ => none) = none
        rw [hm]
      rw [e] at run1
      exact run1.elim
    | some m =>
      cases m with
      | lst xs =>
        have e : itsOf μ1 (.ref n) = some ⟨xs, fun μ => μ[n]? = some (MO.lst xs)⟩ := by
          show (match μ1[n]? with
            | some (.lst xs) => some (Itm.mk xs fun μ => μ[n]? = some (MO.lst xs))
            | _ => none) = _
          rw [hm]
        rw [e] at run1
        obtain ⟨vs, h1, h2⟩ := ok1.at_ n _ a hm h
        exact .inl ⟨a, rfl, ⟨vs, .inl (.inl h1)⟩, run1 _ S1 H1 ex1 ok1 (itd_ref h)⟩
      | _ =>
        have e : itsOf μ1 (.ref n) = none := by
          show (match μ1[n]? with
            | some (.lst xs) => some (Itm.mk xs fun μ => μ[n]? = some (MO.lst xs))
            | _ => none) = none
          rw [hm]
        rw [e] at run1
        exact run1.elim
  | _ => exact run1.elim
def rngD (lo : Int) (n : Nat) : List D := (List.range n).map fun i => .int (lo + (i : Nat))
theorem itd_rng {K : PySem.W.Frag} {dk : DK} {S : Pl} {μ : Mu} {H : Hp} {lo : Int} {n : Nat} : ItD K dk (Itr lo n) S μ H (itm (rngD lo n)) where
  go := fun _ _ _ hi => by
    have hi : _ < ((List.range n).map _).length := hi
    rw [List.length_map, List.length_range] at hi
    exact hi
  stop := fun _ _ _ hi => by
    have hi : _ = ((List.range n).map _).length := hi
    rw [List.length_map, List.length_range] at hi
    exact Nat.le_of_eq hi.symm
  yld := fun {i S' μ' H' d x H''} _ ok _ hd hy => by
    obtain ⟨rfl, rfl⟩ := hy
    have hd : ((List.range n).map fun i => D.int (lo + (i : Nat)))[i]? = some d := hd
    rw [List.getElem?_map] at hd
    by_cases hi : i < n
    · rw [List.getElem?_range hi] at hd
      cases hd
      exact ⟨Ex.refl, ok, .int _⟩
    · rw [List.getElem?_eq_none (by rw [List.length_range]; omega)] at hd
      cases hd
def rng1 : List D → W Itm
  | [.int j] => W.chk (-(2 ^ 62) ≤ j ∧ j < 2 ^ 62) (W.ret (itm (rngD 0 j.toNat)))
  | _ => W.fail
def rng2 : List D → W Itm
  | [.int i, .int j] => W.chk (-(2 ^ 62) ≤ i ∧ i < 2 ^ 62 ∧ -(2 ^ 62) ≤ j ∧ j < 2 ^ 62) (W.ret (itm (rngD i (j - i).toNat)))
  | _ => W.fail
variable {fs : DS → W (List D)}
theorem di_range1 {a : Expr} {p pos : Pos} (hg : Gl X "range") (hm : X.mg "range" = none) (ha : PA X [a] (lowA X.K dk c fs)) (hs : starEach [a] X.env = [(false, eval a X.env)] := by rfl) : PI X tg (.Call (.Name "range" p) [a] [] pos) (lowI X.K dk c (iOf rng1 fs)) :=
  pi_w (pi_range1 hg hm ha hs) fun σ H R ⟨ε, S, μ, lk, ok, rs, run⟩ => by
    refine ⟨ε, S, μ, lk, ok, rs, W.up run fun ds μ1 run1 xs S1 H1 ex1 ok1 rep1 => ?_⟩
    unfold rng1 at run1
    split at run1
    · cases rep1 with
      | cons h t =>
        cases h
        cases t
        exact ⟨_, rfl, run1.1.1, run1.1.2, run1.2 _ S1 H1 ex1 ok1 itd_rng⟩
    · exact run1.elim
theorem di_range2 {a b : Expr} {p pos : Pos} (hg : Gl X "range") (hm : X.mg "range" = none) (ha : PA X [a, b] (lowA X.K dk c fs)) (hs : starEach [a, b] X.env = [(false, eval a X.env), (false, eval b X.env)] := by rfl) (hs2 : starEach [b] X.env = [(false, eval b X.env)] := by rfl) :
    PI X tg (.Call (.Name "range" p) [a, b] [] pos) (lowI X.K dk c (iOf rng2 fs)) :=
  pi_w (pi_range2 hg hm ha hs hs2) fun σ H R ⟨ε, S, μ, lk, ok, rs, run⟩ => by
    refine ⟨ε, S, μ, lk, ok, rs, W.up run fun ds μ1 run1 xs S1 H1 ex1 ok1 rep1 => ?_⟩
    unfold rng2 at run1
    split at run1
    · cases rep1 with
      | cons h t =>
        cases h
        cases t with
        | cons h t =>
          cases h
          cases t
          exact ⟨_, _, rfl, run1.1, run1.2 _ S1 H1 ex1 ok1 itd_rng⟩
    · exact run1.elim
end

/-! ### for -/
def gd {α : Type} (p : Mu → Prop) (m : W α) : W α := W.rd fun μ => W.chk (p μ) m
theorem run_gd {α : Type} {p : Mu → Prop} {m : W α} {Q : α → Mu → Prop} {E : Exn → Mu → Prop} {μ : Mu} : (gd p m).run Q E μ = (p μ ∧ m.run Q E μ) := rfl
def forStep (again : DS → W Fl) : Fl → W Fl
  | .nx ε => again ε
  | .ct ε => again ε
  | .bk ε => W.ret (.nx ε)
  | .rt d => W.ret (.rt d)
def forW (dg : D → DS → Option DS) (fb : DS → W Fl) (p : Mu → Prop) : List D → DS → W Fl
  | [], ε => gd p (W.ret (.nx ε))
  | d :: ds, ε => gd p (W.bnd (W.opt (dg d ε)) fun ε1 => W.bnd (fb ε1) (forStep (forW dg fb p ds)))
def sFor (fi : DS → W Itm) (dg : D → DS → Option DS) (fb : DS → W Fl) : DS → W Fl := fun ε => W.bnd (fi ε) fun t => forW dg fb t.inv t.xs ε
section
variable {X : Cx} {dk : DK} {c : LC X.K dk} {tg iter : Expr} {fi : DS → W Itm} {fb : DS → W Fl} {gg : TG} {vs : List Nat} {dg : D → DS → Option DS} {body : List Stmt} {pos : Pos}
theorem low_for (lg : LG X.K gg vs dg) {Dn : Ends} {σ : L2.St} {H : Hp} (q : lowS X.K dk c (sFor fi dg fb) Dn σ H) : tFor (lowI X.K dk c fi) gg (lowS X.K dk c fb) Dn σ H := by
  obtain ⟨ε, S, μ, lk, ok, rs, run⟩ := q
  refine ⟨ε, S, μ, lk, ok, rs, W.up run fun t μ1 run1 J S1 H1 ex1 ok1 itd => ?_⟩
  obtain ⟨xs, inv⟩ := t
  refine ⟨fun i m σ H => m = xs.length - i ∧ i ≤ xs.length ∧ ∃ ε2 S2 μ2, c.lk S2 μ2 H ∧ Ex S1 μ1 H1 S2 μ2 H ∧ Ok X.K dk.p S2 μ2 H ∧ RS X.K S2 μ2 H ε2 σ ∧ (forW dg fb inv (xs.drop i) ε2).run (PostS X.K dk S2 μ2 H Dn) c.E μ2, ?_, ?_⟩
  · exact ⟨xs.length, (Nat.sub_zero _).symm, Nat.zero_le _, ε, S1, μ1, c.up lk ex1, Ex.refl, ok1, rs.ex ex1, W.up run1 fun _ _ q => q.ex ex1⟩
  rintro i m σ2 H2 ⟨rfl, hi, ε2, S2, μ2, lk2, ex2, ok2, rs2, run2⟩
  by_cases hlt : i < xs.length
  · rw [List.drop_eq_getElem_cons hlt] at run2
    obtain ⟨hv, run2⟩ := (run2 : inv μ2 ∧ ((W.opt (dg xs[i] ε2)).bnd fun ε1 => W.bnd (fb ε1) (forStep (forW dg fb inv (xs.drop (i + 1))))).run (PostS X.K dk S2 μ2 H2 Dn) c.E μ2)
    refine .inr ⟨itd.go ex2.ux ok2 hv hlt, fun σ' H' => ∃ ε3 S3 μ3, c.lk S3 μ3 H' ∧ Ex S1 μ1 H1 S3 μ3 H' ∧ Ok X.K dk.p S3 μ3 H' ∧ RS X.K S3 μ3 H' ε3 σ' ∧ (forW dg fb inv (xs.drop (i + 1)) ε3).run (PostS X.K dk S3 μ3 H' Dn) c.E μ3,
      fun σ' H' h => ⟨xs.length - (i + 1), by omega, rfl, hlt, h⟩, fun x H' hy => ?_⟩
    obtain ⟨exy, oky, repy⟩ := itd.yld ex2.ux ok2 hv (List.getElem?_eq_getElem hlt) hy
    cases hd : dg xs[i] ε2 with
    | none => rw [hd] at run2; exact run2.elim
    | some ε' =>
      rw [hd] at run2
      refine lg repy (rs2.ex exy) hd fun σ3 rs3 _ => ⟨ε', S2, μ2, c.up lk2 exy, oky, rs3, W.up (m := fb ε') run2 fun fl μ4 run4 => ?_⟩
      have again : ∀ {ε4 : DS}, (forW dg fb inv (xs.drop (i + 1)) ε4).run (PostS X.K dk S2 μ2 H2 Dn) c.E μ4 → ∀ σ4 S4 H4, Ex S2 μ2 H' S4 μ4 H4 → Ok X.K dk.p S4 μ4 H4 → RS X.K S4 μ4 H4 ε4 σ4 →
          ∃ ε3 S3 μ3, c.lk S3 μ3 H4 ∧ Ex S1 μ1 H1 S3 μ3 H4 ∧ Ok X.K dk.p S3 μ3 H4 ∧ RS X.K S3 μ3 H4 ε3 σ4 ∧ (forW dg fb inv (xs.drop (i + 1)) ε3).run (PostS X.K dk S3 μ3 H4 Dn) c.E μ3 :=
        fun r σ4 S4 H4 ex4 ok4 rs4 => ⟨_, S4, μ4, c.up lk2 (exy.trans ex4), ex2.trans (exy.trans ex4), ok4, rs4, W.up r fun _ _ q => q.ex (exy.trans ex4)⟩
      cases fl with
      | nx ε4 => exact again run4
      | ct ε4 => exact again run4
      | bk ε4 => exact fun σ4 S4 H4 ex4 ok4 rs4 => run4 σ4 S4 H4 (exy.trans ex4) ok4 rs4
      | rt d => exact fun v S4 H4 ex4 ok4 rs4 => run4 v S4 H4 (exy.trans ex4) ok4 rs4
  · rw [List.drop_eq_nil_of_le (by omega)] at run2
    exact .inl ⟨itd.stop ex2.ux ok2 run2.1 (Nat.le_antisymm hi (Nat.le_of_not_lt hlt)), run2.2 σ2 S2 H2 Ex.refl ok2 rs2⟩
theorem ds_for (hp : PassesOwn (model X.prog X.w) X.A X.env X.xe) (hc : X.calm = true) (hi : PI X tg iter (lowI X.K dk c fi)) (hg : PG X tg gg) (lg : LG X.K gg vs dg) (hb : PSs X body (lowS X.K dk c fb))
    (hs : ∀ x, foldedSetIterable iter X.env x = pure x := by intro _; rfl) : PS X (.For tg iter body [] pos) (lowS X.K dk c (sFor fi dg fb)) := ps_w (ps_for hp hc hi hg hb hs) fun _ _ _ q => low_for lg q
/-- while, at most n turns -/
def whW (t : DS → W Bool) (fb : DS → W Fl) : Nat → DS → W Fl
  | 0, _ => W.fail
  | n + 1, ε => W.bnd (t ε) fun b => if b = true then W.bnd (fb ε) (forStep (whW t fb n)) else W.ret (.nx ε)
def sWh (n : DS → Nat) (t : DS → W Bool) (fb : DS → W Fl) : DS → W Fl := fun ε => whW t fb (n ε) ε
theorem low_wh {n : DS → Nat} {t : DS → W Bool} {Dn : Ends} {σ : L2.St} {H : Hp} (q : lowS X.K dk c (sWh n t fb) Dn σ H) : tWhile (lowT X.K dk c t) (lowS X.K dk c fb) Dn σ H := by
  obtain ⟨ε, S, μ, lk, ok, rs, run⟩ := q
  refine ⟨fun m σ H => ∃ ε2 S2 μ2, c.lk S2 μ2 H ∧ Ok X.K dk.p S2 μ2 H ∧ RS X.K S2 μ2 H ε2 σ ∧ (whW t fb m ε2).run (PostS X.K dk S2 μ2 H Dn) c.E μ2, ⟨n ε, ε, S, μ, lk, ok, rs, run⟩, ?_⟩
  rintro m σ2 H2 ⟨ε2, S2, μ2, lk2, ok2, rs2, run2⟩
  cases m with
  | zero => exact run2.elim
  | succ m =>
    refine ⟨ε2, S2, μ2, lk2, ok2, rs2, W.up (m := t ε2) run2 fun b μ3 run3 S3 H3 ex3 ok3 => ?_⟩
    cases b with
    | false => exact run3 σ2 S3 H3 ex3 ok3 (rs2.ex ex3)
    | true =>
      refine ⟨fun σ' H' => ∃ ε2 S2 μ2, c.lk S2 μ2 H' ∧ Ok X.K dk.p S2 μ2 H' ∧ RS X.K S2 μ2 H' ε2 σ' ∧ (whW t fb m ε2).run (PostS X.K dk S2 μ2 H' Dn) c.E μ2, fun σ' H' h => ⟨m, Nat.lt_succ_self m, h⟩, ?_⟩
      refine ⟨ε2, S3, μ3, c.up lk2 ex3, ok3, rs2.ex ex3, W.up (m := fb ε2) run3 fun fl μ4 run4 => ?_⟩
      have again : ∀ {ε4 : DS}, (whW t fb m ε4).run (PostS X.K dk S2 μ2 H2 Dn) c.E μ4 → ∀ σ4 S4 H4, Ex S3 μ3 H3 S4 μ4 H4 → Ok X.K dk.p S4 μ4 H4 → RS X.K S4 μ4 H4 ε4 σ4 →
          ∃ ε2 S2 μ2, c.lk S2 μ2 H4 ∧ Ok X.K dk.p S2 μ2 H4 ∧ RS X.K S2 μ2 H4 ε2 σ4 ∧ (whW t fb m ε2).run (PostS X.K dk S2 μ2 H4 Dn) c.E μ2 :=
        fun r σ4 S4 H4 ex4 ok4 rs4 => ⟨_, S4, μ4, c.up lk2 (ex3.trans ex4), ok4, rs4, W.up r fun _ _ q => q.ex (ex3.trans ex4)⟩
      cases fl with
      | nx ε4 => exact again run4
      | ct ε4 => exact again run4
      | bk ε4 => exact fun σ4 S4 H4 ex4 ok4 rs4 => run4 σ4 S4 H4 (ex3.trans ex4) ok4 rs4
      | rt d => exact fun v S4 H4 ex4 ok4 rs4 => run4 v S4 H4 (ex3.trans ex4) ok4 rs4
theorem ds_while {x : Expr} {n : DS → Nat} {t : DS → W Bool} (hp : PassesOwn (model X.prog X.w) X.A X.env X.xe) (hc : PT X x (lowT X.K dk c t)) (hb : PSs X body (lowS X.K dk c fb)) : PS X (.While x body [] pos) (lowS X.K dk c (sWh n t fb)) :=
  ps_w (ps_while hp hc hb) fun _ _ _ q => low_wh q
end

/-! ### comprehensions -/
def lcW (dg : D → DS → Option DS) (ft : DS → W Bool) (fe : DS → W D) (ε : DS) (p : Mu → Prop) : List D → W (List D)
  | [] => gd p (W.ret [])
  | d :: ds => gd p (W.bnd (W.opt (dg d ε)) fun ε1 => W.bnd (ft ε1) fun b => if b = true then W.bnd (fe ε1) fun y => W.bnd (lcW dg ft fe ε p ds) fun ys => W.ret (y :: ys) else lcW dg ft fe ε p ds)
def dLc (vs : List Nat) (fi : DS → W Itm) (dg : D → DS → Option DS) (ft : DS → W Bool) (fe : DS → W D) : DS → W D := fun ε => W.bnd (fi ε) fun t => W.chk (t.xs.length < sizeLine) (W.bnd (W.nox (lcW dg ft fe (wipeD ε vs) t.inv t.xs)) fun ys => W.ret (.lst ys))
section
variable {K : PySem.W.Frag} {dk : DK} {S : Pl} {μ : Mu} {H : Hp}
def Pl.plus (S : Pl) (a : Addr) : Pl := ⟨S.L, S.hid ++ [a]⟩
theorem live_plus {a b : Addr} (h : live S μ b) : live (S.plus a) μ b := by
  rcases h with h | h
  · exact .inl (List.mem_append_left _ h)
  · exact .inr h
theorem ux_drop {a : Addr} : Ux (S.plus a) μ H S μ H := ⟨⟨[], by rw [List.append_nil]; rfl⟩, fun x o h n => ⟨h, fun z => n (live_plus z)⟩⟩
theorem Ok.drop {a : Addr} (ok : Ok K dk.p (S.plus a) μ H) : Ok K dk.p S μ H := by
  refine ⟨ok.len, ?_, fun b hb => ok.here b ?_, fun n m b h1 h2 => ?_⟩
  · have h : (S.L ++ (S.hid ++ [a])).Nodup := ok.nd
    rw [← List.append_assoc] at h
    exact (List.nodup_append.mp h).1
  · show b ∈ S.L ++ (S.hid ++ [a])
    rw [← List.append_assoc]
    exact List.mem_append_left _ hb
  · exact mo_ux (ok.at_ n m b h1 h2) ux_drop rfl (fun _ _ => rfl) (fun z => z)
theorem dead_plus {a : Addr} (ok : Ok K dk.p (S.plus a) μ H) : ¬ live S μ a := by
  have h : (S.L ++ (S.hid ++ [a])).Nodup := ok.nd
  rw [← List.append_assoc] at h
  have hn : a ∉ S.L ++ S.hid := fun z => (List.nodup_append.mp h).2.2 a z a List.mem_cons_self rfl
  rintro (z | ⟨n, m, e, _⟩)
  · exact hn (List.mem_append_right _ z)
  · exact hn (List.mem_append_left _ (List.mem_of_getElem? e))
/-- a new object, hidden -/
theorem hide_ux (ok : Ok K dk.p S μ H) {p : Addr} {o : HO} (hp : H p = none) : Ux S μ H (S.plus p) μ (upd H p o) := by
  refine ⟨⟨[], by rw [List.append_nil]; rfl⟩, fun a u h n => ?_⟩
  have ne := ne_of_none h hp
  refine ⟨by rw [upd_ne ne]; exact h, ?_⟩
  rintro (z | z)
  · rcases List.mem_append.mp z with z | z
    · exact n (.inl z)
    · exact ne (List.mem_singleton.mp z)
  · exact n (.inr z)
theorem hide_ok (ok : Ok K dk.p S μ H) {p : Addr} {o : HO} (hp : H p = none) : Ok K dk.p (S.plus p) μ (upd H p o) := by
  have fr := ok.fresh hp
  have ne : ∀ a, a ∈ S.L ++ S.hid → a ≠ p := fun a ha z => fr (z ▸ ha)
  refine ⟨ok.len, ?_, fun a ha => ?_, fun n m a e1 e2 => ?_⟩
  · show (S.L ++ (S.hid ++ [p])).Nodup
    rw [← List.append_assoc]
    exact List.nodup_append.mpr ⟨ok.nd, List.nodup_cons.mpr ⟨List.not_mem_nil, List.nodup_nil⟩, fun x hx y hy => by rw [List.mem_singleton.mp hy]; exact ne x hx⟩
  · have ha : a ∈ S.L ++ (S.hid ++ [p]) := ha
    rw [← List.append_assoc] at ha
    rcases List.mem_append.mp ha with ha | ha
    · rw [upd_ne (ne a ha)]
      exact ok.here a ha
    · rw [List.mem_singleton.mp ha, upd_same]
      intro z
      cases z
  · exact mo_ux (ok.at_ n m a e1 e2) (hide_ux ok hp) (upd_ne (ne a (List.mem_append_left _ (List.mem_of_getElem? e2)))) (fun c hc => upd_ne (ne c (List.mem_append_left _ (List.mem_of_getElem? hc)))) (fun z => z)
/-- a hidden one is written -/
theorem hid_ux {p : Addr} {o : HO} (hp : p ∈ S.hid) : Ux S μ H S μ (upd H p o) := by
  refine ⟨⟨[], by rw [List.append_nil]⟩, fun a u h n => ⟨?_, n⟩⟩
  rw [upd_ne]
  · exact h
  · rintro rfl
    exact n (.inl hp)
theorem hid_ok (ok : Ok K dk.p S μ H) {p : Addr} {o : HO} (hp : p ∈ S.hid) : Ok K dk.p S μ (upd H p o) := by
  have ne : ∀ a, a ∈ S.L → a ≠ p := fun a ha z => (List.nodup_append.mp ok.nd).2.2 a ha p hp z
  refine ⟨ok.len, ok.nd, fun a ha => ?_, fun n m a e1 e2 => ?_⟩
  · by_cases h : a = p
    · rw [h, upd_same]
      intro z
      cases z
    · rw [upd_ne h]
      exact ok.here a ha
  · exact mo_ux (ok.at_ n m a e1 e2) (hid_ux hp) (upd_ne (ne a (List.mem_of_getElem? e2))) (fun c hc => upd_ne (ne c (List.mem_of_getElem? hc))) (fun z => z)
end
theorem wipe_wipe {σ : L2.St} {vs : List Nat} : wipe (wipe σ vs) vs = wipe σ vs := wipe_eq (wipe_length σ vs) fun i hi => by rw [wipe_get, if_neg (fun z => hi z.1)]
section
variable {X : Cx} {dk : DK} {c : LC X.K dk} {tg iter elt : Expr} {ifs : List Expr} {fi : DS → W Itm} {ft : DS → W Bool} {fe : DS → W D} {gg : TG} {vs : List Nat} {dg : D → DS → Option DS} {pos : Pos}
theorem low_lc {K : PySem.W.Frag} {c : LC K dk} (lg : LG K gg vs dg) {σ : L2.St} {H : Hp} {Q : VK} (q : lowE K dk c (dLc vs fi dg ft fe) σ H Q) : tLc (lowI K dk c fi) gg (lowT K dk (cF K dk) ft) (lowE K dk (cF K dk) fe) vs σ H Q := by
  obtain ⟨ε, S, μ, lk, ok, rs, run⟩ := q
  refine ⟨ε, S, μ, lk, ok, rs, W.up run fun t μ1 run1 J S1 H1 ex1 ok1 itd A hA => ?_⟩
  obtain ⟨hsz, run1⟩ := run1
  obtain ⟨xs, inv⟩ := t
  have hsz : xs.length < sizeLine := hsz
  have run1 : (lcW dg ft fe (wipeD ε vs) inv xs).run (fun ys μ' => Post K dk S μ H Q (.lst ys) μ') (fun _ _ => False) μ1 := run1
  refine ⟨fun i m H2 => m = xs.length - i ∧ i ≤ xs.length ∧ ∃ (S2 : Pl) (μ2 : Mu) (ys : List D) (acc : List V), S2.hid = S1.hid ∧ Ux S1 μ1 H1 (S2.plus A) μ2 H2 ∧ (∀ a ∈ S1.hid, H2 a = H1 a) ∧ Ok K dk.p (S2.plus A) μ2 H2 ∧ H2 A = some (.lst acc) ∧
    RepA K (S2.plus A) μ2 H2 ys acc ∧ ys.length ≤ i ∧ (lcW dg ft fe (wipeD ε vs) inv (xs.drop i)).run (fun zs μ' => Post K dk S μ H Q (.lst (ys ++ zs)) μ') (fun _ _ => False) μ2, ?_, ?_⟩
  · refine ⟨xs.length, (Nat.sub_zero _).symm, Nat.zero_le _, S1, μ1, [], [], rfl, hide_ux ok1 hA, fun a ha => upd_ne ?_, hide_ok ok1 hA, upd_same, .nil, Nat.zero_le _, run1⟩
    rintro rfl
    exact ok1.fresh hA (List.mem_append_right _ ha)
  rintro i m H2 ⟨rfl, hi, S2, μ2, ys, acc, eh, ux2, hk2, ok2, eA, rep2, ly, run2⟩
  have memA : A ∈ (S2.plus A).hid := List.mem_append_right _ List.mem_cons_self
  have exF : ∀ {S3 : Pl} {μ3 : Mu} {H3 : Hp}, Ex (S2.plus A) μ2 H2 S3 μ3 H3 → ∃ S4 : Pl, S3 = S4.plus A ∧ S4.hid = S1.hid := fun {S3 _ _} ex => ⟨⟨S3.L, S1.hid⟩, by
    have h : S3.hid = S2.hid ++ [A] := ex.hid
    rw [eh] at h
    obtain ⟨l, hd⟩ := S3
    show Pl.mk l hd = Pl.mk l (S1.hid ++ [A])
    rw [← h], rfl⟩
  have hkF : ∀ {S3 : Pl} {μ3 : Mu} {H3 : Hp}, Ex (S2.plus A) μ2 H2 S3 μ3 H3 → ∀ a ∈ S1.hid, H3 a = H1 a := fun ex a ha => (ex.hk a (List.mem_append_left _ (by rw [eh]; exact ha))).trans (hk2 a ha)
  by_cases hlt : i < xs.length
  · rw [List.drop_eq_getElem_cons hlt] at run2
    obtain ⟨hv, run2⟩ := (run2 : inv μ2 ∧ ((W.opt (dg xs[i] (wipeD ε vs))).bnd fun ε1 => W.bnd (ft ε1) fun b => if b = true then W.bnd (fe ε1) fun y => W.bnd (lcW dg ft fe (wipeD ε vs) inv (xs.drop (i + 1))) fun ys => W.ret (y :: ys) else lcW dg ft fe (wipeD ε vs) inv (xs.drop (i + 1))).run
      (fun zs μ' => Post K dk S μ H Q (.lst (ys ++ zs)) μ') (fun _ _ => False) μ2)
    refine .inr ⟨itd.go ux2 ok2 hv hlt, fun H3 => ∃ (S3 : Pl) (μ3 : Mu) (ys : List D) (acc : List V), S3.hid = S1.hid ∧ Ux S1 μ1 H1 (S3.plus A) μ3 H3 ∧ (∀ a ∈ S1.hid, H3 a = H1 a) ∧ Ok K dk.p (S3.plus A) μ3 H3 ∧ H3 A = some (.lst acc) ∧
      RepA K (S3.plus A) μ3 H3 ys acc ∧ ys.length ≤ i + 1 ∧ (lcW dg ft fe (wipeD ε vs) inv (xs.drop (i + 1))).run (fun zs μ' => Post K dk S μ H Q (.lst (ys ++ zs)) μ') (fun _ _ => False) μ3,
      fun H' h => ⟨xs.length - (i + 1), by omega, rfl, hlt, h⟩, fun x H' hy => ?_⟩
    obtain ⟨exy, oky, repy⟩ := itd.yld ux2 ok2 hv (List.getElem?_eq_getElem hlt) hy
    cases hd : dg xs[i] (wipeD ε vs) with
    | none => rw [hd] at run2; exact run2.elim
    | some ε' =>
      rw [hd] at run2
      refine lg repy (((rs.ex ex1).ux (ux2.trans exy.ux)).wipe vs) hd fun σ3 rs3 w3 => ⟨w3.trans wipe_wipe, ε', S2.plus A, μ2, True.intro, oky, rs3, W.up (m := ft ε') run2 fun b μ3 run3 S3 H3 ex3 ok3 => ?_⟩
      have x3 := exy.trans ex3
      cases b with
      | false =>
        obtain ⟨S4, rfl, e4⟩ := exF x3
        exact ⟨S4, μ3, ys, acc, e4, ux2.trans x3.ux, hkF x3, ok3, (x3.hk A memA).trans eA, rep2.ex x3, by omega, run3⟩
      | true =>
        refine ⟨ε', S3, μ3, True.intro, ok3, rs3.ex ex3, W.up (m := fe ε') run3 fun y μ4 run4 v S4 H4 ex4 ok4 rep4 => ?_⟩
        have x4 := x3.trans ex4
        obtain ⟨S5, rfl, e5⟩ := exF x4
        have la := rep2.len
        have mem5 : A ∈ (S5.plus A).hid := List.mem_append_right _ List.mem_cons_self
        refine ⟨acc, (x4.hk A memA).trans eA, by omega, S5, μ4, ys ++ [y], acc ++ [v], e5, (ux2.trans x4.ux).trans (hid_ux mem5), fun a ha => ?_, hid_ok ok4 mem5, upd_same, ((rep2.ex x4).app (.cons rep4 .nil)).ux (hid_ux mem5), by rw [List.length_append]; show ys.length + 1 ≤ _; omega, ?_⟩
        · rw [upd_ne]
          · exact hkF x4 a ha
          · rintro rfl
            exact ok1.fresh hA (List.mem_append_right _ ha)
        · refine W.up (m := lcW dg ft fe (wipeD ε vs) inv (xs.drop (i + 1))) run4 fun zs μ5 q => ?_
          rw [List.append_assoc]
          exact q
  · rw [List.drop_eq_nil_of_le (by omega)] at run2
    refine .inl ⟨itd.stop ux2 ok2 run2.1 (Nat.le_antisymm hi (Nat.le_of_not_lt hlt)), ?_⟩
    have q : Post K dk S μ H Q (.lst (ys ++ [])) μ2 := run2.2
    rw [List.append_nil] at q
    refine q (.ref A) S2 H2 (ex1.trans ⟨ux2.L, eh, fun a o h n => ?_, hk2⟩) ok2.drop (.lst ⟨eA, dead_plus ok2⟩ (rep2.ux ux_drop))
    obtain ⟨h1, n1⟩ := ux2.keep a o h n
    exact ⟨h1, fun z => n1 (live_plus z)⟩
theorem de_lc {scope : Scope} {own : List (Str × Nat)} (hc : X.calm = true) (hN : X.N.Nodup) (hi : PI X tg iter (lowI X.K dk c fi)) (ok : BlkOk X.N X.env.scope scope own)
    (hg : ∀ (s : Shared) (H : Hp) (C : Addr) (cl : List (Str × Addr)) (fp : List Addr), PG (X.blk s H scope (compEnvC scope cl C X.env) fp) tg gg) (lg : LG X.K gg (own.map (·.2)) dg)
    (ht : ∀ (s : Shared) (H : Hp) (C : Addr) (cl : List (Str × Addr)) (fp : List Addr), PTs (X.blk s H scope (compEnvC scope cl C X.env) fp) ifs (lowT X.K dk (cF X.K dk) ft))
    (he : ∀ (s : Shared) (H : Hp) (C : Addr) (cl : List (Str × Addr)) (fp : List Addr), PE (X.blk s H scope (compEnvC scope cl C X.env) fp) elt (lowE X.K dk (cF X.K dk) fe)) (hs : ∀ x, foldedSetIterable iter X.env x = pure x := by intro _; rfl) :
    PE X (.ListComp elt [⟨tg, iter, ifs, 0⟩] scope pos) (lowE X.K dk c (dLc (own.map (·.2)) fi dg ft fe)) := pe_w (pe_lc hc hN hi ok hg ht he hs) fun _ _ _ q => low_lc lg q
theorem ds_setLc {i : Nat} {y : Str} {py : Pos} {scope : Scope} {own : List (Str × Nat)} {spos : Pos} (hc : X.calm = true) (hN : X.N.Nodup) (hy : X.N[i]? = some y) (hyl : X.env.scope.names.lookup y = some .local)
    (hsw : swapsWith (.ListComp elt [⟨tg, iter, ifs, 0⟩] scope pos) (some (.Name y py)) spos.line X.env = pure true) (hi : PI X tg iter (lowI X.K dk c fi)) (ok : BlkOk X.N X.env.scope scope own)
    (hg : ∀ (s : Shared) (H : Hp) (C : Addr) (cl : List (Str × Addr)) (fp : List Addr), PG (X.blk s H scope (compEnvC scope cl C X.env) fp) tg gg) (lg : LG X.K gg (own.map (·.2)) dg)
    (ht : ∀ (s : Shared) (H : Hp) (C : Addr) (cl : List (Str × Addr)) (fp : List Addr), PTs (X.blk s H scope (compEnvC scope cl C X.env) fp) ifs (lowT X.K dk (cF X.K dk) ft))
    (he : ∀ (s : Shared) (H : Hp) (C : Addr) (cl : List (Str × Addr)) (fp : List Addr), PE (X.blk s H scope (compEnvC scope cl C X.env) fp) elt (lowE X.K dk (cF X.K dk) fe)) (hs : ∀ x, foldedSetIterable iter X.env x = pure x := by intro _; rfl) :
    PS X (.Assign [.Name y py] (.ListComp elt [⟨tg, iter, ifs, 0⟩] scope pos) spos) (lowS X.K dk c (sSet i (dLc (own.map (·.2)) fi dg ft fe))) :=
  ps_w (ps_setLc hc hN hy hyl hsw hi ok hg ht he hs) fun Dn σ H ⟨ε, S, μ, lk, ok, rs, run⟩ => by
    have run : (dLc (own.map (·.2)) fi dg ft fe ε).run (fun d μ' => PostS X.K dk S μ H Dn (.nx (ε.set i (some d))) μ') c.E μ := run
    refine low_lc lg ⟨ε, S, μ, lk, ok, rs, W.up run fun d μ1 run1 v S1 H1 ex1 ok1 rep1 => ?_⟩
    exact run1 _ S1 H1 ex1 ok1 ((rs.ex ex1).set i rep1)
theorem dts_nil : PTs X [] (lowT X.K dk c dTrue) := ⟨fun pins s σ H Q I ⟨_, S, _, _, ok, _, q⟩ => pts_nil.run pins s σ H Q I (q S H Ex.refl ok)⟩
theorem dts_one {x : Expr} (h : PT X x (lowT X.K dk c ft)) : PTs X [x] (lowT X.K dk c ft) := pts_one h
end
end DL

/-! a tuple from behind; a tuple times nought or one -/
namespace X7
open PySem PySem.Spec PyProof.Rows L2 Kit HT
section
variable {prog : Program} {w : World} {A : Around} {E : Value → Shared → Prop} {s : Shared}
theorem adjust_rev (n : Nat) : Builtin.Slice.sliceAdjust none none (-1) (n : Int) = ((n : Int) - 1, -1) := by
  unfold Builtin.Slice.sliceAdjust
  rfl
theorem places_rev (n : Nat) : Builtin.Slice.slicePlaces ((n : Int) - 1) (-1) (-1) = n := by
  unfold Builtin.Slice.slicePlaces
  have h1 : ¬ ((-1 : Int) > 0) := by omega
  have e1 : (- -1 : Int) = 1 := by decide
  simp only [h1, if_false, e1, Int.ediv_one]
  split <;> omega
theorem pick_rev (xs : Array Value) : ((List.range xs.size).filterMap fun (m : Nat) => xs[(((xs.size : Int) - 1) + (m : Int) * -1).toNat]?).toArray = xs.toList.reverse.toArray := by
  have e : (fun (m : Nat) => xs[(((xs.size : Int) - 1) + (m : Int) * -1).toNat]?) = (fun i => xs[i]?) ∘ fun m => xs.size - 1 - m := by
    funext m
    show xs[(((xs.size : Int) - 1) + (m : Int) * -1).toNat]? = xs[xs.size - 1 - m]?
    congr 1
    omega
  rw [e, ← List.filterMap_map, PySem.W.krv_range, List.filterMap_reverse, PySem.W.krv_all]
theorem sliceApplied_rev {sl : Addr} {vs : Value} {n : Nat} {Q : Int × Int × Nat → Shared → Prop} (hs : s.heap.IsSliceOf sl .none .none vs) (ps : IsPart vs (some (-1)))
    (h : Q ((n : Int) - 1, -1, n) s) : wpAny (model prog w) A (Builtin.Slice.sliceApplied (.ref sl) (pure (n : Int))) Q E s := by
  obtain ⟨os, hos, hcs, hds⟩ := id hs
  unfold Builtin.Slice.sliceApplied Builtin.Slice.sliceFields
  refine wpAny_bind (wpAny_bind (wpAny_field hos hds (x := .none) rfl (wpAny_bind (wpAny_field hos hds (x := .none) rfl (wpAny_bind (wpAny_field hos hds (x := vs) rfl (wpAny_pure ?_)))))))
  refine wpAny_bind (slicePart_ ps ?_)
  show wpAny _ _ (if ((-1 : Int) == 0) = true then _ else _) _ _ s
  rw [if_neg (by decide)]
  refine wpAny_bind (slicePart_none (wpAny_bind (slicePart_none (wpAny_bind (wpAny_pure ?_)))))
  show wpAny _ _ (match Builtin.Slice.sliceAdjust none none (-1) (n : Int) with | (lo, hi) => pure (lo, (-1 : Int), Builtin.Slice.slicePlaces lo hi (-1))) _ _ s
  rw [adjust_rev n]
  show wpAny _ _ (pure ((n : Int) - 1, (-1 : Int), Builtin.Slice.slicePlaces ((n : Int) - 1) (-1) (-1))) _ _ s
  rw [places_rev]
  exact wpAny_pure h
theorem getItem_tuple_rev {t sl : Addr} {items : Array Value} {vs : Value} {Q : Value → Shared → Prop} (ht : IsTup s.heap t items) (hs : s.heap.IsSliceOf sl .none .none vs) (ps : IsPart vs (some (-1)))
    (h : Q (.ref s.heap.objs.size) { s with heap := s.heap.push { cls := .type "tuple", data := .seq items.toList.reverse.toArray } })
    (hsz : items.size ≤ sizeLine) : wpAny (model prog w) A (getItem (.ref t) (.ref sl)) Q E s := by
  have htake : sizeOk (.seq items.toList.reverse.toArray) := by
    show items.toList.reverse.toArray.size ≤ sizeLine
    rw [List.size_toArray, List.length_reverse, Array.length_toList]
    exact hsz
  obtain ⟨os, hos, hcs, hds⟩ := id hs
  have hTs : s.TypeIs (.ref sl) "slice" := ⟨os, hos, hcs⟩
  unfold getItem
  try with_reducible refine wpAny_holding ?_
  first | refine wpAny_bind (wpAny_pure ?_) | skip
  refine wpAny_bind (wpAny_sequenceKey ht.typeIs (by decide) ?_)
  refine wpAny_bind (wpAny_callSpecial?_slot (name := Str.ofString "__getitem__") ht.typeIs PyProof.Rows.slot_tuple_getitem
    (wpAny_call_entry PyProof.Rows.slot_tuple_getitem ht.typeIs entry_tuple_getitem ?_ (args_tuple_getitem _ _)))
  show wpAny _ _ (Builtin.Tuple.tupleItemsOf (.ref t) >>= _) _ _ s
  refine wpAny_bind (tupleItemsOf_ ht ?_)
  refine wpAny_bind (wpAny_typeOf hTs ?_)
  rw [if_pos (by decide)]
  refine wpAny_bind (sliceApplied_rev hs ps ?_)
  have hno : ¬ ((((items.size : Int) - 1) == 0 && (-1 : Int) == 1 && items.size == items.size) = true) := by
    intro q
    rw [Bool.and_eq_true, Bool.and_eq_true] at q
    exact absurd (eq_of_beq q.1.2) (by decide)
  show wpAny _ _ (if (((items.size : Int) - 1) == 0 && (-1 : Int) == 1 && items.size == items.size) = true then _ else _) _ _ s
  rw [if_neg hno, pick_rev]
  first
    | exact wpAny_bind (m := Builtin.Tuple.tupleExact _) (wpAny_newObj_type (wpAny_pure ⟨_, rfl, wpAny_pure h⟩) htake)
    | exact wpAny_bind (m := Builtin.Tuple.tupleExact _) (wpAny_newObj_type (wpAny_bind (wpAny_pure (wpAny_pure ⟨_, rfl, wpAny_pure h⟩))) htake)
    | exact wpAny_bind (wpAny_bind (m := Builtin.Tuple.tupleExact _) (wpAny_newObj_type (wpAny_pure (wpAny_pure ⟨_, rfl, wpAny_pure h⟩)) htake))
    | exact wpAny_bind (wpAny_bind (m := Builtin.Tuple.tupleExact _) (wpAny_newObj_type (wpAny_pure ⟨_, rfl, wpAny_pure h⟩) htake))
end
section
variable {X : Cx}
def tRevT (K : PySem.W.Frag) (te : TE) : TE := fun σ H Q => te σ H fun x H1 => ∃ a xs, x = .ref a ∧ SqT K H1 a xs ∧ ∀ p, H1 p = none → Q (.ref p) (upd H1 p (.tup xs.reverse))
theorem pe_revT {e : Expr} {te : TE} {k : Nat} {p1 p2 p3 pos : Pos} (he : PE X e te) : PE X (.Subscript e (.Slice none none (some (.UnaryOp .USub (.Constant (.int 1) k p1) p2)) p3) pos) (tRevT X.K te) := by
  refine ⟨fun pins s σ H Q I h => ?_⟩
  refine Subscript_ (thn (he.run pins s σ H _ I h) fun v s1 ⟨x, H1, I1, r1, q1⟩ => ?_)
  obtain ⟨a, xs, ex, hx, q⟩ := q1
  subst ex
  cases r1
  have hst : PO X (some (.UnaryOp .USub (.Constant (.int 1) k p1) p2)) (tPart (tUn (rU fun i => .int (-i)) (tC (.int 1)))) := po_some (pe_un un_neg pe_int)
  refine wpAny_Slice (thn (po_none.run pins s1 σ H1 (fun o H2 => o = none ∧ H2 = H1) I1 ⟨rfl, rfl⟩) fun vl s2 ⟨l, H2, I2, pl, el, e2⟩ => ?_)
  subst el e2
  refine thn (po_none.run pins s2 σ H2 (fun o H3 => o = none ∧ H3 = H2) I2 ⟨rfl, rfl⟩) fun vu s3 ⟨u, H3, I3, pu, eu, e3⟩ => ?_
  subst eu e3
  refine thn (hst.run pins s3 σ H3 (fun o H4 => o = some (-1) ∧ H4 = H3) I3 ⟨1, rfl, -1, rfl, rfl, rfl⟩) fun vs s4 ⟨o, H4, I4, ps, eo, e4⟩ => ?_
  subst eo e4
  have I5 : Inv X pins σ H4 { s4 with heap := s4.heap.push { cls := .type "slice", data := .fields #[vl, vu, vs] } } := I4.kept (t' := s4.toks) fun b ob q => Heap.get?_push_of_some _ q
  obtain ⟨its, r, ht, hz⟩ := I5.tuple hx
  have hlen : its.toArray.size = xs.length := by rw [List.size_toArray]; exact r.length.symm
  cases pl
  cases pu
  show wpAny (model X.prog X.w) X.A (subscriptTail e (.Slice none none (some (.UnaryOp .USub (.Constant (.int 1) k p1) p2)) p3) (.ref a) (.ref s4.heap.objs.size)) (EP X pins σ Q) X.xe { s4 with heap := s4.heap.push { cls := .type "slice", data := .fields #[.none, .none, vs] } }
  refine tail_any (ops := [.ref a, .ref s4.heap.objs.size]) ht.typeIs (PyProof.Rows.slot_tuple_getitem.lookup) ?_ (by with_unfolding_all rfl)
  refine getItem_tuple_rev ht (Heap.IsSliceOf.new _ .none .none vs) ps ?_ (by rw [hlen]; exact hz)
  refine ⟨.ref _, _, I5.laid (t' := s4.toks) (o := .tup xs.reverse) (fun b ob q => Heap.get?_push_of_some _ q) (Nat.le_refl _) ?_, rfl, q _ (I5.hok.fresh (Nat.le_refl _))⟩
  exact ⟨by rw [List.length_reverse]; exact hz, _, r.reverse, IsTup.new _ _⟩
end
end X7

namespace X7
open PySem PySem.Spec PyProof.Rows L2 Kit HT
theorem tuple_mul1 (l : Addr) (items : Array Value) (n : Nat) (dd : Option Addr) (sl : Array (Option Value)) (u : Tok) :
    Meets (Builtin.«tuple.__mul__» ⟨[.ref l, .int 1 u], []⟩) (fun _ R s => s.heap.get? l = some { cls := .type "tuple", dict := dd, data := .seq items n, slots := sl } ∧
      R (.ok (.ret (Value.ref l))) s) :=
  .of_wp fun prog w A R s h => by
    obtain ⟨hp, g, d, tk, os⟩ := s
    obtain ⟨hl, h⟩ := h
    have f1 := AutoSeq1.idx_int
    have c1 : (items.isEmpty || (1 : Int) == 1) = true := by simp
    wp_walk using wpAny_loadPart' hl
    repeat (first
      | (refine wpAny_ite_false (decide_eq_false (by decide)) ?_; wp_walk using wpAny_loadPart' hl)
      | (refine wpAny_ite_true (decide_eq_true (by rw [c1])) ?_; wp_walk using wpAny_loadPart' hl))
    exact ⟨_, rfl, h⟩
theorem tuple_mul0 (l : Addr) (items : Array Value) (n : Nat) (dd : Option Addr) (sl : Array (Option Value)) (u : Tok) (hi : items.isEmpty = false) :
    Meets (Builtin.«tuple.__mul__» ⟨[.ref l, .int 0 u], []⟩) (fun _ R s => s.heap.get? l = some { cls := .type "tuple", dict := dd, data := .seq items n, slots := sl } ∧
      R (.ok (.ret (Value.ref s.heap.objs.size))) { s with heap := s.heap.push { cls := Value.type "tuple", data := Data.seq #[] }, toks := s.toks }) :=
  .of_wp fun prog w A R s h => by
    obtain ⟨hp, g, d, tk, os⟩ := s
    obtain ⟨hl, h⟩ := h
    have f1 := AutoSeq1.idx_int
    have c1 : ¬ ((items.isEmpty || (0 : Int) == 1) = true) := by rw [hi]; decide
    have c2 : (decide ((0 : Int) ≤ 0) || items.isEmpty) = true := by simp
    wp_walk using wpAny_loadPart' hl
    repeat (first
      | (refine wpAny_ite_false (decide_eq_false c1) ?_; wp_walk using wpAny_loadPart' hl)
      | (refine wpAny_ite_false (decide_eq_false (by decide)) ?_; wp_walk using wpAny_loadPart' hl)
      | (refine wpAny_ite_true (decide_eq_true c2) ?_; wp_walk using wpAny_loadPart' hl))
    exact ⟨_, rfl, h⟩
def rRepT01 (K : PySem.W.Frag) : R2 := fun x y H Q => ∃ l k xs, x = .ref l ∧ y = .int k ∧ SqT K H l xs ∧ xs ≠ [] ∧ (k = 1 ∨ k = 0) ∧ (k = 1 → Q (.ref l) H) ∧ (k = 0 → ∀ p, H p = none → Q (.ref p) (upd H p (.tup [])))
theorem op_repT01 {X : Cx} : OpR X (binaryOp .Mult) (rRepT01 X.K) := by
  intro pins s σ H x y v u Q I rx ry h
  obtain ⟨l, k, xs, rfl, rfl, hT, hne, hk, q1, q0⟩ := h
  cases rx
  obtain ⟨t, rfl⟩ := ry
  obtain ⟨its, r, ⟨⟨cls, dd, data, sl⟩, ho, hc, n, hd⟩, hs⟩ := I.tuple hT
  simp only at hc hd
  subst hc hd
  have hle : its.length = xs.length := r.length.symm
  have hn : its ≠ [] := fun e => hne (by
    rw [e] at hle
    exact List.eq_nil_of_length_eq_zero hle.symm)
  have hi : its.toArray.isEmpty = false := by
    cases its with
    | nil => exact absurd rfl hn
    | cons a b => rfl
  rcases hk with rfl | rfl
  · exact wpAny_binaryOp_repeat_ref (T := "tuple") (U := "int") (by decide) ⟨_, ho, rfl⟩ (fun s' => typeIs_int s' 1 t) noFill_tuple_mul F.fills_int_mul F.slot_int_rmul repeat_tuple F.slot_int_index.lookup
      (call_meets F.slot_int_rmul (typeIs_int s 1 t) F.entry_int_rmul (F.args_int_rmul_2 _ _) (int_rmul_tuple 1 t l its.toArray n dd sl)
        ⟨ho, rfl, ⟨_, ho, rfl⟩, call_meets F.slot_tuple_mul ⟨_, ho, rfl⟩ F.entry_tuple_mul (F.args_tuple_mul_2 _ _) (tuple_mul1 l its.toArray n dd sl t) ⟨ho, ⟨.ref l, H, I, rfl, q1 rfl⟩⟩⟩)
  · refine wpAny_binaryOp_repeat_ref (T := "tuple") (U := "int") (by decide) ⟨_, ho, rfl⟩ (fun s' => typeIs_int s' 0 t) noFill_tuple_mul F.fills_int_mul F.slot_int_rmul repeat_tuple F.slot_int_index.lookup
      (call_meets F.slot_int_rmul (typeIs_int s 0 t) F.entry_int_rmul (F.args_int_rmul_2 _ _) (int_rmul_tuple 0 t l its.toArray n dd sl)
        ⟨ho, rfl, ⟨_, ho, rfl⟩, call_meets F.slot_tuple_mul ⟨_, ho, rfl⟩ F.entry_tuple_mul (F.args_tuple_mul_2 _ _) (tuple_mul0 l its.toArray n dd sl t hi) ⟨ho, ?_⟩⟩)
    refine ⟨.ref s.heap.objs.size, _, I.laid (t' := s.toks) (o := .tup []) (fun b ob q => Heap.get?_push_of_some _ q) (Nat.le_refl _) ?_, rfl, q0 rfl _ (I.hok.fresh (Nat.le_refl _))⟩
    exact ⟨by decide, _, .nil, IsTup.new _ _⟩
end X7

/-! () + t: t itself -/
namespace X10
open PySem PySem.Spec PyProof.Rows L2 Kit HT
theorem tuple_addW0 (t b : Addr) (vs ws : Array Value) (n n2 : Nat) (dd dd2 : Option Addr) (sl sl2 : Array (Option Value)) (hc0 : vs.isEmpty = true) :
    Meets (Builtin.«tuple.__add__» ⟨[.ref t, .ref b], []⟩) (fun _ R s => s.heap.get? t = some { cls := .type "tuple", dict := dd, data := .seq vs n, slots := sl } ∧
      s.heap.get? b = some { cls := .type "tuple", dict := dd2, data := .seq ws n2, slots := sl2 } ∧ R (.ok (.ret (Value.ref b))) s) :=
  .of_wp fun prog w A R s h => by
    obtain ⟨hp, g, d, tk, os⟩ := s
    obtain ⟨hl, hb, h⟩ := h
    have f1 := AutoSeq1.idx_int
    have f2 := AutoSeq1.sub_tuple_tuple
    wp_walk using wpAny_loadPart' hl, wpAny_loadPart' hb
    exact ⟨_, rfl, h⟩
def rCatT0 (K : PySem.W.Frag) : R2 := fun x y H Q => ∃ a b ys, x = .ref a ∧ y = .ref b ∧ SqT K H a [] ∧ SqT K H b ys ∧ Q (.ref b) H
theorem op_catT0 {X : Cx} : OpR X (binaryOp .Add) (rCatT0 X.K) := by
  intro pins s σ H x y v u Q I rx ry h
  obtain ⟨a, b, ys, rfl, rfl, ha, hb, q⟩ := h
  cases rx
  cases ry
  obtain ⟨its, r1, ⟨⟨cls, dd, data, sl⟩, ho, hc, n, hd⟩, _⟩ := I.tuple ha
  obtain ⟨its2, r2, ⟨⟨cls2, dd2, data2, sl2⟩, ho2, hc2, n2, hd2⟩, _⟩ := I.tuple hb
  simp only at hc hd hc2 hd2
  subst hc hd hc2 hd2
  cases r1
  exact concat_meets ⟨_, ho, rfl⟩ ⟨_, ho2, rfl⟩ noFill_tuple_add seq_tuple_add PySem.F.slot_tuple_add PySem.F.entry_tuple_add (PySem.F.args_tuple_add_2 _ _)
    (tuple_addW0 a b _ its2.toArray n n2 dd dd2 sl sl2 rfl) ⟨ho, ho2, ⟨.ref b, H, I, rfl, q⟩⟩
/-- t + u of any two -/
def rCatTA (K : PySem.W.Frag) : R2 := fun x y H Q => rCatT0 K x y H Q ∨ rCatT K x y H Q
theorem op_catTA {X : Cx} : OpR X (binaryOp .Add) (rCatTA X.K) := by
  intro pins s σ H x y v u Q I rx ry h
  rcases h with h | h
  · exact op_catT0 pins s σ H x y v u Q I rx ry h
  · exact op_catT pins s σ H x y v u Q I rx ry h
end X10

/-! a slice that is the whole tuple: the same object -/
namespace X9
open PySem PySem.Spec PyProof.Rows L2 Kit HT
section
variable {prog : Program} {w : World} {A : Around} {E : Value → Shared → Prop} {s : Shared}
theorem getItem_tuple_whole {t sl : Addr} {items : Array Value} {vl vu : Value} {lo hi : Option Int} {Q : Value → Shared → Prop} (ht : IsTup s.heap t items) (hs : s.heap.IsSliceOf sl vl vu .none) (pl : IsPart vl lo) (pu : IsPart vu hi)
    (hw : sIx items.size 0 lo = 0 ∧ sIx items.size items.size hi = items.size)
    (h : Q (.ref t) s)
    (hsz : items.size ≤ sizeLine) : wpAny (model prog w) A (getItem (.ref t) (.ref sl)) Q E s := by
  obtain ⟨os, hos, hcs, hds⟩ := id hs
  have hTs : s.TypeIs (.ref sl) "slice" := ⟨os, hos, hcs⟩
  unfold getItem
  try with_reducible refine wpAny_holding ?_
  first | refine wpAny_bind (wpAny_pure ?_) | skip
  refine wpAny_bind (wpAny_sequenceKey ht.typeIs (by decide) ?_)
  refine wpAny_bind (wpAny_callSpecial?_slot (name := Str.ofString "__getitem__") ht.typeIs PyProof.Rows.slot_tuple_getitem
    (wpAny_call_entry PyProof.Rows.slot_tuple_getitem ht.typeIs entry_tuple_getitem ?_ (args_tuple_getitem _ _)))
  show wpAny _ _ (Builtin.Tuple.tupleItemsOf (.ref t) >>= _) _ _ s
  refine wpAny_bind (tupleItemsOf_ ht ?_)
  refine wpAny_bind (wpAny_typeOf hTs ?_)
  rw [if_pos (by decide)]
  refine wpAny_bind (sliceApplied_gen hs pl pu ?_)
  have hno : ((((sIx items.size 0 lo : Nat) : Int) == 0 && (1 : Int) == 1 && (sIx items.size items.size hi - sIx items.size 0 lo) == items.size) = true) := by
    rw [hw.1, hw.2, Nat.sub_zero]
    simp
  show wpAny _ _ (if (((sIx items.size 0 lo : Nat) : Int) == 0 && (1 : Int) == 1 && (sIx items.size items.size hi - sIx items.size 0 lo) == items.size) = true then _ else _) _ _ s
  rw [if_pos hno]
  have he : ∀ {Q' : Bool → Shared → Prop}, Q' true s → wpAny (model prog w) A.in1 (Builtin.Tuple.tupleIsExact (.ref t)) Q' E s := by
    intro Q' q'
    unfold Builtin.Tuple.tupleIsExact
    refine wpAny_bind (wpAny_typeOf ht.typeIs ?_)
    exact wpAny_pure q'
  refine wpAny_bind (he ?_)
  rw [if_pos rfl]
  first
    | exact wpAny_bind (wpAny_rule (wpAny_pure ⟨_, rfl, wpAny_pure h⟩))
end
def whole (n : Nat) (lo hi : Option Int) : Prop := HT.sIx n 0 lo = 0 ∧ HT.sIx n n hi = n
/-- t[lo:hi]: the whole is t itself -/
def rSlTA (K : PySem.W.Frag) : V → Option Int → Option Int → Hp → VK → Prop := fun x lo hi H Q => ∃ a xs, x = .ref a ∧ SqT K H a xs ∧
  (whole xs.length lo hi → Q (.ref a) H) ∧ (¬ whole xs.length lo hi → ∀ p, H p = none → Q (.ref p) (upd H p (.tup (cutV xs lo hi))))
theorem sl_tupA {X : Cx} : SlR X (rSlTA X.K) := by
  intro pins s σ H x v vl vu lo hi sl Q I rx hs pl pu h
  obtain ⟨a, xs, rfl, hx, q1, q2⟩ := h
  by_cases hw : whole xs.length lo hi
  · cases rx
    obtain ⟨its, r, ht, hz⟩ := I.tuple hx
    have hlen : its.toArray.size = xs.length := by rw [List.size_toArray]; exact r.length.symm
    refine ⟨"tuple", _, PyProof.Rows.slot_tuple_getitem.lookup, ht.typeIs, ?_⟩
    exact getItem_tuple_whole ht hs pl pu (by rw [hlen]; exact hw) ⟨.ref a, H, I, rfl, q1 hw⟩ (by rw [hlen]; exact hz)
  · exact sl_tup pins s σ H _ v vl vu lo hi sl Q I rx hs pl pu ⟨a, xs, rfl, hx, hw, q2 hw⟩
end X9

/-! max of a list whose items lie in the heap (pairs of whole numbers), and max with a default -/
namespace PySem
namespace Mx
open PySem.W PyProof.Rows
/-- all but the iterator and the list of the best stands as it stood -/
def Kp (I S : Addr) (h0 h : Heap) : Prop := ∀ b o, b ≠ I → b ≠ S → h0.get? b = some o → h.get? b = some o
theorem Kp.refl (I S : Addr) (h : Heap) : Kp I S h h := fun _ _ _ _ e => e
theorem Kp.list {I S l : Addr} {h0 h : Heap} {its : Array Value} (k : Kp I S h0 h) (n1 : l ≠ I) (n2 : l ≠ S) (e : h0.IsList l its) : h.IsList l its := e.at fun o q => k l o n1 n2 q
section
variable {prog : Program} {w : World} {A : Around} {R : Result → Shared → Prop} {I S l : Addr} {its : Array Value} {bt : Nat → Nat → Bool} {kws : List (Str × Value)} {h0 : Heap}
def CmpIn (prog : Program) (w : World) (A : Around) (I S : Addr) (h0 : Heap) (its : Array Value) (bt : Nat → Nat → Bool) : Prop :=
  ∀ (i j : Nat) (u v : Value) (s : Shared) (Q : Value → Shared → Prop) (E : Value → Shared → Prop), Kp I S h0 s.heap → its[i]? = some u → its[j]? = some v → Q (.bool (bt i j)) s → wpAny (model prog w) A (richCompare .Gt u v) Q E s
theorem loop (hh : A.in1.handled = none) (n1 : l ≠ I) (n2 : l ≠ S) (n3 : S ≠ I) (hl : h0.IsList l its) (hc : CmpIn prog w A.in1 I S h0 its bt) :
    ∀ (k j : Nat) (s : Shared) (vb : Value) (c : Nat), its.size - (j + 1) = k → j + 1 ≤ its.size → s.heap.IsListIter I l (j + 1) → Kp I S h0 s.heap → its[argBest bt j]? = some vb →
      s.heap.get? S = some { cls := .type "list", dict := none, data := .seq #[vb, vb] c, slots := #[] } →
      (∀ v h' tk, its[argBest bt (its.size - 1)]? = some v → Kp I S h0 h' → R (.ok (.ret v)) { s with heap := h', toks := tk }) →
      codeAny (model prog w) A (.builtin "max.loop" ⟨[.ref I, .none, .ref S], kws⟩) R s := by
  have W := Walks.list (prog := prog) (w := w) (A := A.in1) hh I l n1 its
  have nm : (toString "max" ++ toString ".loop" : String) = "max.loop" := by decide
  have SnI : S ∉ [I] := by simp [n3]
  intro k
  induction k with
  | zero =>
    intro j s vb c hk hj it kp pb hS hR
    have e : j + 1 = its.size := by omega
    apply codeAny_builtin F.entry_max_loop
    rw [Around.under_plainId F.plain_max_loop _]
    change wpAny _ A.in1 (seqItems? (.ref S) >>= _) _ _ s
    refine wpAny_bind (wpAny_seqItems hS rfl ?_)
    change wpAny _ A.in1 (tryCatch (pyNext (.ref I)) _ >>= _) _ _ s
    refine wpAny_bind (wpAny_tryCatch (W.done s _ _ (e ▸ ⟨it, kp.list n1 n2 hl⟩) fun h' tk kk => ?_))
    change wpAny _ A.in1 (updateSeq S (fun _ => #[]) >>= _) _ _ _
    refine wpAny_bind (wpAny_updateSeq (kk S _ SnI hS) rfl (wpAny_bind (wpAny_letGo (wpAny_pure (hR vb _ tk (by rw [← e]; exact pb) ?_)))))
    intro b o h1 h2 q
    exact (Heap.get?_update_other _ _ (Ne.symm h2)).trans (kk b o (by simp [h1]) (kp b o h1 h2 q))
  | succ k ih =>
    intro j s vb c hk hj it kp pb hS hR
    have lt : j + 1 < its.size := by omega
    apply codeAny_builtin F.entry_max_loop
    rw [Around.under_plainId F.plain_max_loop _]
    change wpAny _ A.in1 (seqItems? (.ref S) >>= _) _ _ s
    refine wpAny_bind (wpAny_seqItems hS rfl ?_)
    change wpAny _ A.in1 (tryCatch (pyNext (.ref I)) _ >>= _) _ _ s
    refine wpAny_bind (wpAny_tryCatch (W.item (j + 1) s _ _ lt ⟨it, kp.list n1 n2 hl⟩ fun v h' tk pv st kk => ?_))
    have hS' := kk S _ SnI hS
    have kp' : Kp I S h0 h' := fun b o h1 h2 q => kk b o (by simp [h1]) (kp b o h1 h2 q)
    change wpAny _ A.in1 (tryCatch (holding [v, v] (richCompare .Gt v vb >>= _)) _ >>= _) _ _ _
    refine wpAny_bind (wpAny_tryCatch (wpAny_holding (wpAny_bind (hc (j + 1) (argBest bt j) v vb _ _ _ kp' pv pb ?_))))
    refine wpAny_bind (wpAny_holding (wpAny_truthy_bool (wpAny_bind (wpAny_letGo (wpAny_pure ?_)))))
    cases hb : bt (j + 1) (argBest bt j) with
    | true =>
      simp only [if_true]
      refine wpAny_bind (wpAny_updateSeq hS' rfl (wpAny_bind (wpAny_letGo ?_)))
      rw [nm]
      refine wpAny_pure ⟨plainId_quiet F.plain_max_loop _, ih (j + 1) _ v _ (by omega) lt ?_ ?_ ?_ (Heap.get?_update_self _ hS' rfl) fun v' h2 tk2 p2 k2 => hR v' h2 tk2 p2 k2⟩
      · exact st.1.at fun o q => (Heap.get?_update_other _ _ n3).trans q
      · exact fun b o h1 h2 q => (Heap.get?_update_other _ _ (Ne.symm h2)).trans (kp' b o h1 h2 q)
      · simp only [argBest, hb, if_true]
        exact pv
    | false =>
      simp only [Bool.false_eq_true, if_false]
      refine wpAny_bind (wpAny_letGo ?_)
      rw [nm]
      refine wpAny_pure ⟨plainId_quiet F.plain_max_loop _, ih (j + 1) _ vb c (by omega) lt st.1 kp' ?_ hS' fun v' h2 tk2 p2 k2 => hR v' h2 tk2 p2 k2⟩
      simp only [argBest, hb, Bool.false_eq_true, if_false]
      exact pb
theorem first (hh : A.in1.handled = none) (n1 : l ≠ I) (n2 : l ≠ S) (n3 : S ≠ I) (hl : h0.IsList l its) (hc : CmpIn prog w A.in1 I S h0 its bt) {s : Shared} {c : Nat} (h1 : 0 < its.size)
    (it : s.heap.IsListIter I l 0) (kp : Kp I S h0 s.heap) (hS : s.heap.get? S = some { cls := .type "list", dict := none, data := .seq #[] c, slots := #[] })
    (hR : ∀ v h' tk, its[argBest bt (its.size - 1)]? = some v → Kp I S h0 h' → R (.ok (.ret v)) { s with heap := h', toks := tk }) :
    codeAny (model prog w) A (.builtin "max.loop" ⟨[.ref I, .none, .ref S], kws⟩) R s := by
  have W := Walks.list (prog := prog) (w := w) (A := A.in1) hh I l n1 its
  have nm : (toString "max" ++ toString ".loop" : String) = "max.loop" := by decide
  have SnI : S ∉ [I] := by simp [n3]
  apply codeAny_builtin F.entry_max_loop
  rw [Around.under_plainId F.plain_max_loop _]
  change wpAny _ A.in1 (seqItems? (.ref S) >>= _) _ _ s
  refine wpAny_bind (wpAny_seqItems hS rfl ?_)
  change wpAny _ A.in1 (tryCatch (pyNext (.ref I)) _ >>= _) _ _ s
  refine wpAny_bind (wpAny_tryCatch (W.item 0 s _ _ h1 ⟨it, kp.list n1 n2 hl⟩ fun v h' tk pv st kk => ?_))
  have hS' := kk S _ SnI hS
  have kp' : Kp I S h0 h' := fun b o h1 h2 q => kk b o (by simp [h1]) (kp b o h1 h2 q)
  change wpAny _ A.in1 (updateSeq S (fun _ => #[v, v]) >>= _) _ _ _
  refine wpAny_bind (wpAny_updateSeq hS' rfl ?_)
  rw [nm]
  refine wpAny_pure ⟨plainId_quiet F.plain_max_loop _, loop hh n1 n2 n3 hl hc _ 0 _ v _ rfl h1 ?_ ?_ pv (Heap.get?_update_self _ hS' rfl) fun v' h2 tk2 p2 k2 => hR v' h2 tk2 p2 k2⟩
  · exact st.1.at fun o q => (Heap.get?_update_other _ _ n3).trans q
  · exact fun b o h1 h2 q => (Heap.get?_update_other _ _ (Ne.symm h2)).trans (kp' b o h1 h2 q)
/-- of nothing: the default -/
theorem none_at (hh : A.in1.handled = none) (n1 : l ≠ I) (hl : h0.IsList l #[]) {s : Shared} {c : Nat} {d : Value} (n2 : l ≠ S) (n3 : S ≠ I)
    (it : s.heap.IsListIter I l 0) (kp : Kp I S h0 s.heap) (hS : s.heap.get? S = some { cls := .type "list", dict := none, data := .seq #[] c, slots := #[] })
    (hR : ∀ h' tk, Kp I S h0 h' → R (.ok (.ret d)) { s with heap := h', toks := tk }) :
    codeAny (model prog w) A (.builtin "max.loop" ⟨[.ref I, .none, .ref S], [("default", d)]⟩) R s := by
  have W := Walks.list (prog := prog) (w := w) (A := A.in1) hh I l n1 #[]
  apply codeAny_builtin F.entry_max_loop
  rw [Around.under_plainId F.plain_max_loop _]
  change wpAny _ A.in1 (seqItems? (.ref S) >>= _) _ _ s
  refine wpAny_bind (wpAny_seqItems hS rfl ?_)
  change wpAny _ A.in1 (tryCatch (pyNext (.ref I)) _ >>= _) _ _ s
  refine wpAny_bind (wpAny_tryCatch (W.done s _ _ ⟨it, kp.list n1 n2 hl⟩ fun h' tk kk => ?_))
  have kp' : Kp I S h0 h' := fun b o h1 h2 q => kk b o (by simp [h1]) (kp b o h1 h2 q)
  wp_walk
  exact hR h' tk kp'
end
section
variable {prog : Program} {w : World} {A : Around} {E : Value → Shared → Prop} {s : Shared} {l : Addr} {its : Array Value} {bt : Nat → Nat → Bool} {kws : List (Str × Value)} {df : Option Value} {Q : Value → Shared → Prop}
theorem to_loop (ha : argsOk "max" ⟨[.ref l], kws⟩) (hb : Builtin.Builtins.bindParams "max" ["key", "default"] 0 ⟨[], kws⟩ = pure [none, df]) (hk : df.toList.map (fun d => (("default" : Str), d)) = kws) (hl : s.heap.IsList l its)
    (h : ∀ (s2 : Shared) (I S : Addr), s2.gens = s.gens → s2.drawn = s.drawn → s2.os = s.os → l ≠ I → l ≠ S → S ≠ I → (∀ b o, s.heap.get? b = some o → b ≠ I ∧ b ≠ S) → s2.heap.IsListIter I l 0 → Kp I S s.heap s2.heap →
      s2.heap.get? S = some { cls := .type "list", dict := none, data := .seq #[] 0, slots := #[] } →
      codeAny (model prog w) A (.builtin "max.loop" ⟨[.ref I, .none, .ref S], kws⟩) (fun r s' => match r with | .ok (.ret v) => Q v s' | .ok _ => False | .error e => E e s') s2) :
    wpAny (model prog w) A (call (.builtin "max") [.ref l] kws) Q E s := by
  have nm : (toString "max" ++ toString ".loop" : String) = "max.loop" := by decide
  have ll : l < s.heap.objs.size := by
    obtain ⟨_, e, _⟩ := hl
    exact Heap.lt_size e
  refine wpAny_call (codeAny_call_builtin F.plain_max F.entry_max ?_)
  simp only [checkBuiltinCall, F.kind_max]
  have fin : wpAny (model prog w) A.in1 (Builtin.«max» ⟨[.ref l], kws⟩) (fun fin s' => match fin with
      | .done f => (match (Except.ok f : Result) with | .ok (.ret v) => Q v s' | .ok _ => False | .error e => E e s')
      | .again c' => c'.quiet = true ∧ codeAny (model prog w) A c' (fun r s' => match r with | .ok (.ret v) => Q v s' | .ok _ => False | .error e => E e s') s') E s := by
    change wpAny _ A.in1 (Builtin.Builtins.bindParams "max" ["key", "default"] 0 ⟨[], kws⟩ >>= _) _ _ s
    refine wpAny_bind (wpAny_of_eq hb ?_)
    refine wpAny_bind (wpAny_pure ?_)
    refine wpAny_bind (wpAny_pyIter_list hl ?_)
    refine wpAny_bind (wpAny_newObj_type ?_)
    rw [nm, hk]
    refine wpAny_pure ⟨plainId_quiet F.plain_max_loop _, h _ s.heap.objs.size _ rfl rfl rfl (Nat.ne_of_lt ll) ?_ ?_ ?_ ?_ ?_ (Heap.get?_push_size _ rfl)⟩
    · rw [Heap.size_push]
      exact Nat.ne_of_lt (Nat.lt_succ_of_lt ll)
    · rw [Heap.size_push]
      exact Nat.succ_ne_self _
    · intro b o e
      rw [Heap.size_push]
      exact ⟨Nat.ne_of_lt (Heap.lt_size e), Nat.ne_of_lt (Nat.lt_succ_of_lt (Heap.lt_size e))⟩
    · exact ⟨_, Heap.get?_push_of_some _ (Heap.get?_push_size _ rfl), rfl, rfl⟩
    · exact fun b o _ _ e => Heap.get?_push_of_some _ (Heap.get?_push_of_some _ e)
  cases hsig : Manifest.signature? "max" with
  | none => exact wpAny_pure fin
  | some sig =>
    simp only [argsOk, hsig] at ha
    have h2 : Bind.checkArgs "max" sig ⟨[.ref l], kws⟩ = pure () := ha
    change wpAny _ A.in1 (Bind.checkArgs "max" sig ⟨[.ref l], kws⟩) _ _ s
    rw [h2]
    exact wpAny_pure fin
theorem kept_all {I S : Addr} {h h' : Heap} (f : ∀ b o, h.get? b = some o → b ≠ I ∧ b ≠ S) (k : Kp I S h h') : ∀ b o, h.get? b = some o → h'.get? b = some o := fun b o e => k b o (f b o e).1 (f b o e).2 e
theorem args_def (a d : Value) : argsOk "max" ⟨[a], [("default", d)]⟩ := by
  unfold argsOk
  kernel_rfl
theorem bind_def (d : Value) : Builtin.Builtins.bindParams "max" ["key", "default"] 0 ⟨[], [("default", d)]⟩ = pure [none, some d] := by kernel_rfl
theorem bind_0 : Builtin.Builtins.bindParams "max" ["key", "default"] 0 ⟨[], []⟩ = pure [none, none] := by kernel_rfl
end
end Mx
end PySem
namespace L2
open PySem PySem.Spec PyProof.Rows Kit
/-- pairs of whole numbers, one above the other -/
def pgt (p q : Int × Int) : Bool := decide (q.1 < p.1) || (decide (p.1 = q.1) && decide (q.2 < p.2))
theorem pgt_tr {p q r : Int × Int} (h1 : pgt p q = false) (h2 : pgt q r = false) : pgt p r = false := by
  obtain ⟨a, b⟩ := p
  obtain ⟨c, d⟩ := q
  obtain ⟨e, f⟩ := r
  simp only [pgt, Bool.or_eq_false_iff, Bool.and_eq_false_iff, decide_eq_false_iff_not] at *
  omega
theorem pgt_as {p q : Int × Int} (h : pgt p q = true) : pgt q p = false := by
  obtain ⟨a, b⟩ := p
  obtain ⟨c, d⟩ := q
  simp only [pgt, Bool.or_eq_false_iff, Bool.and_eq_false_iff, decide_eq_false_iff_not, Bool.or_eq_true, Bool.and_eq_true, decide_eq_true_eq] at *
  omega
theorem pgt_ir (p : Int × Int) : pgt p p = false := by
  obtain ⟨a, b⟩ := p
  simp [pgt]
theorem best_of (f : Nat → Int × Int) : ∀ k, argBest (fun i j => pgt (f i) (f j)) k ≤ k ∧ ∀ i, i ≤ k → pgt (f i) (f (argBest (fun i j => pgt (f i) (f j)) k)) = false
  | 0 => ⟨Nat.le_refl _, fun i hi => by
    have e : i = 0 := by omega
    subst e
    exact pgt_ir _⟩
  | k + 1 => by
    obtain ⟨h1, h2⟩ := best_of f k
    rw [show argBest (fun i j => pgt (f i) (f j)) (k + 1) = if pgt (f (k + 1)) (f (argBest (fun i j => pgt (f i) (f j)) k)) = true then k + 1 else argBest (fun i j => pgt (f i) (f j)) k from rfl]
    cases hb : pgt (f (k + 1)) (f (argBest (fun i j => pgt (f i) (f j)) k)) with
    | true =>
      rw [if_pos rfl]
      refine ⟨Nat.le_refl _, fun i hi => ?_⟩
      rcases Nat.lt_or_ge k i with h | h
      · have e : i = k + 1 := by omega
        subst e
        exact pgt_ir _
      · exact pgt_tr (h2 i h) (pgt_as hb)
    | false =>
      rw [if_neg Bool.false_ne_true]
      refine ⟨Nat.le_succ_of_le h1, fun i hi => ?_⟩
      rcases Nat.lt_or_ge k i with h | h
      · have e : i = k + 1 := by omega
        subst e
        exact hb
      · exact h2 i h
theorem best_int (f : Nat → Int) : ∀ k, argBest (fun i j => decide (f i > f j)) k ≤ k ∧ ∀ i, i ≤ k → f i ≤ f (argBest (fun i j => decide (f i > f j)) k)
  | 0 => ⟨Nat.le_refl _, fun i hi => by
    have e : i = 0 := by omega
    subst e
    exact Int.le_refl _⟩
  | k + 1 => by
    obtain ⟨h1, h2⟩ := best_int f k
    rw [show argBest (fun i j => decide (f i > f j)) (k + 1) = if decide (f (k + 1) > f (argBest (fun i j => decide (f i > f j)) k)) = true then k + 1 else argBest (fun i j => decide (f i > f j)) k from rfl]
    by_cases hb : f (k + 1) > f (argBest (fun i j => decide (f i > f j)) k)
    · rw [if_pos (decide_eq_true hb)]
      refine ⟨Nat.le_refl _, fun i hi => ?_⟩
      rcases Nat.lt_or_ge k i with h | h
      · have e : i = k + 1 := by omega
        subst e
        exact Int.le_refl _
      · have := h2 i h
        omega
    · rw [if_neg (by rw [decide_eq_false hb]; exact Bool.false_ne_true)]
      refine ⟨Nat.le_succ_of_le h1, fun i hi => ?_⟩
      rcases Nat.lt_or_ge k i with h | h
      · have e : i = k + 1 := by omega
        subst e
        omega
      · exact h2 i h
section
variable {X : Cx}
theorem cmp_pair {A : Around} {s : Shared} {a b : Addr} {p q : Int × Int} {t1 t2 t3 t4 : Tok} (ha : s.heap.IsTuple a #[.int p.1 t1, .int p.2 t2]) (hb : s.heap.IsTuple b #[.int q.1 t3, .int q.2 t4]) (hu : A.units < cLine) :
    Ob.RcOp .Gt A s (.ref a) (.ref b) (pgt p q) := by
  have h := Ob.RcOp.tuples_gt (A := A) (e := fun j => if j = 0 then p.1 == q.1 else p.2 == q.2) (r := fun j => if j = 0 then decide (q.1 < p.1) else decide (q.2 < p.2)) ha hb hu ?_ ?_
  · have e : Ob.lexAt (fun j => if j = 0 then p.1 == q.1 else p.2 == q.2) (fun j => if j = 0 then decide (q.1 < p.1) else decide (q.2 < p.2)) (decide ((#[Value.int p.1 t1, .int p.2 t2] : Array Value).size > (#[Value.int q.1 t3, .int q.2 t4] : Array Value).size)) 0
        (min (#[Value.int p.1 t1, .int p.2 t2] : Array Value).size (#[Value.int q.1 t3, .int q.2 t4] : Array Value).size) = pgt p q := by
      change (if (p.1 == q.1) = true then (if (p.2 == q.2) = true then decide (2 > 2) else decide (q.2 < p.2)) else decide (q.1 < p.1)) = pgt p q
      unfold pgt
      by_cases h1 : p.1 = q.1
      · by_cases h2 : p.2 = q.2
        · simp [h1, h2]
        · simp [h1, h2]
      · simp [h1]
    rw [e] at h
    exact h
  · intro j h1 h2
    match j, h1, h2 with
    | 0, _, _ => exact SeqAt.EqAt.int_int _ _ _ _
    | 1, _, _ => exact SeqAt.EqAt.int_int _ _ _ _
  · intro j h1 h2 _
    match j, h1, h2 with
    | 0, _, _ => exact Ob.RcOp.gt_int _ _ _ _
    | 1, _, _ => exact Ob.RcOp.gt_int _ _ _ _
/-- max of a list of pairs -/
def rMaxP (K : PySem.W.Frag) : List V → Hp → VK → Prop := fun vs H Q => ∃ (a : Addr) (rs : List Addr) (ps : List (Int × Int)), vs = [.ref a] ∧ SqL K H a (rs.map V.ref) ∧ rs.length = ps.length ∧ 0 < ps.length ∧
  (∀ (i : Nat) (r : Addr) (p : Int × Int), rs[i]? = some r → ps[i]? = some p → SqT K H r [.int p.1, .int p.2]) ∧
  ∀ (i : Nat) (r : Addr) (p : Int × Int), rs[i]? = some r → ps[i]? = some p → (∀ q ∈ ps, pgt q p = false) → Q (.ref r) H
theorem call_maxP (hc : X.calm = true) (hu : X.A.units + 64 < cLine) : CallR X (.builtin "max") (rMaxP X.K) := by
  intro pins s σ H vs us Q I r h
  obtain ⟨a, rs, ps, rfl, hs, hl, h0, ht, q⟩ := h
  obtain ⟨its, rv, pl, _⟩ := I.list hs
  rw [Vals.ref1 r]
  have li := pl.isList
  have hn : its.toArray.size = ps.length := by
    have e1 := Paired.length rv
    rw [List.length_map, hl] at e1
    have e2 : its.toArray.size = its.length := List.size_toArray
    omega
  have at_ : ∀ (i : Nat) (v : Value), its.toArray[i]? = some v → ∃ (r : Addr) (p : Int × Int) (t1 t2 : Tok), rs[i]? = some r ∧ ps[i]? = some p ∧ v = .ref r ∧ s.heap.IsTuple r #[.int p.1 t1, .int p.2 t2] := by
    intro i v hv
    have hi : i < ps.length := by
      rw [← hn]
      exact (Array.getElem?_eq_some_iff.mp hv).1
    obtain ⟨r, e1⟩ : ∃ r, rs[i]? = some r := ⟨rs[i]'(by omega), List.getElem?_eq_getElem _⟩
    obtain ⟨p, e2⟩ : ∃ p, ps[i]? = some p := ⟨ps[i]'hi, List.getElem?_eq_getElem _⟩
    have e0 : (rs.map V.ref)[i]? = some (.ref r) := by
      rw [List.getElem?_map, e1]
      rfl
    obtain ⟨u, hu', ru⟩ := rv.get e0
    have hv' : its[i]? = some v := by
      rw [← hv]
      simp
    rw [hv'] at hu'
    have e4 : v = u := Option.some.inj hu'
    have e3 : u = .ref r := ru
    obtain ⟨ts, rt, tt, _⟩ := I.tuple (ht i r p e1 e2)
    cases rt with
    | cons r1 rt =>
      cases rt with
      | cons r2 rt =>
        cases rt
        obtain ⟨t1, rfl⟩ := r1
        obtain ⟨t2, rfl⟩ := r2
        exact ⟨r, p, t1, t2, e1, e2, e4.trans e3, tt⟩
  refine PySem.Mx.to_loop (kws := []) (df := none) (F.args_max1 _) PySem.Mx.bind_0 rfl li fun s2 Ia Sa g1 g2 g3 n1 n2 n3 fr it kp hS => ?_
  have hh : X.A.in1.handled = none := I.ok.hd hc
  refine PySem.Mx.first (bt := fun i j => pgt (ps.getD i (0, 0)) (ps.getD j (0, 0))) hh n1 n2 n3 li ?_ (by omega) it kp hS ?_
  · intro i j u v s' Q' E' k' hi hj hq
    obtain ⟨r1, p1, t1, t2, _, e2, rfl, tu⟩ := at_ i u hi
    obtain ⟨r2, p2, t3, t4, _, f2, rfl, tv⟩ := at_ j v hj
    have x1 : ps.getD i (0, 0) = p1 := by rw [List.getD_eq_getElem?_getD, e2]; rfl
    have x2 : ps.getD j (0, 0) = p2 := by rw [List.getD_eq_getElem?_getD, f2]; rfl
    have kk := PySem.Mx.kept_all fr k'
    dsimp only at hq
    rw [x1, x2] at hq
    exact cmp_pair (tu.at fun o q => kk _ o q) (tv.at fun o q => kk _ o q) (by show X.A.units + 1 < cLine; omega) _ _ _ _ hq
  · intro v h' tk pv kp'
    obtain ⟨r1, p1, t1, t2, e1, e2, rfl, _⟩ := at_ _ v pv
    have kk := PySem.Mx.kept_all fr kp'
    have bst := best_of (fun i => ps.getD i (0, 0)) (its.toArray.size - 1)
    have eq2 : s2 = { s with heap := s2.heap, toks := s2.toks } := by
      cases s2
      cases s
      simp only at g1 g2 g3
      subst g1 g2 g3
      rfl
    refine ⟨.ref r1, H, ?_, rfl, q _ r1 p1 e1 e2 fun p hp => ?_⟩
    · rw [eq2]
      exact I.kept (t' := tk) kk
    · obtain ⟨j, hj⟩ := List.mem_iff_getElem?.mp hp
      have hj' : j < ps.length := (List.getElem?_eq_some_iff.mp hj).1
      have z := bst.2 j (by omega)
      have x1 : ps.getD j (0, 0) = p := by rw [List.getD_eq_getElem?_getD, hj]; rfl
      have x2 : ps.getD (argBest (fun i j => pgt (ps.getD i (0, 0)) (ps.getD j (0, 0))) (its.toArray.size - 1)) (0, 0) = p1 := by rw [List.getD_eq_getElem?_getD, e2]; rfl
      rw [x1, x2] at z
      exact z
/-- max of a list of whole numbers, or what is told where there is none -/
def rMaxDf (K : PySem.W.Frag) : List V → List V → Hp → VK → Prop := fun vs zs H Q => ∃ (a : Addr) (ns : List Int) (d : V), vs = [.ref a] ∧ zs = [d] ∧ SqL K H a (ns.map V.int) ∧
  (ns = [] → Q d H) ∧ ∀ m, m ∈ ns → (∀ y, y ∈ ns → y ≤ m) → Q (.int m) H
theorem call_maxDf (hc : X.calm = true) : CallRK X (.builtin "max") [("default" : Str)] (rMaxDf X.K) := by
  intro pins s σ H vs zs us ws Q I r rz h
  obtain ⟨a, ns, d, rfl, rfl, hs, qn, q⟩ := h
  obtain ⟨its, rv, pl, _⟩ := I.list hs
  rw [Vals.ref1 r]
  obtain ⟨dv, rfl, rd⟩ := rz.one
  have li := pl.isList
  refine PySem.Mx.to_loop (kws := [("default", dv)]) (df := some dv) (PySem.Mx.args_def _ _) (PySem.Mx.bind_def _) rfl li fun s2 Ia Sa g1 g2 g3 n1 n2 n3 fr it kp hS => ?_
  have hh : X.A.in1.handled = none := I.ok.hd hc
  have eq2 : s2 = { s with heap := s2.heap, toks := s2.toks } := by
    cases s2
    cases s
    simp only at g1 g2 g3
    subst g1 g2 g3
    rfl
  have at_ : ∀ (i : Nat) (v : Value), its.toArray[i]? = some v → ∃ (k : Int) (t : Tok), ns[i]? = some k ∧ v = .int k t := by
    intro i v hv
    have hv' : its[i]? = some v := by
      rw [← hv]
      simp
    have hi : i < its.length := (List.getElem?_eq_some_iff.mp hv').1
    have e1 := Paired.length rv
    rw [List.length_map] at e1
    obtain ⟨k, ek⟩ : ∃ k, ns[i]? = some k := ⟨ns[i]'(by omega), List.getElem?_eq_getElem _⟩
    have e0 : (ns.map V.int)[i]? = some (.int k) := by
      rw [List.getElem?_map, ek]
      rfl
    obtain ⟨u, hu', t, ru⟩ := rv.get e0
    rw [hv'] at hu'
    exact ⟨k, t, ek, (Option.some.inj hu').trans ru⟩
  cases ns with
  | nil =>
    cases rv
    refine PySem.Mx.none_at hh n1 li n2 n3 it kp hS fun h' tk kp' => ?_
    rw [eq2]
    exact ⟨d, H, I.kept (t' := tk) (PySem.Mx.kept_all fr kp'), rd, qn rfl⟩
  | cons k0 ns =>
    have e1 := Paired.length rv
    rw [List.length_map] at e1
    have e2 : its.toArray.size = its.length := List.size_toArray
    have h1 : 0 < its.toArray.size := by
      rw [e2, ← e1]
      exact Nat.succ_pos _
    refine PySem.Mx.first (bt := fun i j => decide ((k0 :: ns).getD i 0 > (k0 :: ns).getD j 0)) hh n1 n2 n3 li ?_ h1 it kp hS ?_
    · intro i j u v s' Q' E' k' hi hj hq
      obtain ⟨a1, t1, x1, rfl⟩ := at_ i u hi
      obtain ⟨a2, t2, x2, rfl⟩ := at_ j v hj
      have y1 : (k0 :: ns).getD i 0 = a1 := by rw [List.getD_eq_getElem?_getD, x1]; rfl
      have y2 : (k0 :: ns).getD j 0 = a2 := by rw [List.getD_eq_getElem?_getD, x2]; rfl
      dsimp only at hq
      rw [y1, y2] at hq
      exact PyProof.Rows.gt_int hq
    · intro v h' tk pv kp'
      obtain ⟨a1, t1, x1, rfl⟩ := at_ _ v pv
      obtain ⟨b1, b2⟩ := best_int (fun i => (k0 :: ns).getD i 0) (its.toArray.size - 1)
      rw [eq2]
      refine ⟨.int a1, H, I.kept (t' := tk) (PySem.Mx.kept_all fr kp'), ⟨t1, rfl⟩, q a1 (List.mem_of_getElem? x1) fun y hy => ?_⟩
      obtain ⟨j, hj⟩ := List.mem_iff_getElem?.mp hy
      have hj' : j < (k0 :: ns).length := (List.getElem?_eq_some_iff.mp hj).1
      have z := b2 j (by omega)
      have y1 : (k0 :: ns).getD j 0 = y := by rw [List.getD_eq_getElem?_getD, hj]; rfl
      have y2 : (k0 :: ns).getD (argBest (fun i j => decide ((k0 :: ns).getD i 0 > (k0 :: ns).getD j 0)) (its.toArray.size - 1)) 0 = a1 := by rw [List.getD_eq_getElem?_getD, x1]; rfl
      rw [y1, y2] at z
      exact z
end
end L2

/-! enumerate over a tuple; walks over zips of tuples -/
namespace PySem
namespace En
open Sem (wp)
set_option maxHeartbeats 1000000 in
theorem new1 {v : Value} {o : Obj} {G : Heap → Prop} (B : Begins v o G) :
    Meets (Builtin.«enumerate.__new__» ⟨[.type "enumerate", v], []⟩) (fun _ R s => G s.heap ∧
      R (.ok (.ret (.ref (s.heap.push o).objs.size))) { s with heap := (s.heap.push o).push { cls := .type "enumerate", data := .fields #[.none, .bool false, .ref s.heap.objs.size, rawInt 0, .none, .none] } }) :=
  .of_wp fun prog w A R s hh => by
    obtain ⟨hp, g, d, tk, os⟩ := s
    obtain ⟨h1, hr⟩ := hh
    have c0 := sub_enumerate
    have c1 : ∀ {A' : Around} {E : Value → Shared → Prop} {Q : Value → Shared → Prop}, Q (.ref hp.objs.size) ⟨hp.push o, g, d, tk, os⟩ → wpAny (model prog w) A' (pyIter v) Q E ⟨hp, g, d, tk, os⟩ :=
      fun z => B.iter prog w _ _ ⟨hp, g, d, tk, os⟩ _ h1 z
    wp_walk using c1
    refine wpAny_stack_any fun _ => wpAny_pure ?_
    split
    · rename_i c _ _ _ _ _
      cases (c == Value.type "enumerate") <;>
      · wp_walk using c1
        exact ⟨_, rfl, hr⟩
    · wp_walk using c1
      exact ⟨_, rfl, hr⟩
section
variable {prog : Program} {w : World} {A : Around} {E : Value → Shared → Prop} {s : Shared}
theorem call1 {v : Value} {o : Obj} {G : Heap → Prop} {Q : Value → Shared → Prop} (B : Begins v o G) (h1 : G s.heap)
    (h : ∀ h', IsEnum h' (s.heap.objs.size + 1) s.heap.objs.size 0 .none → h'.get? s.heap.objs.size = some o →
      (∀ b u, s.heap.get? b = some u → h'.get? b = some u) → Q (.ref (s.heap.objs.size + 1)) { s with heap := h' }) :
    wpAny (model prog w) A (call (.type "enumerate") [v]) Q E s := by
  refine callType_new F.called_enumerate (by decide) (F.typeCall_enumerate_1 _) (F.newCall_enumerate_1 _) (fun obj => F.args_object_init_2 obj _) F.entry_enumerate_new (new1 B) ⟨h1, ?_⟩
  have sz : (s.heap.push o).objs.size = s.heap.objs.size + 1 := Heap.size_push ..
  change _ ∧ _
  rw [sz]
  have at1 : IsEnum ((s.heap.push o).push { cls := .type "enumerate", data := .fields #[.none, .bool false, .ref s.heap.objs.size, rawInt 0, .none, .none] }) (s.heap.objs.size + 1) s.heap.objs.size 0 .none := by
    have z := Heap.get?_push_size (s.heap.push o) (o := { cls := .type "enumerate", data := .fields #[.none, .bool false, .ref s.heap.objs.size, rawInt 0, .none, .none] }) rfl
    rw [sz] at z
    exact z
  exact ⟨⟨_, at1, rfl⟩, h _ at1 (Heap.get?_push_of_some _ (Heap.get?_push_size _ B.free)) fun b u e => Heap.get?_push_of_some _ (Heap.get?_push_of_some _ e)⟩
end
theorem endDraws {prog : Program} {w : World} {A : Around} (hh : A.in1.handled = none) (it t : Addr) (hne : t ≠ it) {items : Array Value} {n : Nat} (hn : items[n]? = none) :
    Draws prog w A.in1 it [it, t] n (fun _ _ => True) (fun j h => j = n ∧ h.IsTupleIter it t n ∧ h.IsTuple t items) where
  live := fun _ _ st => by
    obtain ⟨_, ⟨o, ho, _⟩, _⟩ := st
    exact ⟨o, ho⟩
  frame := fun _ _ _ st hk => ⟨st.1, st.2.1.at fun o e => hk it (by simp) o e, st.2.2.at fun o e => hk t (by simp) o e⟩
  item := fun i s Q E hi st _ => absurd st.1 (Nat.ne_of_lt hi)
  done := fun s Q E st hE => wpAny_nextOf_tuple_end hh st.2.1 st.2.2 hn hE
end En
end PySem
namespace L2
open PySem PySem.Spec PyProof.Rows Kit
/-- the tuple at a as it stands at each turn, each item in a new pair -/
def IteT (K : PySem.W.Frag) (a : Addr) : It :=
  ⟨fun i H => ∃ (xs : List V) (x : V), SqT K H a xs ∧ xs[i]? = some x, fun i H v H' => ∃ T x, v = .ref T ∧ H T = none ∧ H' = upd H T (.tup [.int (i : Nat), x]) ∧ ∀ xs, SqT K H a xs → xs[i]? = some x,
    fun i H => ∃ xs : List V, SqT K H a xs ∧ xs.length ≤ i⟩
theorem turn_enumT {P : Program} {w : World} {K : PySem.W.Frag} {elts : List Expr} {kk : Nat} {tpos : Pos} (a e it : Addr) (n1 : e ≠ it) (n2 : a ≠ it) (n3 : a ≠ e) :
    Turn P w K (.Tuple elts kk tpos) (IteT K a) [e, it] e (fun i h => (∃ old, IsEnum h e it ((i : Nat) : Int) old) ∧ h.IsTupleIter it a i) where
  mem := by simp
  obj := fun i h st b hb => by
    obtain ⟨⟨old, he⟩, ⟨o, ho, hc, hd⟩⟩ := st
    have e' : b = e ∨ b = it := by simpa using hb
    rcases e' with rfl | rfl
    · exact ⟨_, he, fun v q => nomatch q⟩
    · exact ⟨o, ho, fun v q => by
        rw [hd] at q
        cases q⟩
  keep := fun i h h' st k => by
    obtain ⟨⟨old, he⟩, hi⟩ := st
    exact ⟨⟨old, k e (by simp) _ he⟩, hi.at fun o q => k it (by simp) o q⟩
  item := by
    intro X hP hw hK hc i pins s σ H E I hf st hg
    subst hP hw hK
    obtain ⟨⟨old, he⟩, hit⟩ := st
    obtain ⟨xs, x, hq, hx⟩ := hg
    obtain ⟨its, rv, p, hz⟩ := I.tuple hq
    obtain ⟨u, hu, ru⟩ := rv.get hx
    have hel : e < s.heap.objs.size := Heap.lt_size he
    have hil : it < s.heap.objs.size := by
      obtain ⟨_, q, _⟩ := hit
      exact Heap.lt_size q
    have hlen : i < its.toArray.size := by
      have := (List.getElem?_eq_some_iff.mp hu).1
      simpa using this
    have D := Draws.tuple (prog := X.prog) (w := X.w) (A := X.A.in1) (I.ok.hd hc) it a n2 its.toArray
    refine wpAny_pyNext_enum_itemD D he ⟨hit, p⟩ hlen n1 (by simp [n1, Ne.symm n3]) fun y h' tk hy ho st' hT hsz hk => ?_
    have ey : y = u := by
      have z : its[i]? = some y := by simpa using hy
      rw [hu] at z
      exact (Option.some.inj z).symm
    subst ey
    refine ⟨_, rfl, wpAny_letOwnedTupleGo_enum (s := { s with heap := h', toks := tk + 1 }) ho fun h'' he' sb => ?_⟩
    have hT2 : h''.get? s.heap.objs.size = some { cls := .type "tuple", data := .seq #[.int i tk, y] } := (sb.2 _ (Nat.ne_of_gt hel)).trans hT
    have new : ObjOk X.prog X.w (upd H s.heap.objs.size (.tup [.int (i : Nat), x])) h'' s.heap.objs.size (.tup [.int (i : Nat), x]) :=
      ⟨by show 2 ≤ sizeLine; decide, [.int i tk, y], .cons ⟨_, rfl⟩ (.cons ru .nil), ⟨_, hT2, rfl, _, rfl⟩⟩
    have I1 : Inv X pins σ (upd H s.heap.objs.size (.tup [.int (i : Nat), x])) { s with heap := h'', toks := tk + 1 } :=
      I.turnedNew (ch := [e, it]) (fun b ob hb q => (sb.2 b (fun z => hb (by simp [z]))).trans (hk b ob (fun z => hb (by simp [z])) (fun z => hb (by simp [z])) q)) hf (Nat.le_refl _) new
    refine ⟨.ref s.heap.objs.size, _, I1, rfl, ⟨_, x, rfl, I.hok.fresh (Nat.le_refl _), rfl, fun ys hy => by rw [I.tuple_inj hy hq]; exact hx⟩, ⟨⟨y, ?_⟩, st'.1.at fun o q => (sb.2 it (Ne.symm n1)).trans q⟩, fun b hb => ?_⟩
    · have e1 : ((i + 1 : Nat) : Int) = (i : Int) + 1 := by omega
      rw [e1]
      exact he'
    · have hb' : b < s.heap.objs.size := by
        have e' : b = e ∨ b = it := by simpa using hb
        rcases e' with rfl | rfl
        · exact hel
        · exact hil
      rw [upd_ne (Nat.ne_of_lt hb')]
      exact (hf b hb).1
  done := by
    intro X hP hw hK hc i pins s σ H E I hf st hg
    subst hP hw hK
    obtain ⟨⟨old, he⟩, hit⟩ := st
    obtain ⟨xs, hq, hx⟩ := hg
    obtain ⟨its, rv, p, hz⟩ := I.tuple hq
    obtain ⟨f0, f1, f2, f3, f4, f5⟩ := hf it (by simp)
    have hl : xs.length = its.length := Paired.length rv
    have hn : its.toArray[i]? = none := by
      have z : its[i]? = none := List.getElem?_eq_none (by omega)
      simpa using z
    exact wpAny_pyNext_enum_endD (En.endDraws (I.ok.hd hc) it a n2 hn) he ⟨rfl, hit, p⟩ fun h' eb => ⟨rfl, I.turned (t' := s.toks) (fun b o hb q => eb b o hb q) f0 f1 f3 f4 f5⟩
  self := fun A i s Q E st h => by
    obtain ⟨⟨_, he⟩, _⟩ := st
    exact wpAny_pyIter_enum he h
def iEnumT (K : PySem.W.Frag) (ta : TA) : TI := fun σ H R => ta σ H fun vs H1 => ∃ a xs, vs = [.ref a] ∧ SqT K H1 a xs ∧ R (IteT K a) H1
theorem pi_enumT {X : Cx} {e : Expr} {ta : TA} {p pos tpos : Pos} {elts : List Expr} {kk : Nat} (hg : Gl X "enumerate") (hm : X.mg "enumerate" = none) (ha : PA X [e] ta) (hs : starEach [e] X.env = [(false, eval e X.env)] := by rfl) :
    PI X (.Tuple elts kk tpos) (.Call (.Name "enumerate" p) [e] [] pos) (iEnumT X.K ta) := by
  constructor
  intro pins s σ H R I h
  refine Call_ (ld_blt I hg hm boot_enumerate (PyProof.Rows.callWith_type1 (thn (ha.run pos pins s σ H _ I h) ?_) hs rfl))
  rintro us s1 ⟨vs, H1, I1, r1, a, xs, rfl, hq, q⟩
  cases r1 with
  | cons r rr =>
    cases rr
    cases r
    obtain ⟨its, rv, tt, hz⟩ := I1.tuple hq
    have al : a < s1.heap.objs.size := by
      obtain ⟨o, e, _⟩ := tt
      exact Heap.lt_size e
    refine PySem.En.call1 (begins_tuple a its.toArray) tt fun h' he hit hk => wpAny_pyIter_enum he ?_
    have I2 : Inv X pins σ H1 { s1 with heap := h' } := I1.kept (t' := s1.toks) hk
    refine ⟨s1.heap.objs.size + 1, [s1.heap.objs.size + 1, s1.heap.objs.size], _, _, H1, rfl, I2, turn_enumT a (s1.heap.objs.size + 1) s1.heap.objs.size (Nat.succ_ne_self _) (Nat.ne_of_lt al) (Nat.ne_of_lt (Nat.lt_succ_of_lt al)), ⟨⟨.none, he⟩, ⟨_, hit, rfl, rfl⟩⟩, fun b hb => ?_, q⟩
    have e' : b = s1.heap.objs.size + 1 ∨ b = s1.heap.objs.size := by simpa using hb
    have hle : s1.heap.objs.size ≤ b := by
      rcases e' with rfl | rfl
      · exact Nat.le_add_right _ _
      · exact Nat.le_refl _
    exact I1.fpOk hle (I1.hok.fresh hle)
section
variable {K : PySem.W.Frag} {a b : Addr} {xs ys : List V}
theorem walk_enumT : Walk (IteT K a) xs.length (fun H => SqT K H a xs) (YPair (fun i => some (.int (i : Nat))) (fun i => xs[i]?)) where
  goes := fun i H hi h => ⟨xs, xs[i], h, by simp [hi]⟩
  stops := fun H h => ⟨xs, h, Nat.le_refl _⟩
  yields := fun i H x H' hi h y => by
    obtain ⟨T, u, rfl, nT, e, hu⟩ := y
    exact ⟨T, _, u, rfl, nT, e, rfl, hu xs h⟩
theorem walk_zipT {n : Nat} (h1 : n = xs.length) (h2 : n = ys.length) : Walk (RZ.ItzT K a b) n (fun H => SqT K H a xs ∧ SqT K H b ys) (YPair (fun i => xs[i]?) (fun i => ys[i]?)) where
  goes := fun i H hi h => ⟨xs, ys, xs[i]'(by omega), ys[i]'(by omega), h.1, h.2, List.getElem?_eq_getElem _, List.getElem?_eq_getElem _⟩
  stops := fun H h => ⟨xs, ys, h.1, h.2, .inl (by omega)⟩
  yields := fun i H x H' hi h y => by
    obtain ⟨T, u, v, rfl, nT, e, hu, hv⟩ := y
    exact ⟨T, u, v, rfl, nT, e, hu xs h.1, hv ys h.2⟩
end
end L2

/-! lambdas as values: made in a list, handed to a def, called there; a captured cell is known there -/
namespace X11
open PySem PySem.Spec PyProof.Rows L2 LamX NdefX Kit
/-! ### a known object let go, and known -/
def ex (c : Addr) (o : Obj) : HO := .frz o (.ext fun h => h.get? c = some o)
def unc (H : Hp) (c : Addr) : Hp := fun b => if b = c then none else H b
theorem unc_same {H : Hp} {c : Addr} : unc H c c = none := if_pos rfl
theorem unc_ne {H : Hp} {b c : Addr} (h : b ≠ c) : unc H c b = H b := if_neg h
theorem ex_ok {P : Program} {w : World} {H : Hp} {h : Heap} {c : Addr} {o : Obj} (e : h.get? c = some o) : ObjOk P w H h c (ex c o) :=
  ⟨e, e, ⟨o, e⟩, fun h1 h2 q st => st _ q⟩
theorem ne_ex {H : Hp} {b c : Addr} {o : Obj} {u : HO} (e : H c = some (ex c o)) (e2 : H b = some u) (n : ∀ o v, u ≠ .frz o v) : b ≠ c := fun z => by
  rw [z, e] at e2
  cases e2
  exact n _ _ rfl
section
variable {P : Program} {w : World} {H H' : Hp} {h h' : Heap} {c : Addr} {o : Obj} {fs : List Addr}
theorem hok_unc (x : HOk P w H h) (e : H c = some (ex c o)) : HOk P w (unc H c) h := fun b v q => by
  by_cases hb : b = c
  · subst hb
    rw [unc_same] at q
    cases q
  · rw [unc_ne hb] at q
    refine (x b v q).stay (fun _ _ _ z => z) (fun d z => ?_) fun d xs z => ?_
    · rw [unc_ne (ne_ex e z fun _ _ t => by cases t)]
      exact z
    · rw [unc_ne (ne_ex e z fun _ _ t => by cases t)]
      exact z
theorem hok_cov (x : HOk P w H h) (e : H c = none) (ho : h.get? c = some o) : HOk P w (upd H c (ex c o)) h := fun b v q => by
  by_cases hb : b = c
  · subst hb
    rw [upd_same] at q
    cases q
    exact ex_ok ho
  · rw [upd_ne hb] at q
    refine (x b v q).stay (fun _ _ _ z => z) (fun d z => ?_) fun d xs z => ?_
    · rw [upd_ne (ne_of_none z e)]
      exact z
    · rw [upd_ne (ne_of_none z e)]
      exact z
theorem cov_at (x : HOk P w H h) (e : H c = some (ex c o)) : h.get? c = some o := (x c _ e).1
theorem un_cov (u : Un fs [] (upd H c (ex c o)) H' h h') (x : HOk P w H' h') (e : H c = none) (ho : h.get? c = some o) : Un fs [] H (unc H' c) h h' := by
  have ec : H' c = some (ex c o) := u.frzs c o _ upd_same
  have ne : ∀ {b : Addr} {v : HO}, H b = some v → b ≠ c := fun q => ne_of_none q e
  refine ⟨fun b ob q n h1 h2 => ?_, fun b ob q n h1 h2 => ?_, fun b ob q n h2 => ?_, u.there, fun b xs q => ?_, fun b ob v q => ?_, fun b ps q => ?_⟩
  · by_cases hb : b = c
    · subst hb
      rw [ho] at q
      cases q
      exact cov_at x ec
    · exact u.keep b ob q (by rw [upd_ne hb]; exact n) h1 h2
  · by_cases hb : b = c
    · subst hb
      rw [ho] at q
      cases q
      exact ⟨_, cov_at x ec⟩
    · exact u.slot b ob q (by rw [upd_ne hb]; exact n) h1 h2
  · by_cases hb : b = c
    · subst hb
      exact unc_same
    · rw [unc_ne hb]
      exact u.free b ob q (by rw [upd_ne hb]; exact n) h2
  · rw [unc_ne (ne q)]
    exact u.tups b xs (by rw [upd_ne (ne q)]; exact q)
  · rw [unc_ne (ne q)]
    exact u.frzs b ob v (by rw [upd_ne (ne q)]; exact q)
  · rw [unc_ne (ne q)]
    exact u.tbls b ps (by rw [upd_ne (ne q)]; exact q)
theorem un_unc (u : Un fs [] (unc H c) H' h h') (e : H c = some (ex c o)) (ho : h.get? c = some o) : Un fs [] H (upd H' c (ex c o)) h h' := by
  have nn : ∀ {b : Addr}, H b = none → b ≠ c := fun {b} q z => by
    rw [z, e] at q
    cases q
  refine ⟨fun b ob q n h1 h2 => ?_, fun b ob q n h1 h2 => ?_, fun b ob q n h2 => ?_, u.there, fun b xs q => ?_, fun b ob v q => ?_, fun b ps q => ?_⟩
  · exact u.keep b ob q (by rw [unc_ne (nn n)]; exact n) h1 h2
  · exact u.slot b ob q (by rw [unc_ne (nn n)]; exact n) h1 h2
  · rw [upd_ne (nn n)]
    exact u.free b ob q (by rw [unc_ne (nn n)]; exact n) h2
  · have hb := ne_ex e q fun _ _ t => by cases t
    rw [upd_ne hb]
    exact u.tups b xs (by rw [unc_ne hb]; exact q)
  · by_cases hb : b = c
    · subst hb
      rw [e] at q
      cases q
      exact upd_same
    · rw [upd_ne hb]
      exact u.frzs b ob v (by rw [unc_ne hb]; exact q)
  · have hb := ne_ex e q fun _ _ t => by cases t
    rw [upd_ne hb]
    exact u.tbls b ps (by rw [unc_ne hb]; exact q)
end
section
variable {P : Program} {w : World} {K : PySem.W.Frag} {mg : Str → Option Value} {base : Heap} {A : Around} {outer : List Env} {s s' : Shared} {H : Hp} {c : Addr} {o : Obj} {Q : VK} {E : XK} {r : Result}
theorem env0_unc (e0 : Env0 P w K mg base A outer s H) (e : H c = some (ex c o)) : Env0 P w K mg base A outer s (unc H c) := by
  refine ⟨e0.frames, e0.mod, fun b ob q => ⟨(e0.bs b ob q).1, ?_⟩, e0.bsz, e0.funs, fun b q => ?_, hok_unc e0.hok e, e0.bare⟩
  · by_cases hb : b = c
    · rw [hb]; exact unc_same
    · rw [unc_ne hb]; exact (e0.bs b ob q).2
  · by_cases hb : b = c
    · rw [hb]; exact unc_same
    · rw [unc_ne hb]; exact e0.frf b q
theorem env0_cov (e0 : Env0 P w K mg base A outer s H) (e : H c = none) (ho : s.heap.get? c = some o) (nb : base.get? c = none) (nf : c ∉ frs outer) : Env0 P w K mg base A outer s (upd H c (ex c o)) := by
  refine ⟨e0.frames, e0.mod, fun b ob q => ⟨(e0.bs b ob q).1, ?_⟩, e0.bsz, e0.funs, fun b q => ?_, hok_cov e0.hok e ho, e0.bare⟩
  · rw [upd_ne (fun z => by rw [z, nb] at q; cases q)]
    exact (e0.bs b ob q).2
  · rw [upd_ne (fun z => nf (by rw [← z]; exact q))]
    exact e0.frf b q
theorem cr_cov (x : CR L2.CX0 outer P w (upd H c (ex c o)) s (fun v H' => Q v (unc H' c)) E r s') (e : H c = none) (ho : s.heap.get? c = some o) : CR L2.CX0 outer P w H s Q E r s' := by
  match r, x with
  | .error e, x => exact False.elim x
  | .ok (.ret u), x =>
    obtain ⟨v, H', os, bare, un, hok, rv, q⟩ := x
    exact ⟨v, unc H' c, os, bare, un_cov un hok e ho, hok_unc hok (un.frzs c o _ upd_same), rv, q⟩
  | .ok .next, x => exact x
  | .ok .brk, x => exact x
  | .ok .cont, x => exact x
theorem cr_unc (x : CR L2.CX0 outer P w (unc H c) s (fun v H' => H' c = none → Q v (upd H' c (ex c o))) E r s') (e : H c = some (ex c o)) (ho : s.heap.get? c = some o) (nf : c ∉ frs outer) : CR L2.CX0 outer P w H s Q E r s' := by
  match r, x with
  | .error e, x => exact False.elim x
  | .ok (.ret u), x =>
    obtain ⟨v, H', os, bare, un, hok, rv, q⟩ := x
    refine ⟨v, upd H' c (ex c o), os, bare, un_unc un e ho, hok_cov hok (un.free c o ho unc_same (fun z => nomatch z)) (un.keep c o ho unc_same nf (fun z => nomatch z)), rv, q (un.free c o ho unc_same (fun z => nomatch z))⟩
  | .ok .next, x => exact x
  | .ok .brk, x => exact x
  | .ok .cont, x => exact x
end
/-! ### lambdas -/
/-- its words, what it captured, its code object -/
structure LF where
  qual : Str
  params : Arguments
  body : Expr
  scope : Scope
  cl : List (Str × Addr)
  c : Addr
abbrev LF.fd (F : LF) (pm ctv : Value) : FuncData := PySem.W.kla_fn "<lambda>" F.qual F.params F.body F.scope F.cl pm (.ref F.c) ctv
def LmO (f : Addr) (F : LF) : HO := .ext fun h => ∃ (od : Option Addr) (sl : Array (Option Value)) (pm ctv : Value), h.get? f = some (⟨.type "function", od, .func (F.fd pm ctv), sl⟩ : Obj)
theorem lmO_ne {f : Addr} {F : LF} (ps : Array Value) : LmO f F ≠ .tbl ps := fun z => by
  unfold LmO at z
  cases z
theorem lmO_at {P : Program} {w : World} {H : Hp} {h : Heap} {f : Addr} {F : LF} (hok : HOk P w H h) (e : H f = some (LmO f F)) : ∃ (od : Option Addr) (sl : Array (Option Value)) (pm ctv : Value), h.get? f = some (⟨.type "function", od, .func (F.fd pm ctv), sl⟩ : Obj) := by
  obtain ⟨z, _, _⟩ := hok f _ e
  exact z
section
variable {X : Cx} {pins : List (Addr × Obj)} {σ : L2.St} {H : Hp} {s : Shared}
theorem inv_lam {F : LF} {o : Obj} {t' : Nat} {h' : Heap} {pm ctv : Value} (I : Inv X pins σ H { s with heap := h', toks := t' }) (ho : o = { cls := .type "function", data := .func (F.fd pm ctv) }) :
    Inv X pins σ (upd H h'.objs.size (LmO h'.objs.size F)) { s with heap := h'.push o, toks := t' } := by
  subst ho
  refine I.laid (a := h'.objs.size) (fun b u e => Heap.get?_push_of_some _ e) (Nat.le_refl _) ?_
  have e : (h'.push ({ cls := .type "function", data := .func (F.fd pm ctv) } : Obj)).get? h'.objs.size = some ({ cls := .type "function", data := .func (F.fd pm ctv) } : Obj) := Heap.get?_push_size _ rfl
  exact ⟨⟨_, _, pm, ctv, e⟩, ⟨_, e⟩, fun h1 h2 ⟨od, sl, p, t, z⟩ st => ⟨od, sl, p, t, st _ z⟩⟩
/-- it is made: its code object is new, or found in the table -/
theorem lam_mk {T : List (Addr × Str)} {c P : Addr} {params : Arguments} {body : Expr} {scope : Scope} {pos : Pos} {E : Value → Shared → Prop} {Q : Value → Shared → Prop} (I : Inv X pins σ H s) (TB : TabB X.base X.mg c P) (hcode : X.env.code = .ref c)
    (hm : (P, X.env.qual ++ "<lambda>") ∈ T) (hu : ∀ p ∈ T, p.1 = P → p.2 = X.env.qual ++ "<lambda>") (hT : Tabs T H) (hdef : defaultsOf params X.env = ([], [])) (hfree : ∀ y ∈ scope.names, y.2 = .free → ∃ c, X.env.cells.lookup y.1 = some c)
    (h : ∀ (f c' : Addr) (H1 : Hp) (s' : Shared), Inv X pins σ H1 s' → ExtN H H1 → (∀ b, H1 b = none → H b = none) → Tabs T H1 → H f = none → H1 f = some (LmO f ⟨X.env.qual ++ "<lambda>", params, body, scope, cloFrom X.env.cells scope.names [], c'⟩) → H1 c' = some (CodeO c' (X.env.qual ++ "<lambda>")) → Q (.ref f) s') :
    wpAny (model X.prog X.w) X.A (eval (.Lambda params body scope pos) X.env) Q E s := by
  obtain ⟨ps, hP, ht, ha⟩ := hT _ hm
  refine PySem.W.kla_eval hdef ?_
  have bP : s.heap.BuiltinsAt X.mg P := TB.bm.keeps I.bk
  have hP' : s.heap.get? P = some { cls := .none, data := .fields ps } := I.hok P _ hP
  cases hc : codeAmong pos ps.toList with
  | none =>
    refine PySem.W.kla_makeFunction (mg := X.mg) (c := c) (P := P) (ps := ps) (closure_ok hfree) I.ok.glob (I.mod.glob.keeps I.bk) hcode (TB.code.keeps I.bk) hP' ht hc TB.gP bP fun c' ctv h' tk hx hge hlt hrec htb => ?_
    obtain ⟨c2, oc, vs, t, e2, hoc, hd, hv⟩ := hrec
    cases e2
    have nC : H c' = none := I.hok.fresh hge
    have I1 := inv_table (t' := tk) (more := #[rawInt pos.line, rawInt pos.col, .ref c']) (h' := h') I hP (fun b o hb e => hx b o hb e) htb hge ⟨oc, vs, t, hoc, hd, hv⟩
    have hE : ExtN H (upd (upd H P (.tbl (ps ++ #[rawInt pos.line, rawInt pos.col, .ref c']))) c' (CodeO c' (X.env.qual ++ "<lambda>"))) := fun b o e n => by
      rw [upd_ne (ne_of_none e nC), upd_ne (fun z => n ps (Option.some.inj (e.symm.trans (by rw [z]; exact hP))))]
      exact e
    have eL : (ps ++ #[rawInt pos.line, rawInt pos.col, .ref c']).toList = ps.toList ++ [rawInt pos.line, rawInt pos.col, .ref c'] := by simp
    have T1 : Tabs T (upd (upd H P (.tbl (ps ++ #[rawInt pos.line, rawInt pos.col, .ref c']))) c' (CodeO c' (X.env.qual ++ "<lambda>"))) := fun p hp => by
      by_cases hb : p.1 = P
      · rw [hu p hp hb, hb]
        refine ⟨_, by rw [upd_ne (ne_of_none hP nC), upd_same], by rw [eL]; exact PySem.TriplesOk_snoc _ _ _ _ ht, fun p' cv hcv => ?_⟩
        rw [eL] at hcv
        rcases among_app _ ht hcv with z | z
        · obtain ⟨c0, e1, e2⟩ := ha p' cv z
          exact ⟨c0, e1, hE _ _ e2 codeO_ne⟩
        · exact ⟨c', z, upd_same⟩
      · obtain ⟨ps', a1, a2, a3⟩ := hT p hp
        refine ⟨ps', by rw [upd_ne (ne_of_none a1 nC), upd_ne hb]; exact a1, a2, fun p' cv hcv => ?_⟩
        obtain ⟨c0, e1, e2⟩ := a3 p' cv hcv
        exact ⟨c0, e1, hE _ _ e2 codeO_ne⟩
    have nF := I1.hok.fresh (Nat.le_refl _)
    have I2 := inv_lam (F := ⟨X.env.qual ++ "<lambda>", params, body, scope, cloFrom X.env.cells scope.names [], c'⟩) (pm := (X.mg "__name__").getD .none) (ctv := ctv) I1 rfl
    refine h h'.objs.size c' _ _ I2 (fun b o e n => ?_) (fun b e => upd_none (upd_none (upd_none e))) (T1.ext fun b o e => ?_) (I.hok.fresh (Nat.le_trans hge (Nat.le_of_lt hlt))) upd_same ?_
    · have e1 := hE b o e n
      exact (upd_ne (ne_of_none e1 nF)).trans e1
    · exact (upd_ne (ne_of_none e nF)).trans e
    · exact (upd_ne (Nat.ne_of_lt hlt)).trans upd_same
  | some cv =>
    obtain ⟨c', e, hco⟩ := ha pos cv hc
    subst e
    refine PySem.W.kla_makeFunctionHit (mg := X.mg) (c := c) (P := P) (ps := ps) (closure_ok hfree) I.ok.glob (I.mod.glob.keeps I.bk) hcode (TB.code.keeps I.bk) hP' ht hc bP fun ctv h' tk hx hsz => ?_
    have I1 : Inv X pins σ H { s with heap := h', toks := tk } := I.kept hx
    have nF : H h'.objs.size = none := I1.hok.fresh (Nat.le_refl _)
    have I2 := inv_lam (F := ⟨X.env.qual ++ "<lambda>", params, body, scope, cloFrom X.env.cells scope.names [], c'⟩) (pm := (X.mg "__name__").getD .none) (ctv := ctv) I1 rfl
    refine h h'.objs.size c' _ _ I2 (fun b o e n => ?_) (fun b e => upd_none e) (hT.ext fun b o e => ?_) nF upd_same ?_
    · exact (upd_ne (ne_of_none e nF)).trans e
    · exact (upd_ne (ne_of_none e nF)).trans e
    · exact (upd_ne (ne_of_none hco nF)).trans hco
def tLamV (T : List (Addr × Str)) (mk : Addr → LF) : TE := fun σ H Q => Tabs T H ∧ ∀ (f c' : Addr) (H1 : Hp), ExtN H H1 → (∀ b, H1 b = none → H b = none) → Tabs T H1 → H f = none → H1 f = some (LmO f (mk c')) → H1 c' = some (CodeO c' (mk c').qual) → Q (.ref f) H1
theorem pe_lam {T : List (Addr × Str)} {c P : Addr} {params : Arguments} {body : Expr} {scope : Scope} {pos : Pos} (TB : TabB X.base X.mg c P) (hcode : X.env.code = .ref c) (hm : (P, X.env.qual ++ "<lambda>") ∈ T) (hu : ∀ p ∈ T, p.1 = P → p.2 = X.env.qual ++ "<lambda>")
    (hdef : defaultsOf params X.env = ([], [])) (hfree : ∀ y ∈ scope.names, y.2 = .free → X.env.scope.names.lookup y.1 = some .cell ∨ X.env.scope.names.lookup y.1 = some .free) :
    PE X (.Lambda params body scope pos) (tLamV T fun c' => ⟨X.env.qual ++ "<lambda>", params, body, scope, cloFrom X.env.cells scope.names [], c'⟩) := by
  refine ⟨fun pins s σ H Q I h => ?_⟩
  obtain ⟨hT, h⟩ := h
  have hfr : ∀ y ∈ scope.names, y.2 = .free → ∃ c, X.env.cells.lookup y.1 = some c := fun y hy e => (hfree y hy e).elim (fun z => I.ok.has _ (.inl z)) fun z => I.ok.has _ (.inr z)
  exact lam_mk I TB hcode hm hu hT hdef hfr fun f c' H1 s' I1 eN nn T1 f0 f1 c1 => ⟨.ref f, H1, I1, rfl, h f c' H1 eN nn T1 f0 f1 c1⟩
end
/-! ### what it promises -/
structure LOk (P : Program) (w : World) (K : PySem.W.Frag) (mg : Str → Option Value) (base : Heap) (k : Nat) (f : Addr) (F : LF) (pre : Hp → Prop) (sp : Sp) : Prop where
  at_ : ∀ H, pre H → H f = some (LmO f F)
  len : ∀ vs H Q E, sp vs H Q E → vs.length = 1
  run : ∀ (A : Around) (outer : List Env) (s : Shared) (H : Hp) (us : List Value) (vs : List V) (Q : VK) (E : XK), Qt A → Room k A → Env0 P w K mg base A outer s H → pre H → Vals vs us → sp vs H Q E →
    codeAny (model P w) A (.call (.ref f) ⟨us, []⟩) (CR L2.CX0 outer P w H s Q E) s
/-- as a nested def, for its context -/
abbrev LF.nf (F : LF) : NF := ⟨"<lambda>", F.qual, F.params, [], F.scope, F.cl, F.c⟩
/-- what is known when it is called: itself, its code object, the cell c -/
def Lpre (f : Addr) (F : LF) (c : Addr) (o : Obj) (H : Hp) : Prop := H f = some (LmO f F) ∧ H F.c = some (CodeO F.c F.qual) ∧ H c = some (ex c o)
section
variable {P : Program} {w : World} {K : PySem.W.Frag} {mg : Str → Option Value} {base : Heap} {N fr : List Str} {F : LF} {f c : Addr} {o : Obj} {k : Nat} {sp : Sp} {y : Str}
theorem codeO_frz {c : Addr} {q : Str} : ∀ (o : Obj) (v : HO), CodeO c q ≠ .frz o v := fun o v z => by
  unfold CodeO at z
  cases z
theorem lmO_frz {f : Addr} {F : LF} : ∀ (o : Obj) (v : HO), LmO f F ≠ .frz o v := fun o v z => by
  unfold LmO at z
  cases z
/-- THE RULE: a lambda of one parameter by its body; the cell that it may have captured is let go while it runs -/
theorem lok_of (S : NScope N [y] fr F.scope) (hb : ∀ (pm ctv : Value) (u : Value), bindArgs (F.fd pm ctv) ⟨[u], []⟩ = pure [(y, u)]) (len : ∀ vs H Q E, sp vs H Q E → vs.length = 1) (ws : List (Option V))
    (hc : ∀ h : Heap, h.get? c = some o → ∀ H : Hp, H c = none → CellsAt F.cl fr ws h H)
    (hbody : ∀ (A : Around) (outer : List Env) (s : Shared) (H : Hp) (vs : List V) (Q : VK) (E : XK), Qt (A.deeper (envF F.nf f s.heap.objs.size)) → Room k (A.deeper (envF F.nf f s.heap.objs.size)) → sp vs (upd H c (ex c o)) Q E → H c = none →
      ∃ t, PE (ncx L2.CX0 P w K mg base N F.nf f A outer s H E) F.body t ∧ t (startF N vs ws) H (fun v H' => H' c = none → Q v (upd H' c (ex c o)))) :
    LOk P w K mg base (k + 1) f F (Lpre f F c o) sp := by
  refine ⟨fun H h => h.1, len, fun A outer s H us vs Q E hq hr e0 hp r hsp => ?_⟩
  obtain ⟨hf, hcd, hce⟩ := hp
  have hl := len _ _ _ _ hsp
  obtain ⟨v, rfl⟩ : ∃ v, vs = [v] := by
    match vs, hl with
    | [v], _ => exact ⟨v, rfl⟩
  obtain ⟨u, rfl⟩ : ∃ u, us = [u] := by
    match us, r with
    | [u], _ => exact ⟨u, rfl⟩
  have ho : s.heap.get? c = some o := cov_at e0.hok hce
  have nf : c ∉ frs outer := fun z => by
    have q := e0.frf c z
    rw [hce] at q
    cases q
  have e1 := env0_unc e0 hce
  have eH : upd (unc H c) c (ex c o) = H := by
    funext b
    by_cases hb : b = c
    · rw [hb, upd_same, hce]
    · rw [upd_ne hb, unc_ne hb]
  have lim : s.heap.NoLimit := e0.mod.nolimit.keeps fun b o e => (e0.bs b o e).1
  obtain ⟨od, sl, pm, ctv, hof⟩ := lmO_at e0.hok hf
  refine codeAny_mono (R := CR L2.CX0 outer P w (unc H c) s (fun v H' => H' c = none → Q v (upd H' c (ex c o))) E) ?_ fun r s' x => cr_unc x hce ho nf
  refine PySem.W.kla_callFunE hr.depth hof rfl S.co S.gen rfl (codeO_at e0.hok hcd) ?_
  rw [hb pm ctv u]
  refine wpAny_pure (wpAny_newFunctionEnv S.nocell (fun ⟨n, _⟩ hy => S.par n (by cases List.mem_singleton.mp hy; exact List.mem_singleton.mpr rfl)) (fun h₁ hns hsb => ⟨lim.fresh _ hsb, ?_⟩) S.kind)
  show codeAny _ _ (.expr F.body (envF F.nf f s.heap.objs.size)) _ _
  have kp : ∀ b o, s.heap.get? b = some o → h₁.get? b = some o := fun b o e => hsb.extBut b o (Nat.ne_of_lt (Heap.lt_size e)) (Heap.get?_push_of_some _ e)
  have C := hc s.heap ho (unc H c) unc_same
  obtain ⟨t, ht, hq2⟩ := hbody A outer s (unc H c) [v] Q E hq (hr.deeper _) (by rw [eH]; exact hsp) unc_same
  have I : Inv (ncx L2.CX0 P w K mg base N F.nf f A outer s (unc H c) E) [] (startF N [v] ws) (unc H c) { s with heap := h₁, toks := s.toks + ([y].zip [u]).length } := inv_startN (ps := [y]) (us := [u]) S hr.hd e1 rfl r C hns kp
  refine PySem.W.kla_codeExpr (wpAny_mono (ht.run [] _ _ (unc H c) _ I hq2) (fun v s' hq => ?_) fun e s' hq => hq)
  obtain ⟨w', H', J', rv, q⟩ := hq
  exact ⟨w', H', J'.os, J'.bare, J'.base, J'.hok, rv, q⟩
end
/-! ### calls of a name that holds one -/
def tLC (i : Nat) (f : Addr) (pre : Hp → Prop) (sp : Sp) (t : TA) : TE := fun σ H Q => σ[i]? = some (some (.ref f)) ∧ pre H ∧ t σ H fun vs H1 => pre H1 ∧ sp vs H1 Q fun _ _ _ => False
section
variable {X : Cx} {F : LF} {f : Addr} {pre : Hp → Prop} {sp : Sp} {i j k : Nat} {x : Str} {t : TA} {e : Expr} {es : List Expr} {p pos : Pos}
theorem lam_fn {pins : List (Addr × Obj)} {σ : L2.St} {H : Hp} {s : Shared} (I : Inv X pins σ H s) (e : H f = some (LmO f F)) : PySem.W.FnAt f s.heap := by
  obtain ⟨od, sl, pm, ctv, ho⟩ := lmO_at I.hok e
  exact ⟨_, od, _, sl, ho⟩
theorem pe_lcall (L : LOk X.prog X.w X.K X.mg X.base k f F pre sp) (hq : Qt X.A) (hr : Room j X.A) (hk : k ≤ j) (hN : X.N[i]? = some x) (hv : Vis X.env.scope x) (ha : PA X (e :: es) t)
    (hd : (x == ("__debug__" : Str)) = false := by decide) (hcd : (x == ("__classdict__" : Str)) = false := by decide)
    (he : starEach (e :: es) X.env = (false, eval e X.env) :: starEach es X.env := by rfl) (hpl : (backTo pos (starEach es X.env)).any (·.1) = false := by rfl) :
    PE X (.Call (.Name x p) (e :: es) [] pos) (tLC i f pre sp t) := by
  refine ⟨fun pins s σ H Q I h => ?_⟩
  obtain ⟨hs, hf, ht⟩ := h
  refine wpAny_Call_Name_kw (thn ((pe_var (pos := p) hN hv hd hcd).run pins s σ H (fun v H1 => v = .ref f ∧ H1 = H) I ⟨.ref f, hs, rfl, rfl⟩) fun u s1 ⟨v, H1, I1, r1, q1⟩ => ?_)
  obtain ⟨ev, eH⟩ := q1
  subst ev
  rw [eH] at I1
  obtain rfl : u = Value.ref f := r1
  refine PySem.W.callWith_F (first := []) (lam_fn I1 (L.at_ _ hf)) (thn (ha.run pos pins s1 σ H _ I1 ht) fun us s2 ⟨vs, H2, I2, r, h1, q⟩ => ⟨lam_fn I2 (L.at_ _ h1), ?_⟩) he hpl
  show wpAny _ _ (call (.ref f) us) _ _ _
  refine wpAny_call (codeAny_mono (L.run X.A X.stack s2 H2 us vs Q (fun _ _ _ => False) hq (hr.mono hk) I2.env0 h1 r q) fun r s' hq => ?_)
  cases r with
  | error e => exact hq.elim
  | ok fl =>
    cases fl with
    | ret u => exact I2.after hq
    | next => exact False.elim hq
    | brk => exact False.elim hq
    | cont => exact False.elim hq
end
/-! ### a def called while a captured name of the running frame is known -/
def tCT (cells : List (Str × Addr)) (y : Str) (jf : Nat) (sp : Sp) (t : TA) : TE := fun σ H Q => ∃ far : Int, σ[jf]? = some (some (.int far)) ∧
  t σ H fun vs H1 => ∀ (c : Addr) (o : Obj) (tk : Tok), cells.lookup y = some c → o.data = .cell (some (.int far tk)) → H1 c = none → sp vs (upd H1 c (ex c o)) (fun v H' => Q v (unc H' c)) fun _ _ _ => False
section
variable {X : Cx} {sp : Sp} {jf j k : Nat} {x y : Str} {ps : List Str} {t : TA} {e : Expr} {es : List Expr} {p pos : Pos}
theorem pe_cT (c : Cal X.prog X.w X.K X.mg X.base L2.CX0 k x ps sp) (hfn : X.fn y = true) (hyN : X.N[jf]? = some y) (hyc : X.env.scope.names.lookup y = some .cell) (hq : Qt X.A) (hr : Room j X.A) (hk : k ≤ j)
    (hg : Gl X x) (ha : PA X (e :: es) t) (hdb : (x == ("__debug__" : Str)) = false := by decide)
    (he : starEach (e :: es) X.env = (false, eval e X.env) :: starEach es X.env := by rfl)
    (hpl : (backTo pos (starEach es X.env)).any (·.1) = false := by rfl) :
    PE X (.Call (.Name x p) (e :: es) [] pos) (tCT X.env.cells y jf sp t) := by
  obtain ⟨f, fd, F, hm, hkp, hb, _⟩ := c.ex
  constructor
  intro pins s σ H Q I h
  obtain ⟨far, hfar, h⟩ := h
  refine wpAny_Call_Name_kw (ld_glob I hg hm ?_ hdb)
  refine PySem.W.callWith_K (h₀ := X.base) I.ok.mod.kin hkp ?_ he hpl
  refine thn (ha.run pos pins s σ H _ I h) ?_
  rintro us s1 ⟨vs, H1, I1, r, q⟩
  refine ⟨I1.kIn, ?_⟩
  rw [List.nil_append]
  obtain ⟨cc, hcc⟩ : ∃ cc, X.env.cells.lookup y = some cc := I1.ok.has y (.inl hyc)
  obtain ⟨m, hn, hl⟩ := I1.loc
  obtain ⟨u, ru, lk⟩ := hl jf y _ hyN hfar (.inr (.inl hyc))
  obtain ⟨o, ho, hd⟩ : s1.heap.IsCell cc (some u) := by
    rcases lk with ⟨z, _⟩ | ⟨_, c', hc', hcell⟩
    · have z' : X.env.scope.names.lookup y = some .local := z
      rw [hyc] at z'
      cases z'
    · rw [hcc] at hc'
      cases hc'
      exact hcell
  have hcn : H1 cc = none := I1.freeC y cc hcc
  obtain ⟨tk, rfl⟩ : ∃ tk, u = .int far tk := ru
  have hge := I1.ok.cab y cc hfn hcc
  have nb : X.base.get? cc = none := by
    cases e : X.base.get? cc with
    | none => rfl
    | some ob => exact absurd (Heap.lt_size e) (Nat.not_lt.mpr (Nat.le_trans I1.ok.bsz hge))
  have nf : cc ∉ frs X.stack := fun z => by
    rcases List.mem_cons.mp (I1.stkSub _ z) with e | e
    · obtain ⟨ob, es, ep, e1, e2, _⟩ := hn
      rw [← e, ho] at e1
      cases e1
      rw [hd] at e2
      cases e2
    · obtain ⟨_, ob, e1, _⟩ := I1.ok.funs.mem e
      exact absurd (Heap.lt_size e1) (Nat.not_lt.mpr hge)
  have hsp := q cc o tk hcc hd hcn
  have hl2 : us.length = ps.length := by
    rw [← r.length]
    exact F.len _ _ _ _ hsp
  have z := F.run X.A X.stack s1 (upd H1 cc (ex cc o)) ⟨us, []⟩ us vs _ _ hq (hr.mono hk) (env0_cov I1.env0 hcn ho nb nf) (by
    have z := hb s1 us I1.kIn (by rw [List.append_nil]; exact hl2)
    rw [List.append_nil] at z
    exact z) r hsp
  refine wpAny_call (codeAny_mono z ?_)
  intro r' s' ho'
  have ho2 := cr_cov (Q := Q) ho' hcn ho
  match r', ho2 with
  | .error e, ho2 => exact ho2.elim
  | .ok (.ret u), ho2 => exact I1.after ho2
  | .ok .next, ho2 => exact False.elim ho2
  | .ok .brk, ho2 => exact False.elim ho2
  | .ok .cont, ho2 => exact False.elim ho2
end
end X11

/-! the end of a law that itself makes lambdas: its own code object's table is tracked -/
namespace X12
open PySem PySem.Spec PyProof.Rows L2 LamX Kit
/-- the code object of a def, read off the frozen part: its table is at P -/
def codeB (K : PySem.W.Frag) (cd : Value) : Option (Addr × Addr) := match cd with
  | .ref c => match K.lookup c with
    | some ⟨.type n, _, .fields vs, _⟩ => match (vs[11]? : Option Value), vs.getD 7 Value.none, vs.getD 9 Value.none, vs.getD 10 Value.none, vs.getD 18 Value.none with
      | some (Value.ref P), .int _ _, .bool _, .int _ _, .str _ _ => if n = "code" ∧ c ≠ P ∧ (K.lookup P).isNone = true then some (c, P) else none
      | _, _, _, _, _ => none
    | _ => none
  | _ => none
structure CodeK (K : PySem.W.Frag) (c P : Addr) : Prop where
  ex : ∃ (dd : Option Addr) (vs : Array Value) (sl : Array (Option Value)) (file : Str) (tf : Tok) (flags : Int) (tg : Tok) (inF : Bool) (text : Int) (tt : Tok),
    K.lookup c = some ⟨.type "code", dd, .fields vs, sl⟩ ∧ vs[11]? = some (.ref P) ∧ vs.getD 18 .none = .str file tf ∧ vs.getD 7 .none = .int flags tg ∧ vs.getD 9 .none = .bool inF ∧ vs.getD 10 .none = .int text tt
  ne : c ≠ P
  no : K.lookup P = none
theorem codeB_ok {K : PySem.W.Frag} {cd : Value} {c P : Addr} (h : codeB K cd = some (c, P)) : cd = .ref c ∧ CodeK K c P := by
  unfold codeB at h
  split at h
  · rename_i c1
    split at h
    · rename_i n dd vs sl hk
      split at h
      · rename_i P1 flags tg inF text tt file tf h11 h7 h9 h10 h18
        split at h
        · rename_i hc
          obtain ⟨rfl, h2, h3⟩ := hc
          cases h
          exact ⟨rfl, ⟨_, _, _, _, _, _, _, _, _, _, hk, h11, h18, h7, h9, h10⟩, h2, Option.isNone_iff_eq_none.mp h3⟩
        · cases h
      · cases h
    · cases h
  · cases h
theorem CodeK.hd {K : PySem.W.Frag} {c P : Addr} (h : CodeK K c P) {hp : Heap} (X : K.In hp) : PySem.W.CodeHd hp c P := by
  obtain ⟨dd, vs, sl, file, tf, flags, tg, inF, text, tt, e, e11, e18, e7, e9, e10⟩ := h.ex
  refine ⟨_, vs, file, tf, flags, tg, inF, text, tt, X _ _ e, rfl, rfl, e11, ?_, e18, e7, e9, e10, h.ne⟩
  rw [Array.getD_eq_getD_getElem?, e11]
  rfl
section
variable {P : Program} {w : World} {K : PySem.W.Frag} {mg : Str → Option Value}
/-- tracked at most: the script, the table -/
def Two (T : Addr) (H : Hp) : Prop := ∀ b, H b = none ∨ b = T ∨ ∃ o xs, H b = some (.frz o (.lst xs))
theorem law_callT {mb : Str → Option Value} {CX : CXT} {k : Nat} {fa a c T : Addr} {fd : FuncData} {x : Str} {sp : Sp} {s₁ : Shared} {vs : List Value} {ns : List Int}
    (KX : K.In s₁.heap) (hns : s₁.heap.Ns mainGlobals mg) (hb : s₁.heap.Ns builtinsNs mb)
    (hbb : ∀ x : Str, x ≠ "__name__" → mb x = bootBuiltins x) (hlim : s₁.heap.NoLimit) (hg : s₁.gens = #[])
    (ck : CodeK K c T) (eT : s₁.heap.get? T = some { cls := .none, data := .fields #[] })
    (hbm : ∃ (bm : Addr) (ob : Obj), mg "__builtins__" = some (.ref bm) ∧ bm ≠ builtinsNs ∧ s₁.heap.get? bm = some ob ∧
      ob.cls = .type "module" ∧ ob.dict = some builtinsNs ∧ ob.data = .plain)
    (ha : s₁.heap.get? a = some { cls := .type "list", data := .seq vs.toArray }) (hi : IntsAre vs ns)
    (hl : ns.length ≤ sizeLine) (hr : Room k callerA)
    (F : ∀ base : Heap, K.In base → base.Ns mainGlobals mg → TabB base mg c T → FnG P w K mg base CX k fa fd [x] sp)
    (hbind : ∀ (s : Shared) (u : Value), BindsTo s fd ⟨[u], []⟩ [(x, u)])
    (hsp : ∀ H : Hp, H T = some (.tbl #[]) → SqL K H a (ns.map V.int) → sp [.ref a] H (fun v _ => v = .bl true) fun _ _ _ => False)
    (hCX : ∀ H e s', CX [] H s₁ (fun _ _ _ => False) e s' → False) :
    codeAny (model P w) callerA (.call (.ref fa) ⟨[.ref a], []⟩)
      (fun r s' => r = .ok (.ret (.bool true)) ∧ OldK s₁.heap s'.heap ∧ s'.os = s₁.os ∧ AllBare s'.gens) s₁ := by
  have rv := vals_ints hi
  have lenV := hi.length
  have neq : a ≠ T := by
    rintro rfl
    rw [ha] at eT
    cases eT
  have hC := ck.hd KX
  -- over any abstract heap that tracks the table, and the script at most
  have inner : ∀ H : Hp, H T = some (.tbl #[]) → Two T H → SqL K H a (ns.map V.int) → HOk P w H s₁.heap → (∀ b, H b ≠ none → b = a ∨ b = T) → (H a ≠ none → K.lookup a = none) →
      codeAny (model P w) callerA (.call (.ref fa) ⟨[.ref a], []⟩)
        (fun r s' => r = .ok (.ret (.bool true)) ∧ OldK s₁.heap s'.heap ∧ s'.os = s₁.os ∧ AllBare s'.gens) s₁ := by
    intro H hH hO hS hok hA hK
    -- what is neither list nor table is not tracked
    have free : ∀ {b : Addr} {o : Obj}, s₁.heap.get? b = some o → (∀ vs n, o.data ≠ .seq vs n) → o.data ≠ .fields #[] → H b = none := by
      intro b o e n1 n2
      cases q : H b with
      | none => rfl
      | some u =>
        rcases hA b (by rw [q]; simp) with rfl | rfl
        · rw [ha] at e
          cases e
          exact absurd rfl (n1 _ _)
        · rw [eT] at e
          cases e
          exact absurd rfl n2
    have freeD : ∀ {b : Addr} {o : Obj} {es : Array DictEntry} {ep : Nat}, s₁.heap.get? b = some o → o.data = .dict es ep → H b = none := by
      intro b o es ep e d
      refine free e (fun vs n z => ?_) fun z => ?_ <;> rw [d] at z <;> cases z
    have nsK : ∀ {b : Addr} {m : Str → Option Value}, s₁.heap.Ns b m → (hidT s₁.heap H).Ns b m := by
      rintro b m ⟨o, es, ep, e, d, r⟩
      exact ⟨o, es, ep, hidT_get e (freeD e d), d, r⟩
    have hKb : K.In (hidT s₁.heap H) := by
      intro b o e
      refine hidT_get (KX b o e) ?_
      cases q : H b with
      | none => rfl
      | some u =>
        rcases hA b (by rw [q]; simp) with rfl | rfl
        · rw [hK (by rw [q]; simp)] at e
          cases e
        · rw [ck.no] at e
          cases e
    obtain ⟨mc, l1, l2⟩ := hlim
    have hM : Mod K mg (hidT s₁.heap H) := ⟨hKb, nsK hns, ⟨mb, nsK hb, hbb⟩, mc, nsK l1, l2⟩
    have TB : TabB (hidT s₁.heap H) mg c T := by
      refine ⟨ck.hd hKb, ?_, ?_⟩
      · obtain ⟨bm, ob, b1, b2, b3, b4, b5, b6⟩ := hbm
        refine ⟨bm, ob, b1, b2, ?_, ?_, hidT_get b3 (free b3 (fun vs n z => ?_) fun z => ?_), b4, b5, b6⟩
        · rintro rfl
          obtain ⟨o, es, ep, e, hd, _⟩ := hns
          rw [e] at b3
          cases b3
          rw [hd] at b6
          cases b6
        · rintro rfl
          rw [eT] at b3
          cases b3
          cases b6
        · rw [b6] at z
          cases z
        · rw [b6] at z
          cases z
      · intro z
        obtain ⟨o, es, ep, e, hd, _⟩ := hns
        rw [z, eT] at e
        cases e
        cases hd
    have no0 : ∀ b : Addr, b ∈ ([] : List Addr) → False := fun b z => by simp at z
    have e0 : Env0 P w K mg (hidT s₁.heap H) callerA [] s₁ H :=
      ⟨rfl, hM, fun b o e => of_hidT e, Nat.le_of_eq (hidT_size _ _), trivial, fun b z => (no0 b z).elim, hok, .of_eq hg⟩
    have go := (F _ hKb (nsK hns) TB).run callerA [] s₁ H ⟨[.ref a], []⟩ [.ref a] [.ref a] _ _ rfl hr e0
      (hbind s₁ (.ref a)) (.cons rfl .nil) (hsp H hH hS)
    refine codeAny_mono go ?_
    intro r s' h
    match r, h with
    | .error e, h => exact (hCX H e s' h).elim
    | .ok .next, h => exact False.elim h
    | .ok .brk, h => exact False.elim h
    | .ok .cont, h => exact False.elim h
    | .ok (.ret u), h =>
      obtain ⟨v, H', os, bare, un, hok', r', q⟩ := h
      have q' : v = .bl true := q
      subst q'
      obtain rfl : u = Value.bool true := r'
      have kept : ∀ b o, b ≠ T → s₁.heap.get? b = some o → s'.heap.get? b = some o := by
        intro b o nb e
        cases q : H b with
        | none => exact un.keep b o e q (no0 b) (by simp)
        | some u =>
          rcases hO b with z | z | ⟨ob, xs, z⟩
          · rw [q] at z
            cases z
          · exact absurd z nb
          · obtain ⟨e1, _⟩ := hok b _ z
            obtain ⟨e2, _⟩ := hok' b _ (un.frzs b ob _ z)
            rw [e] at e1
            cases e1
            exact e2
      obtain ⟨more, z⟩ := un.tbls T #[] hH
      have gT : s'.heap.get? T = some { cls := .none, data := .fields (#[] ++ more) } := hok' T _ z
      refine ⟨rfl, ⟨?_, ?_⟩, os, bare⟩
      · intro b o e
        by_cases hbT : b = T
        · subst hbT
          rw [eT] at e
          cases e
          exact .inr (.inl ⟨(hC.tab eT).isCodeTable, rfl, #[], more, rfl, gT⟩)
        · exact .inl (kept b o hbT e)
      · intro b o e
        by_cases hbT : b = T
        · subst hbT
          exact ⟨_, gT⟩
        · exact ⟨o, kept b o hbT e⟩
  cases hk : K.lookup a with
  | some o =>
    have e := KX a o hk
    rw [ha] at e
    cases e
    have sz : vs.toArray.size ≤ sizeLine := by
      rw [List.size_toArray, lenV]
      exact hl
    have yes : ∀ {b : Addr}, b = T → (if b = T then some (HO.tbl #[]) else none) = some (.tbl #[]) := fun h => if_pos h
    have no : ∀ {b : Addr}, ¬ b = T → (if b = T then some (HO.tbl #[]) else none) = none := fun h => if_neg h
    refine inner (fun b => if b = T then some (.tbl #[]) else none) (yes rfl) ?_ (.inr ⟨_, vs.toArray, _, hk, rfl, rfl, rfl, sz, by simpa using rv⟩) ?_ ?_ fun z => absurd (no neq) z
    · intro b
      by_cases h : b = T
      · exact .inr (.inl h)
      · exact .inl (no h)
    · intro b u z
      by_cases h : b = T
      · have z' := (yes h).symm.trans z
        cases z'
        subst h
        exact eT
      · have z' := (no h).symm.trans z
        cases z'
    · intro b z
      by_cases h : b = T
      · exact .inr h
      · exact absurd (no h) z
  | none =>
    let u : HO := .frz { cls := .type "list", data := .seq vs.toArray } (.lst (ns.map V.int))
    have atA : ∀ {b : Addr}, b = a → (if b = a then some u else if b = T then some (.tbl #[]) else none) = some u := fun h => if_pos h
    have atT : ∀ {b : Addr}, ¬ b = a → b = T → (if b = a then some u else if b = T then some (.tbl #[]) else none) = some (.tbl #[]) := fun h h2 => (if_neg h).trans (if_pos h2)
    have at0 : ∀ {b : Addr}, ¬ b = a → ¬ b = T → (if b = a then some u else if b = T then some (.tbl #[]) else none) = none := fun h h2 => (if_neg h).trans (if_neg h2)
    refine inner (fun b => if b = a then some u else if b = T then some (.tbl #[]) else none) (atT neq.symm rfl) ?_ (.inl (.inr ⟨_, atA rfl⟩)) ?_ ?_ fun _ => hk
    · intro b
      by_cases h1 : b = a
      · exact .inr (.inr ⟨_, _, atA h1⟩)
      · by_cases h2 : b = T
        · exact .inr (.inl h2)
        · exact .inl (at0 h1 h2)
    · intro b v z
      by_cases h1 : b = a
      · have z' := (atA h1).symm.trans z
        cases z'
        subst h1
        refine ⟨ha, ?_, vs, _, rv, ha⟩
        rw [List.length_map]
        exact hl
      · by_cases h2 : b = T
        · have z' := (atT h1 h2).symm.trans z
          cases z'
          subst h2
          exact eT
        · have z' := (at0 h1 h2).symm.trans z
          cases z'
    · intro b z
      by_cases h1 : b = a
      · exact .inl h1
      · by_cases h2 : b = T
        · exact .inr h2
        · exact absurd (at0 h1 h2) z
end
/-- the goal of the head, for a law that makes lambdas -/
theorem walk_ofT {l : PySem.W.OpenLaw} {n k : Nat} {q : Program} {loose : List Str} {XP : (Str → Option Value) → Heap → Prop}
    {YP : World → Heap → Prop} {d : DefRec} {K : Params → PySem.W.Frag} {CX : World → CXT} {sp : World → Addr → Sp} {x : Str}
    (hn : l.most = some n) (hn2 : n ≤ sizeLine) (hdf : d.params.defaults = []) (hr : Room k callerA)
    (hrec : ((recsOf q).any fun e => e.name == d.name) = true)
    (hY : ∀ (w : World) (h : Heap), YP w h → (K w.params).In h)
    (F : ∀ (w : World) (mg : Str → Option Value) (fa : Addr) (h : Heap), (K w.params).In h → h.Ns mainGlobals mg →
      mg d.name = some (.ref fa) →
      ∃ (fd : FuncData) (c T : Addr) (oc : Value) (od : Option Addr) (sl : Array (Option Value)), (K w.params).lookup fa = some ⟨oc, od, .func fd, sl⟩ ∧ fd.code = .ref c ∧ CodeK (K w.params) c T ∧ (∀ (s : Shared) (u : Value), BindsTo s fd ⟨[u], []⟩ [(x, u)]) ∧
        ∀ base : Heap, (K w.params).In base → base.Ns mainGlobals mg → TabB base mg c T → FnG l.prog w (K w.params) mg base (CX w) k fa fd [x] (sp w T))
    (hsp : ∀ (w : World) (T : Addr) (H : Hp) (a : Addr) (ns : List Int), ns.length ≤ n →
      (∀ z ∈ ns, Builtin.Int.intBits z ≤ 1048576) → H T = some (.tbl #[]) → SqL (K w.params) H a (ns.map V.int) →
      sp w T [.ref a] H (fun v _ => v = .bl true) fun _ _ _ => False)
    (hCX : ∀ (w : World) (H : Hp) (s : Shared) (e : Value) (s' : Shared), CX w [] H s (fun _ _ _ => False) e s' → False) :
    PySem.W.WalkO q loose XP YP l.row.toRowW d [] (fun f vs => PySem.call f vs) := by
  refine Att.attach_callB hn hdf ?_
  intro w s₀ s₁ mg mb fa o pm cd doc a vs ns G Y ho hd hcd hmg hobj hints hlen hbits hg
  have KX := hY w _ Y
  obtain ⟨fd, c, T, oc, od, sl, lk, hc, ck, hbind, hF⟩ := F w mg fa _ KX G.T.g hmg
  have eT : s₁.heap.get? T = some { cls := .none, data := .fields #[] } := by
    obtain ⟨e, he, hne⟩ := List.any_eq_true.mp hrec
    obtain ⟨a', o', fd', c', P', g1, g2, g3, g4, g5, g6⟩ := G.T.tab e he
    rw [show e.name = d.name from beq_iff_eq.mp hne, hmg] at g1
    cases g1
    rw [KX _ _ lk] at g2
    cases g2
    cases g3
    rw [hc] at g4
    cases g4
    obtain ⟨⟨oc', vc, e1, _, e3, e4⟩, hP⟩ := g6
    obtain ⟨_, _, _, _, _, _, _, _, _, _, k1, k2, _⟩ := ck.ex
    rw [KX _ _ k1] at e1
    cases e1
    cases e3
    rw [k2] at e4
    cases e4
    exact hP
  exact law_callT KX G.T.g G.T.b G.T.builtins G.T.nolimit hg ck eT G.T.bmain hobj hints (Nat.le_trans hlen hn2) hr hF hbind (fun H hH hS => hsp w T H a ns hlen hbits hH hS) fun H e s' => hCX w H s₁ e s'
end X12

/-! x in t, t a tuple of data -/
namespace X13
open PySem PySem.Spec PyProof.Rows L2 Kit
def rInTD (K : PySem.W.Frag) : R2 := fun x t H Q => ∃ (dx : PyData) (dt : List PyData), Dp K H x dx ∧ Dp K H t (.tuple dt) ∧
  SeqAt.shaped dx = true ∧ SeqAt.shaped (.tuple dt) = true ∧ Q (.bl (dt.any fun z => PyData.eqv z dx)) H
theorem op_inTD {X : Cx} (room : X.A.units + 65 < cLine) : OpR X (compareOp .In) (rInTD X.K) := by
  intro pins s σ H x t vx vt Q I rx rt h
  obtain ⟨dx, dt, h1, h2, s1, s2, q⟩ := h
  obtain ⟨ax, g1⟩ := Dp.reads I dx x vx h1 rx
  obtain ⟨at', g2⟩ := Dp.reads I (.tuple dt) t vt h2 rt
  exact SeqAt.in_tuple_reads g2 g1 (SeqAt.canLay_of_shaped s2) (SeqAt.canLay_of_shaped s1) (room_in_shaped s1 room)
    ⟨.bl _, H, I, rfl, q⟩
end X13

set_option autoImplicit false
/-! single steps of a question, by name: where a lemma answers a part that is not at the front -/
namespace St
open PySem PySem.Spec PyProof.Rows L2
section
variable {σ : L2.St} {H : Hp} {Q : VK} {D : Ends} {te tf : TE} {ta tr : TA} {QA : List V → Hp → Prop}
theorem ret (h : te σ H fun v H1 => D.rt v H1) : tRet te D σ H := h
theorem tup (h : ta σ H fun xs H1 => xs.length ≤ sizeLine ∧ ∀ p, H1 p = none → Q (.ref p) (upd H1 p (.tup xs))) : tTup ta σ H Q := h
theorem cons (h : te σ H fun x H1 => tr σ H1 fun xs H2 => QA (x :: xs) H2) : tCons te tr σ H QA := h
theorem cb {r : List V → Hp → VK → Prop} (h : ta σ H fun vs H1 => r vs H1 Q) : tCB r ta σ H Q := h
theorem op {r : R2} (h : te σ H fun x H1 => tf σ H1 fun y H2 => r x y H2 Q) : tOp r te tf σ H Q := h
theorem yes {A B : Hp → Prop} (h : A H) : tYes σ H fun b H' => if b = true then A H' else B H' := by
  show if true = true then A H else B H
  rw [if_pos rfl]
  exact h
end
end St

/-! zip of two that are a list, a tuple or a text, in any mixture -/
namespace X16
open PySem PySem.Spec PyProof.Rows L2 Kit
inductive Kd | L | T | S
theorem vals_at {vs : List V} {us : List Value} (r : Vals vs us) {i : Nat} {u : Value} (e : us[i]? = some u) : ∃ v, vs[i]? = some v ∧ RelV v u := by
  induction r generalizing i with
  | nil => cases e
  | cons r1 _ ih =>
    cases i with
    | zero =>
      cases e
      exact ⟨_, rfl, r1⟩
    | succ i => exact ih e
def SqK (K : PySem.W.Frag) (H : Hp) : Kd → V → List V → Prop
  | .L, v, xs => ∃ a, v = .ref a ∧ SqL K H a xs
  | .T, v, xs => ∃ a, v = .ref a ∧ SqT K H a xs
  | .S, v, xs => ∃ z, v = .str z ∧ xs = sgV z
def ItZM (K : PySem.W.Frag) (k1 k2 : Kd) (va vb : V) : It :=
  ⟨fun i H => ∃ (xs ys : List V) (x y : V), SqK K H k1 va xs ∧ SqK K H k2 vb ys ∧ xs[i]? = some x ∧ ys[i]? = some y,
    fun i H v H' => ∃ T x y, v = .ref T ∧ H T = none ∧ H' = upd H T (.tup [x, y]) ∧ (∀ xs, SqK K H k1 va xs → xs[i]? = some x) ∧ ∀ ys, SqK K H k2 vb ys → ys[i]? = some y,
    fun i H => ∃ xs ys : List V, SqK K H k1 va xs ∧ SqK K H k2 vb ys ∧ i ≤ xs.length ∧ i ≤ ys.length ∧ (i = xs.length ∨ i = ys.length)⟩
def IK (h : Heap) (it : Addr) : Kd → Value → Nat → Prop
  | .L, u, i => ∃ l, u = .ref l ∧ h.IsListIter it l i
  | .T, u, i => ∃ l, u = .ref l ∧ h.IsTupleIter it l i
  | .S, u, i => ∃ z t, u = .str z t ∧ h.IsStrIter it (strIterType z) z t i
theorem IK.at {h h' : Heap} {it : Addr} {k : Kd} {u : Value} {i : Nat} (s : IK h it k u i) (q : ∀ o, h.get? it = some o → h'.get? it = some o) : IK h' it k u i := by
  cases k with
  | L =>
    obtain ⟨l, e, o, ho, r⟩ := s
    exact ⟨l, e, o, q o ho, r⟩
  | T =>
    obtain ⟨l, e, o, ho, r⟩ := s
    exact ⟨l, e, o, q o ho, r⟩
  | S =>
    obtain ⟨z, t, e, o, ho, r⟩ := s
    exact ⟨z, t, e, o, q o ho, r⟩
theorem IK.here {h : Heap} {it : Addr} {k : Kd} {u : Value} {i : Nat} (s : IK h it k u i) : ∃ o, h.get? it = some o ∧ ∀ v, o.data ≠ .cell v := by
  cases k with
  | L =>
    obtain ⟨l, e, o, ho, _, d⟩ := s
    exact ⟨o, ho, fun v q => by rw [d] at q; cases q⟩
  | T =>
    obtain ⟨l, e, o, ho, _, d⟩ := s
    exact ⟨o, ho, fun v q => by rw [d] at q; cases q⟩
  | S =>
    obtain ⟨z, t, e, o, ho, _, d⟩ := s
    exact ⟨o, ho, fun v q => by rw [d] at q; cases q⟩
section
variable {X : Cx} {pins : List (Addr × Obj)} {σ : L2.St} {H : Hp} {s : Shared}
theorem sqk_inj (I : Inv X pins σ H s) {k : Kd} {v : V} {xs ys : List V} (a : SqK X.K H k v xs) (b : SqK X.K H k v ys) : xs = ys := by
  cases k with
  | L =>
    obtain ⟨p, rfl, h1⟩ := a
    obtain ⟨q, e, h2⟩ := b
    cases e
    exact I.list_inj h1 h2
  | T =>
    obtain ⟨p, rfl, h1⟩ := a
    obtain ⟨q, e, h2⟩ := b
    cases e
    exact I.tuple_inj h1 h2
  | S =>
    obtain ⟨p, rfl, h1⟩ := a
    obtain ⟨q, e, h2⟩ := b
    cases e
    rw [h1, h2]
theorem draws_of {A : Around} (I : Inv X pins σ H s) (hh : A.handled = none) {k : Kd} {v : V} {xs : List V} {u : Value} {it : Addr} {i : Nat} (q : SqK X.K H k v xs) (r : RelV v u) (st : IK s.heap it k u i) (ap : ∀ l, u = .ref l → l ≠ it) :
    ∃ (fp : List Addr) (n : Nat) (P : Nat → Value → Prop) (St : Nat → Heap → Prop), n = xs.length ∧ Draws X.prog X.w A it fp n P St ∧ St i s.heap ∧ it ∈ fp ∧ (∀ b ∈ fp, b = it ∨ u = .ref b) ∧
      (∀ j x, P j x → ∃ y, xs[j]? = some y ∧ RelV y x) ∧ ∀ j h, St j h → IK h it k u j := by
  cases k with
  | L =>
    obtain ⟨a, rfl, e⟩ := q
    cases r
    obtain ⟨l, e1, hit⟩ := st
    cases e1
    obtain ⟨its, rv, p, _⟩ := I.list e
    refine ⟨[it, a], its.toArray.size, _, _, ?_, Draws.list hh it a (ap a rfl) its.toArray, ⟨hit, p.isList⟩, by simp, ?_, ?_, ?_⟩
    · rw [List.size_toArray, rv.length]
    · intro b hb
      have hb' : b = it ∨ b = a := by simpa using hb
      rcases hb' with z | z
      · exact .inl z
      · exact .inr (by rw [z])
    · intro j x hx
      have hx : its[j]? = some x := by simpa using hx
      obtain ⟨y, h1, h2⟩ := vals_at rv hx
      exact ⟨y, h1, h2⟩
    · intro j h hs
      exact ⟨a, rfl, hs.1⟩
  | T =>
    obtain ⟨a, rfl, e⟩ := q
    cases r
    obtain ⟨l, e1, hit⟩ := st
    cases e1
    obtain ⟨its, rv, p, _⟩ := I.tuple e
    refine ⟨[it, a], its.toArray.size, _, _, ?_, Draws.tuple hh it a (ap a rfl) its.toArray, ⟨hit, p⟩, by simp, ?_, ?_, ?_⟩
    · rw [List.size_toArray, rv.length]
    · intro b hb
      have hb' : b = it ∨ b = a := by simpa using hb
      rcases hb' with z | z
      · exact .inl z
      · exact .inr (by rw [z])
    · intro j x hx
      have hx : its[j]? = some x := by simpa using hx
      obtain ⟨y, h1, h2⟩ := vals_at rv hx
      exact ⟨y, h1, h2⟩
    · intro j h hs
      exact ⟨a, rfl, hs.1⟩
  | S =>
    obtain ⟨z, rfl, rfl⟩ := q
    obtain ⟨t, rfl⟩ := r
    obtain ⟨z', t', e1, hit⟩ := st
    cases e1
    refine ⟨[it], z.cps.size, _, _, ?_, Draws.text hh it z t, hit, by simp, ?_, ?_, ?_⟩
    · rw [sgV_len]
      rfl
    · intro b hb
      exact .inl (by simpa using hb)
    · rintro j x ⟨c, u, hc, rfl⟩
      refine ⟨.str ⟨#[c]⟩, ?_, ⟨u, rfl⟩⟩
      unfold sgV
      rw [List.getElem?_map, Array.getElem?_toList, hc]
      rfl
    · intro j h hs
      exact ⟨z, t, rfl, hs⟩
theorem begins_of (I : Inv X pins σ H s) {k : Kd} {v : V} {xs : List V} {u : Value} (q : SqK X.K H k v xs) (r : RelV v u) :
    ∃ (o : Obj) (H0 : Heap → Prop), Begins u o H0 ∧ H0 s.heap ∧ (∀ (h : Heap) (it : Addr), h.get? it = some o → IK h it k u 0) ∧ ∀ l, u = .ref l → l < s.heap.objs.size := by
  cases k with
  | L =>
    obtain ⟨a, rfl, e⟩ := q
    cases r
    obtain ⟨its, rv, p, _⟩ := I.list e
    exact ⟨_, _, begins_list a its.toArray, p.isList, fun h it g => ⟨a, rfl, _, g, rfl, rfl⟩, fun l e => by cases e; exact p.lt⟩
  | T =>
    obtain ⟨a, rfl, e⟩ := q
    cases r
    obtain ⟨its, rv, p, _⟩ := I.tuple e
    refine ⟨_, _, begins_tuple a its.toArray, p, fun h it g => ⟨a, rfl, _, g, rfl, rfl⟩, fun l e => ?_⟩
    cases e
    obtain ⟨o1, ho1, _⟩ := id p
    exact Heap.lt_size ho1
  | S =>
    obtain ⟨z, rfl, rfl⟩ := q
    obtain ⟨t, rfl⟩ := r
    exact ⟨_, _, begins_text z t, trivial, fun h it g => ⟨z, t, rfl, _, g, rfl, rfl⟩, fun l e => by cases e⟩
end
theorem na {a b : Nat} (h : a ≠ b) : (a : Addr) ≠ b := h
theorem ni {a b : Nat} (h : (a : Addr) = b) : a = b := h
theorem sep_of {n : Nat} {u1 u2 : Value} {fp1 fp2 : List Addr} (l1 : ∀ l : Nat, u1 = .ref l → l < n) (l2 : ∀ l : Nat, u2 = .ref l → l < n) (m1 : n ∈ fp1) (m2 : n + 1 ∈ fp2) (f1 : ∀ b ∈ fp1, b = n ∨ u1 = .ref b) (f2 : ∀ b ∈ fp2, b = n + 1 ∨ u2 = .ref b) :
    ZipSep2 (n + 4) (n + 2) (n + 3) n (n + 1) fp1 fp2 := by
  have g1 : ∀ b : Nat, b ∈ fp1 → b ≤ n := fun b hb => by
    rcases f1 b hb with q | q
    · exact Nat.le_of_eq q
    · exact Nat.le_of_lt (l1 _ q)
  have g2 : ∀ b : Nat, b ∈ fp2 → b ≤ n + 1 ∧ b ≠ n := fun b hb => by
    rcases f2 b hb with q | q
    · have q : b = n + 1 := q
      exact ⟨Nat.le_of_eq q, by omega⟩
    · have := l2 _ q
      exact ⟨by omega, by omega⟩
  refine ⟨na (by omega), na (by omega), na (by omega), na (by omega), m1, fun z => ?_, fun z => ?_, na (by omega), m2, fun z => ?_, fun z => ?_, fun z => ?_, fun z => ?_⟩
  · have := g1 (n + 4) z
    omega
  · have := g1 (n + 3) z
    omega
  · have := (g2 (n + 4) z).1
    omega
  · have := (g2 (n + 3) z).1
    omega
  · exact (g2 n z).2 rfl
  · have := g1 (n + 1) z
    omega
theorem turn_zipM {P : Program} {w : World} {K : PySem.W.Frag} {elts : List Expr} {kk : Nat} {tpos : Pos} {k1 k2 : Kd} {va vb : V} {u1 u2 : Value} {n : Nat} (r1 : RelV va u1) (r2 : RelV vb u2) (l1 : ∀ l : Nat, u1 = .ref l → l < n) (l2 : ∀ l : Nat, u2 = .ref l → l < n) :
    Turn P w K (.Tuple elts kk tpos) (ItZM K k1 k2 va vb) [n + 4, n + 2, n + 3, n, n + 1] (n + 4) (fun i h => IsZip h (n + 4) (n + 2) (n + 3) .none ∧ IsTupOf2 h (n + 2) (.ref n) (.ref (n + 1)) ∧ (∃ x y, IsTupOf2 h (n + 3) x y) ∧ IK h n k1 u1 i ∧ IK h (n + 1) k2 u2 i) where
  mem := by simp
  obj := fun i h st c hc => by
    obtain ⟨hz, hTI, ⟨x, y, hTO⟩, h1, h2⟩ := st
    have e' : c = n + 4 ∨ c = n + 2 ∨ c = n + 3 ∨ c = n ∨ c = n + 1 := by simpa using hc
    rcases e' with q | q | q | q | q
    · rw [q]; exact ⟨_, hz, fun v q => nomatch q⟩
    · rw [q]; exact ⟨_, hTI, fun v q => nomatch q⟩
    · rw [q]; exact ⟨_, hTO, fun v q => nomatch q⟩
    · rw [q]; exact h1.here
    · rw [q]; exact h2.here
  keep := fun i h h' st k => by
    obtain ⟨hz, hTI, ⟨x, y, hTO⟩, h1, h2⟩ := st
    exact ⟨k (n + 4) (by simp) _ hz, k (n + 2) (by simp) _ hTI, ⟨x, y, k (n + 3) (by simp) _ hTO⟩, h1.at fun o q => k n (by simp) o q, h2.at fun o q => k (n + 1) (by simp) o q⟩
  item := by
    intro X hP hw hK hc i pins s σ H E I hf st hg
    subst hP hw hK
    obtain ⟨hz, hTI, ⟨x0, y0, hTO⟩, h1, h2⟩ := st
    obtain ⟨xs, ys, x, y, hqx, hqy, hx, hy⟩ := hg
    have hh : X.A.in1.handled = none := I.ok.hd hc
    obtain ⟨fp1, n1, P1, St1, e1, D1, st1, m1, f1, p1, kk1⟩ := draws_of I hh hqx r1 h1 (fun l e z => by have := l1 l e; have := ni z; omega)
    obtain ⟨fp2, n2, P2, St2, e2, D2, st2, m2, f2, p2, kk2⟩ := draws_of I hh hqy r2 h2 (fun l e z => by have := l2 l e; have := ni z; omega)
    have S : ZipSep2 (n + 4) (n + 2) (n + 3) n (n + 1) fp1 fp2 := sep_of l1 l2 m1 m2 f1 f2
    have hzl : n + 4 < s.heap.objs.size := Heap.lt_size hz
    refine wpAny_pyNext_zipD2_item S D1 D2 hz hTI hTO st1 st2 (by rw [e1]; exact (List.getElem?_eq_some_iff.mp hx).1) (by rw [e2]; exact (List.getElem?_eq_some_iff.mp hy).1) fun v1 v2 h' tk y1 y2 z' TO' s1' s2' hT hsz hk => ?_
    obtain ⟨x', hx', rx⟩ := p1 i v1 y1
    rw [hx] at hx'
    cases hx'
    obtain ⟨y', hy', ry⟩ := p2 i v2 y2
    rw [hy] at hy'
    cases hy'
    refine ⟨_, rfl, wpAny_letOwnedTupleGo_zip (s := { s with heap := h', toks := tk }) z' fun h'' z'' sb => ?_⟩
    have hT2 : h''.get? s.heap.objs.size = some { cls := .type "tuple", data := .seq #[v1, v2] } := (sb.2 _ (Nat.ne_of_gt hzl)).trans hT
    have new : ObjOk X.prog X.w (upd H s.heap.objs.size (.tup [x, y])) h'' s.heap.objs.size (.tup [x, y]) :=
      ⟨by show 2 ≤ sizeLine; decide, [v1, v2], .cons rx (.cons ry .nil), ⟨_, hT2, rfl, _, rfl⟩⟩
    have I1 : Inv X pins σ (upd H s.heap.objs.size (.tup [x, y])) { s with heap := h'', toks := tk } :=
      I.turnedNew (t' := tk) (ch := [n + 4, n + 2, n + 3, n, n + 1]) (fun c o hb q => (sb.2 c (fun q' => hb (by simp [q']))).trans (hk c o (fun q' => hb (by simp [q'])) (fun q' => hb (by simp [q'])) (fun q' => hb (by simp [q'])) (fun q' => hb (by simp [q'])) q)) hf (Nat.le_refl _) new
    refine ⟨.ref s.heap.objs.size, _, I1, rfl, ⟨_, x, y, rfl, I.hok.fresh (Nat.le_refl _), rfl, fun l hl => by rw [sqk_inj I hl hqx]; exact hx, fun l hl => by rw [sqk_inj I hl hqy]; exact hy⟩, ⟨z'', ?_, ⟨v1, v2, ?_⟩, ?_, ?_⟩, fun c hcm => ?_⟩
    · exact (sb.2 _ (na (by omega))).trans (hk _ _ (na (by omega)) (na (by omega)) (na (by omega)) (na (by omega)) hTI)
    · exact (sb.2 _ (na (by omega))).trans TO'
    · exact (kk1 _ _ s1').at fun o q => (sb.2 _ (na (by omega))).trans q
    · exact (kk2 _ _ s2').at fun o q => (sb.2 _ (na (by omega))).trans q
    · have hlt : c < s.heap.objs.size := by
        have e' : c = n + 4 ∨ c = n + 2 ∨ c = n + 3 ∨ c = n ∨ c = n + 1 := by simpa using hcm
        have hzl : (n + 4 : Nat) < s.heap.objs.size := hzl
        rcases e' with q | q | q | q | q
        · rw [q]; exact hzl
        · rw [q]; exact (show (n + 2 : Nat) < s.heap.objs.size by omega)
        · rw [q]; exact (show (n + 3 : Nat) < s.heap.objs.size by omega)
        · rw [q]; exact (show (n : Nat) < s.heap.objs.size by omega)
        · rw [q]; exact (show (n + 1 : Nat) < s.heap.objs.size by omega)
      rw [upd_ne (Nat.ne_of_lt hlt)]
      exact (hf c hcm).1
  done := by
    intro X hP hw hK hc i pins s σ H E I hf st hg
    subst hP hw hK
    obtain ⟨hz, hTI, ⟨x0, y0, hTO⟩, h1, h2⟩ := st
    obtain ⟨xs, ys, hqx, hqy, b1, b2, hend⟩ := hg
    have hh : X.A.in1.handled = none := I.ok.hd hc
    obtain ⟨fp1, n1, P1, St1, e1, D1, st1, m1, f1, p1, kk1⟩ := draws_of I hh hqx r1 h1 (fun l e z => by have := l1 l e; have := ni z; omega)
    obtain ⟨fp2, n2, P2, St2, e2, D2, st2, m2, f2, p2, kk2⟩ := draws_of I hh hqy r2 h2 (fun l e z => by have := l2 l e; have := ni z; omega)
    have S : ZipSep2 (n + 4) (n + 2) (n + 3) n (n + 1) fp1 fp2 := sep_of l1 l2 m1 m2 f1 f2
    exact wpAny_pyNext_zipD2_end S D1 D2 hz hTI hTO st1 st2 (by omega) (by omega) (by omega) fun h' tk hk => ⟨rfl, I.turnedL (t' := tk) (ch := [n + 4, n + 2, n + 3, n, n + 1]) (fun c o hb q =>
      hk c o (fun q' => hb (by simp [q'])) (fun q' => hb (by simp [q'])) (fun q' => hb (by simp [q'])) (fun q' => hb (by simp [q'])) q) hf⟩
  self := fun A i s Q E st h => wpAny_pyIter_zip st.1 h
def iZipM (K : PySem.W.Frag) (k1 k2 : Kd) (ta : TA) : TI := fun σ H R => ta σ H fun vs H1 => ∃ va vb xs ys, vs = [va, vb] ∧ SqK K H1 k1 va xs ∧ SqK K H1 k2 vb ys ∧ R (ItZM K k1 k2 va vb) H1
theorem pi_zipM {X : Cx} {k1 k2 : Kd} {e e2 : Expr} {ta : TA} {p pos tpos : Pos} {elts : List Expr} {kk : Nat} (hg : Gl X "zip") (hm : X.mg "zip" = none) (ha : PA X [e, e2] ta)
    (hs : starEach [e, e2] X.env = (false, eval e X.env) :: starEach [e2] X.env := by rfl) (hpl : (backTo pos (starEach [e2] X.env)).any (·.1) = false := by rfl) :
    PI X (.Tuple elts kk tpos) (.Call (.Name "zip" p) [e, e2] [] pos) (iZipM X.K k1 k2 ta) := by
  refine ⟨fun pins s σ H R I h => ?_⟩
  refine Call_ (ld_blt I hg hm PyProof.Rows.boot_zip (PyProof.Rows.callWith_type1 (thn (ha.run pos pins s σ H _ I h) fun us s1 ⟨vs, H1, I1, r1, q1⟩ => ?_) hs hpl))
  obtain ⟨va, vb, xs, ys, ex, hqx, hqy, q⟩ := q1
  subst ex
  cases r1 with
  | cons r rr =>
    cases rr with
    | cons r' rr =>
      cases rr
      obtain ⟨o1, H01, B1, g1, i1, l1⟩ := begins_of I1 hqx r
      obtain ⟨o2, H02, B2, g2, i2, l2⟩ := begins_of I1 hqy r'
      refine zip_begins2 B1 B2 g1 g2 fun h' hz hTI hTO e1 e2 hsz hk => wpAny_pyIter_zip hz ?_
      have I2 : Inv X pins σ H1 { s1 with heap := h' } := I1.kept (t' := s1.toks) hk
      refine ⟨s1.heap.objs.size + 4, [s1.heap.objs.size + 4, s1.heap.objs.size + 2, s1.heap.objs.size + 3, s1.heap.objs.size, s1.heap.objs.size + 1], _, _, H1, rfl, I2, turn_zipM r r' l1 l2, ⟨hz, hTI, ⟨_, _, hTO⟩, i1 _ _ e1, i2 _ _ e2⟩, fun c hcm => ?_, q⟩
      have e' : c = s1.heap.objs.size + 4 ∨ c = s1.heap.objs.size + 2 ∨ c = s1.heap.objs.size + 3 ∨ c = s1.heap.objs.size ∨ c = s1.heap.objs.size + 1 := by simpa using hcm
      have hle : s1.heap.objs.size ≤ c := by
        rcases e' with z | z | z | z | z
        · rw [z]; exact Nat.le_add_right _ _
        · rw [z]; exact Nat.le_add_right _ _
        · rw [z]; exact Nat.le_add_right _ _
        · rw [z]; exact Nat.le_refl _
        · rw [z]; exact Nat.le_add_right _ _
      exact I1.fpOk hle (I1.hok.fresh hle)
theorem walk_zipM {K : PySem.W.Frag} {k1 k2 : Kd} {a b : V} {xs ys : List V} {n : Nat} (h : n = min xs.length ys.length) :
    Walk (ItZM K k1 k2 a b) n (fun H => SqK K H k1 a xs ∧ SqK K H k2 b ys) (YPair (fun i => xs[i]?) (fun i => ys[i]?)) where
  goes := fun i H hi h => ⟨xs, ys, xs[i]'(by omega), ys[i]'(by omega), h.1, h.2, List.getElem?_eq_getElem _, List.getElem?_eq_getElem _⟩
  stops := fun H h => ⟨xs, ys, h.1, h.2, by omega, by omega, by omega⟩
  yields := fun i H x H' hi h y => by
    obtain ⟨T, u, v, rfl, nT, e, hu, hv⟩ := y
    exact ⟨T, u, v, rfl, nT, e, hu xs h.1, hv ys h.2⟩
end X16

/-! zip of three that are a list, a tuple or a text, in any mixture -/
namespace X19
open PySem PySem.Spec PyProof.Rows L2 Kit X16
def ItZ3 (K : PySem.W.Frag) (k1 k2 k3 : Kd) (va vb vc : V) : It :=
  ⟨fun i H => ∃ (xs ys zs : List V) (x y z : V), SqK K H k1 va xs ∧ SqK K H k2 vb ys ∧ SqK K H k3 vc zs ∧ xs[i]? = some x ∧ ys[i]? = some y ∧ zs[i]? = some z,
    fun i H v H' => ∃ T x y z, v = .ref T ∧ H T = none ∧ H' = upd H T (.tup [x, y, z]) ∧ (∀ xs, SqK K H k1 va xs → xs[i]? = some x) ∧ (∀ ys, SqK K H k2 vb ys → ys[i]? = some y) ∧ ∀ zs, SqK K H k3 vc zs → zs[i]? = some z,
    fun i H => ∃ xs ys zs : List V, SqK K H k1 va xs ∧ SqK K H k2 vb ys ∧ SqK K H k3 vc zs ∧ i ≤ xs.length ∧ i ≤ ys.length ∧ i ≤ zs.length ∧ (i = xs.length ∨ i = ys.length ∨ i = zs.length)⟩
theorem sep_of3 {n : Nat} {u1 u2 u3 : Value} {fp1 fp2 fp3 : List Addr} (l1 : ∀ l : Nat, u1 = .ref l → l < n) (l2 : ∀ l : Nat, u2 = .ref l → l < n) (l3 : ∀ l : Nat, u3 = .ref l → l < n) (m1 : n ∈ fp1) (m2 : n + 1 ∈ fp2) (m3 : n + 2 ∈ fp3)
    (f1 : ∀ b ∈ fp1, b = n ∨ u1 = .ref b) (f2 : ∀ b ∈ fp2, b = n + 1 ∨ u2 = .ref b) (f3 : ∀ b ∈ fp3, b = n + 2 ∨ u3 = .ref b) :
    ZipSep3 (n + 5) (n + 3) (n + 4) n (n + 1) (n + 2) fp1 fp2 fp3 := by
  have g1 : ∀ b : Nat, b ∈ fp1 → b ≤ n := fun b hb => by
    rcases f1 b hb with q | q
    · exact Nat.le_of_eq q
    · exact Nat.le_of_lt (l1 _ q)
  have g2 : ∀ b : Nat, b ∈ fp2 → b ≤ n + 1 ∧ b ≠ n := fun b hb => by
    rcases f2 b hb with q | q
    · have q : b = n + 1 := q
      exact ⟨Nat.le_of_eq q, by omega⟩
    · have := l2 _ q
      exact ⟨by omega, by omega⟩
  have g3 : ∀ b : Nat, b ∈ fp3 → b ≤ n + 2 ∧ b ≠ n ∧ b ≠ n + 1 := fun b hb => by
    rcases f3 b hb with q | q
    · have q : b = n + 2 := q
      exact ⟨Nat.le_of_eq q, by omega, by omega⟩
    · have := l3 _ q
      exact ⟨by omega, by omega, by omega⟩
  constructor
  all_goals first
    | exact m1
    | exact m2
    | exact m3
    | exact na (by omega)
    | (intro z; have := g1 _ z; omega)
    | (intro z; have := g2 _ z; omega)
    | (intro z; have := g3 _ z; omega)
theorem turn_zip3 {P : Program} {w : World} {K : PySem.W.Frag} {elts : List Expr} {kk : Nat} {tpos : Pos} {k1 k2 k3 : Kd} {va vb vc : V} {u1 u2 u3 : Value} {n : Nat} (r1 : RelV va u1) (r2 : RelV vb u2) (r3 : RelV vc u3)
    (l1 : ∀ l : Nat, u1 = .ref l → l < n) (l2 : ∀ l : Nat, u2 = .ref l → l < n) (l3 : ∀ l : Nat, u3 = .ref l → l < n) :
    Turn P w K (.Tuple elts kk tpos) (ItZ3 K k1 k2 k3 va vb vc) [n + 5, n + 3, n + 4, n, n + 1, n + 2] (n + 5) (fun i h => IsZip h (n + 5) (n + 3) (n + 4) .none ∧ IsTupOf3 h (n + 3) (.ref n) (.ref (n + 1)) (.ref (n + 2)) ∧ (∃ x y z, IsTupOf3 h (n + 4) x y z) ∧ IK h n k1 u1 i ∧ IK h (n + 1) k2 u2 i ∧ IK h (n + 2) k3 u3 i) where
  mem := by simp
  obj := fun i h st c hc => by
    obtain ⟨hz, hTI, ⟨x, y, z, hTO⟩, h1, h2, h3⟩ := st
    have e' : c = n + 5 ∨ c = n + 3 ∨ c = n + 4 ∨ c = n ∨ c = n + 1 ∨ c = n + 2 := by simpa using hc
    rcases e' with q | q | q | q | q | q
    · rw [q]; exact ⟨_, hz, fun v q => nomatch q⟩
    · rw [q]; exact ⟨_, hTI, fun v q => nomatch q⟩
    · rw [q]; exact ⟨_, hTO, fun v q => nomatch q⟩
    · rw [q]; exact h1.here
    · rw [q]; exact h2.here
    · rw [q]; exact h3.here
  keep := fun i h h' st k => by
    obtain ⟨hz, hTI, ⟨x, y, z, hTO⟩, h1, h2, h3⟩ := st
    exact ⟨k (n + 5) (by simp) _ hz, k (n + 3) (by simp) _ hTI, ⟨x, y, z, k (n + 4) (by simp) _ hTO⟩, h1.at fun o q => k n (by simp) o q, h2.at fun o q => k (n + 1) (by simp) o q, h3.at fun o q => k (n + 2) (by simp) o q⟩
  item := by
    intro X hP hw hK hc i pins s σ H E I hf st hg
    subst hP hw hK
    obtain ⟨hz, hTI, ⟨x0, y0, z0, hTO⟩, h1, h2, h3⟩ := st
    obtain ⟨xs, ys, zs, x, y, z, hqx, hqy, hqz, hx, hy, hzz⟩ := hg
    have hh : X.A.in1.handled = none := I.ok.hd hc
    obtain ⟨fp1, n1, P1, St1, e1, D1, st1, m1, f1, p1, kk1⟩ := draws_of I hh hqx r1 h1 (fun l e z => by have := l1 l e; have := ni z; omega)
    obtain ⟨fp2, n2, P2, St2, e2, D2, st2, m2, f2, p2, kk2⟩ := draws_of I hh hqy r2 h2 (fun l e z => by have := l2 l e; have := ni z; omega)
    obtain ⟨fp3, n3, P3, St3, e3, D3, st3, m3, f3, p3, kk3⟩ := draws_of I hh hqz r3 h3 (fun l e z => by have := l3 l e; have := ni z; omega)
    have S : ZipSep3 (n + 5) (n + 3) (n + 4) n (n + 1) (n + 2) fp1 fp2 fp3 := sep_of3 l1 l2 l3 m1 m2 m3 f1 f2 f3
    have hzl : n + 5 < s.heap.objs.size := Heap.lt_size hz
    refine wpAny_pyNext_zipD3_item S D1 D2 D3 hz hTI hTO st1 st2 st3 (by rw [e1]; exact (List.getElem?_eq_some_iff.mp hx).1) (by rw [e2]; exact (List.getElem?_eq_some_iff.mp hy).1) (by rw [e3]; exact (List.getElem?_eq_some_iff.mp hzz).1) fun v1 v2 v3 h' tk y1 y2 y3 z' TO' s1' s2' s3' hT hsz hk => ?_
    obtain ⟨x', hx', rx⟩ := p1 i v1 y1
    rw [hx] at hx'
    cases hx'
    obtain ⟨y', hy', ry⟩ := p2 i v2 y2
    rw [hy] at hy'
    cases hy'
    obtain ⟨w', hw', rz⟩ := p3 i v3 y3
    rw [hzz] at hw'
    cases hw'
    refine ⟨_, rfl, wpAny_letOwnedTupleGo_zip (s := { s with heap := h', toks := tk }) z' fun h'' z'' sb => ?_⟩
    have hT2 : h''.get? s.heap.objs.size = some { cls := .type "tuple", data := .seq #[v1, v2, v3] } := (sb.2 _ (Nat.ne_of_gt hzl)).trans hT
    have new : ObjOk X.prog X.w (upd H s.heap.objs.size (.tup [x, y, z])) h'' s.heap.objs.size (.tup [x, y, z]) :=
      ⟨by show 3 ≤ sizeLine; decide, [v1, v2, v3], .cons rx (.cons ry (.cons rz .nil)), ⟨_, hT2, rfl, _, rfl⟩⟩
    have I1 : Inv X pins σ (upd H s.heap.objs.size (.tup [x, y, z])) { s with heap := h'', toks := tk } :=
      I.turnedNew (t' := tk) (ch := [n + 5, n + 3, n + 4, n, n + 1, n + 2]) (fun c o hb q => (sb.2 c (fun q' => hb (by simp [q']))).trans (hk c o (fun q' => hb (by simp [q'])) (fun q' => hb (by simp [q'])) (fun q' => hb (by simp [q'])) (fun q' => hb (by simp [q'])) (fun q' => hb (by simp [q'])) q)) hf (Nat.le_refl _) new
    refine ⟨.ref s.heap.objs.size, _, I1, rfl, ⟨_, x, y, z, rfl, I.hok.fresh (Nat.le_refl _), rfl, fun l hl => by rw [sqk_inj I hl hqx]; exact hx, fun l hl => by rw [sqk_inj I hl hqy]; exact hy, fun l hl => by rw [sqk_inj I hl hqz]; exact hzz⟩, ⟨z'', ?_, ⟨v1, v2, v3, ?_⟩, ?_, ?_, ?_⟩, fun c hcm => ?_⟩
    · exact (sb.2 _ (na (by omega))).trans (hk _ _ (na (by omega)) (na (by omega)) (na (by omega)) (na (by omega)) (na (by omega)) hTI)
    · exact (sb.2 _ (na (by omega))).trans TO'
    · exact (kk1 _ _ s1').at fun o q => (sb.2 _ (na (by omega))).trans q
    · exact (kk2 _ _ s2').at fun o q => (sb.2 _ (na (by omega))).trans q
    · exact (kk3 _ _ s3').at fun o q => (sb.2 _ (na (by omega))).trans q
    · have hlt : c < s.heap.objs.size := by
        have e' : c = n + 5 ∨ c = n + 3 ∨ c = n + 4 ∨ c = n ∨ c = n + 1 ∨ c = n + 2 := by simpa using hcm
        have hzl : (n + 5 : Nat) < s.heap.objs.size := hzl
        rcases e' with q | q | q | q | q | q
        · rw [q]; exact hzl
        · rw [q]; exact (show (n + 3 : Nat) < s.heap.objs.size by omega)
        · rw [q]; exact (show (n + 4 : Nat) < s.heap.objs.size by omega)
        · rw [q]; exact (show (n : Nat) < s.heap.objs.size by omega)
        · rw [q]; exact (show (n + 1 : Nat) < s.heap.objs.size by omega)
        · rw [q]; exact (show (n + 2 : Nat) < s.heap.objs.size by omega)
      rw [upd_ne (Nat.ne_of_lt hlt)]
      exact (hf c hcm).1
  done := by
    intro X hP hw hK hc i pins s σ H E I hf st hg
    subst hP hw hK
    obtain ⟨hz, hTI, ⟨x0, y0, z0, hTO⟩, h1, h2, h3⟩ := st
    obtain ⟨xs, ys, zs, hqx, hqy, hqz, b1, b2, b3, hend⟩ := hg
    have hh : X.A.in1.handled = none := I.ok.hd hc
    obtain ⟨fp1, n1, P1, St1, e1, D1, st1, m1, f1, p1, kk1⟩ := draws_of I hh hqx r1 h1 (fun l e z => by have := l1 l e; have := ni z; omega)
    obtain ⟨fp2, n2, P2, St2, e2, D2, st2, m2, f2, p2, kk2⟩ := draws_of I hh hqy r2 h2 (fun l e z => by have := l2 l e; have := ni z; omega)
    obtain ⟨fp3, n3, P3, St3, e3, D3, st3, m3, f3, p3, kk3⟩ := draws_of I hh hqz r3 h3 (fun l e z => by have := l3 l e; have := ni z; omega)
    have S : ZipSep3 (n + 5) (n + 3) (n + 4) n (n + 1) (n + 2) fp1 fp2 fp3 := sep_of3 l1 l2 l3 m1 m2 m3 f1 f2 f3
    exact wpAny_pyNext_zipD3_end S D1 D2 D3 hz hTI hTO st1 st2 st3 (by omega) (by omega) (by omega) (by omega) fun h' tk hk => ⟨rfl, I.turnedL (t' := tk) (ch := [n + 5, n + 3, n + 4, n, n + 1, n + 2]) (fun c o hb q =>
      hk c o (fun q' => hb (by simp [q'])) (fun q' => hb (by simp [q'])) (fun q' => hb (by simp [q'])) (fun q' => hb (by simp [q'])) (fun q' => hb (by simp [q'])) q) hf⟩
  self := fun A i s Q E st h => wpAny_pyIter_zip st.1 h
def iZip3 (K : PySem.W.Frag) (k1 k2 k3 : Kd) (ta : TA) : TI := fun σ H R => ta σ H fun vs H1 => ∃ va vb vc xs ys zs, vs = [va, vb, vc] ∧ SqK K H1 k1 va xs ∧ SqK K H1 k2 vb ys ∧ SqK K H1 k3 vc zs ∧ R (ItZ3 K k1 k2 k3 va vb vc) H1
theorem pi_zip3 {X : Cx} {k1 k2 k3 : Kd} {e e2 e3 : Expr} {ta : TA} {p pos tpos : Pos} {elts : List Expr} {kk : Nat} (hg : Gl X "zip") (hm : X.mg "zip" = none) (ha : PA X [e, e2, e3] ta)
    (hs : starEach [e, e2, e3] X.env = (false, eval e X.env) :: starEach [e2, e3] X.env := by rfl) (hpl : (backTo pos (starEach [e2, e3] X.env)).any (·.1) = false := by rfl) :
    PI X (.Tuple elts kk tpos) (.Call (.Name "zip" p) [e, e2, e3] [] pos) (iZip3 X.K k1 k2 k3 ta) := by
  refine ⟨fun pins s σ H R I h => ?_⟩
  refine Call_ (ld_blt I hg hm PyProof.Rows.boot_zip (PyProof.Rows.callWith_type1 (thn (ha.run pos pins s σ H _ I h) fun us s1 ⟨vs, H1, I1, r1, q1⟩ => ?_) hs hpl))
  obtain ⟨va, vb, vc, xs, ys, zs, ex, hqx, hqy, hqz, q⟩ := q1
  subst ex
  cases r1 with
  | cons r rr =>
    cases rr with
    | cons r' rr =>
      cases rr with
      | cons r'' rr =>
      cases rr
      obtain ⟨o1, H01, B1, g1, i1, l1⟩ := begins_of I1 hqx r
      obtain ⟨o2, H02, B2, g2, i2, l2⟩ := begins_of I1 hqy r'
      obtain ⟨o3, H03, B3, g3, i3, l3⟩ := begins_of I1 hqz r''
      refine zip_begins3 B1 B2 B3 g1 g2 g3 fun h' hz hTI hTO e1 e2 e3 hsz hk => wpAny_pyIter_zip hz ?_
      have I2 : Inv X pins σ H1 { s1 with heap := h' } := I1.kept (t' := s1.toks) hk
      refine ⟨s1.heap.objs.size + 5, [s1.heap.objs.size + 5, s1.heap.objs.size + 3, s1.heap.objs.size + 4, s1.heap.objs.size, s1.heap.objs.size + 1, s1.heap.objs.size + 2], _, _, H1, rfl, I2, turn_zip3 r r' r'' l1 l2 l3, ⟨hz, hTI, ⟨_, _, _, hTO⟩, i1 _ _ e1, i2 _ _ e2, i3 _ _ e3⟩, fun c hcm => ?_, q⟩
      have e' : c = s1.heap.objs.size + 5 ∨ c = s1.heap.objs.size + 3 ∨ c = s1.heap.objs.size + 4 ∨ c = s1.heap.objs.size ∨ c = s1.heap.objs.size + 1 ∨ c = s1.heap.objs.size + 2 := by simpa using hcm
      have hle : s1.heap.objs.size ≤ c := by
        rcases e' with z | z | z | z | z | z
        · rw [z]; exact Nat.le_add_right _ _
        · rw [z]; exact Nat.le_add_right _ _
        · rw [z]; exact Nat.le_add_right _ _
        · rw [z]; exact Nat.le_refl _
        · rw [z]; exact Nat.le_add_right _ _
        · rw [z]; exact Nat.le_add_right _ _
      exact I1.fpOk hle (I1.hok.fresh hle)
/-- what such a turn gives -/
def YTrip (xs ys zs : List V) : Nat → Hp → V → Hp → Prop := fun i H v H' => ∃ T x y z, v = .ref T ∧ H T = none ∧ H' = upd H T (.tup [x, y, z]) ∧ xs[i]? = some x ∧ ys[i]? = some y ∧ zs[i]? = some z
theorem walk_zip3 {K : PySem.W.Frag} {k1 k2 k3 : Kd} {a b c : V} {xs ys zs : List V} {n : Nat} (h1 : n = xs.length) (h2 : n = ys.length) (h3 : n = zs.length) :
    Walk (ItZ3 K k1 k2 k3 a b c) n (fun H => SqK K H k1 a xs ∧ SqK K H k2 b ys ∧ SqK K H k3 c zs) (YTrip xs ys zs) where
  goes := fun i H hi h => ⟨xs, ys, zs, xs[i]'(by omega), ys[i]'(by omega), zs[i]'(by omega), h.1, h.2.1, h.2.2, List.getElem?_eq_getElem _, List.getElem?_eq_getElem _, List.getElem?_eq_getElem _⟩
  stops := fun H h => ⟨xs, ys, zs, h.1, h.2.1, h.2.2, by omega, by omega, by omega, by omega⟩
  yields := fun i H x H' hi h y => by
    obtain ⟨T, u, v, w, rfl, nT, e, hu, hv, hw⟩ := y
    exact ⟨T, u, v, w, rfl, nT, e, hu xs h.1, hv ys h.2.1, hw zs h.2.2⟩
end X19

namespace DL
open PySem PySem.Spec PyProof.Rows L2 Kit

/-! ### what is read of a value: a list that may change by what it holds now -/
section
variable (K : PySem.W.Frag)
def Vw (S : Pl) (μ : Mu) (H : Hp) (d : D) (v : V) : Prop := match d with
  | .lst xs => ∃ a vs, v = .ref a ∧ H a = some (.lst vs) ∧ RepA K S μ H xs vs
  | .dct false ks => ∃ a kvs, v = .ref a ∧ H a = some (.dK kvs) ∧ RepK K S μ H ks kvs
  | .dct true ks => ∃ a kvs, v = .ref a ∧ H a = some (.dT kvs) ∧ RepT K S μ H ks kvs
  | d => Rep K S μ H d v
end
def lookM : Option MO → Option D
  | some (.lst xs) => some (.lst xs)
  | some (.dct b ks) => some (.dct b ks)
  | _ => none
def look (μ : Mu) : D → Option D
  | .ref n => lookM μ[n]?
  | d => some d
def see (d : D) : W D := W.rd fun μ => W.opt (look μ d)
theorem run_see {d : D} {Q : D → Mu → Prop} {E : Exn → Mu → Prop} {μ : Mu} : (see d).run Q E μ = (W.opt (look μ d)).run Q E μ := rfl
section
variable {K : PySem.W.Frag} {dk : DK} {S : Pl} {μ : Mu} {H : Hp}
theorem Rep.vw {d : D} {v : V} (h : Rep K S μ H d v) : Vw K S μ H d v := by
  cases h with
  | lst h r => exact ⟨_, _, rfl, h.1, r⟩
  | dcK h r => exact ⟨_, _, rfl, h.1, r⟩
  | dcT h r => exact ⟨_, _, rfl, h.1, r⟩
  | ktp h r => exact .ktp h r
  | adr a => exact .adr a
  | non => exact .non
  | bl b => exact .bl b
  | int i => exact .int i
  | str z => exact .str z
  | ty n => exact .ty n
  | ref h => exact .ref h
  | tup h r => exact .tup h r
  | scr h => exact .scr h
theorem see_vw (ok : Ok K dk.p S μ H) {d : D} {v : V} (r : Rep K S μ H d v) {Q : D → Mu → Prop} {E : Exn → Mu → Prop} (h : (see d).run Q E μ) : ∃ d', Vw K S μ H d' v ∧ Q d' μ := by
  rw [run_see] at h
  cases hl : look μ d with
  | none => rw [hl] at h; exact h.elim
  | some d' =>
    rw [hl] at h
    refine ⟨d', ?_, h⟩
    cases d with
    | ref n =>
      cases r with
      | ref hn =>
        have hl : lookM μ[n]? = some d' := hl
        cases hm : μ[n]? with
        | none => rw [hm] at hl; cases hl
        | some m =>
          rw [hm] at hl
          have hk := ok.at_ n m _ hm hn
          cases m with
          | lst xs =>
            cases hl
            obtain ⟨vs, h1, h2⟩ := hk
            exact ⟨_, vs, rfl, h1, h2⟩
          | dct b ks =>
            cases hl
            cases b with
            | false =>
              obtain ⟨kvs, h1, h2⟩ := hk
              exact ⟨_, kvs, rfl, h1, h2⟩
            | true =>
              obtain ⟨kvs, h1, h2⟩ := hk
              exact ⟨_, kvs, rfl, h1, h2⟩
          | _ => cases hl
    | _ => cases hl; exact r.vw
end
/-- rules by what is read -/
def LV1 (K : PySem.W.Frag) (dk : DK) (r : V → Hp → VK → Prop) (g : D → W D) : Prop := ∀ {x : V} {dx : D} {S : Pl} {μ : Mu} {H : Hp} {Q : VK} {E : Exn → Mu → Prop}, Ok K dk.p S μ H → Vw K S μ H dx x →
  (g dx).run (Post K dk S μ H Q) E μ → r x H Q
def LV2 (K : PySem.W.Frag) (dk : DK) (r : R2) (g : D → D → W D) : Prop := ∀ {x y : V} {dx dy : D} {S : Pl} {μ : Mu} {H : Hp} {Q : VK} {E : Exn → Mu → Prop}, Ok K dk.p S μ H → Vw K S μ H dx x → Vw K S μ H dy y →
  (g dx dy).run (Post K dk S μ H Q) E μ → r x y H Q
def s1 (g : D → W D) : D → W D := fun x => W.bnd (see x) g
def s2 (g : D → D → W D) : D → D → W D := fun x y => W.bnd (see x) fun x => W.bnd (see y) fun y => g x y
section
variable {K : PySem.W.Frag} {dk : DK}
theorem LV2.up {r : R2} {g : D → D → W D} (l : LV2 K dk r g) : LR2 K dk r (s2 g) := fun {x y dx dy S μ H Q E} ok rx ry q => by
  obtain ⟨dx', vx, q⟩ := see_vw ok rx (Q := fun x μ' => (W.bnd (see dy) fun y => g x y).run (Post K dk S μ H Q) E μ') q
  obtain ⟨dy', vy, q⟩ := see_vw ok ry (Q := fun y μ' => (g dx' y).run (Post K dk S μ H Q) E μ') q
  exact l ok vx vy q
theorem LV1.up {r : V → Hp → VK → Prop} {g : D → W D} (l : LV1 K dk r g) : LR1 K dk r (s1 g) := fun {x dx S μ H Q E} ok rx q => by
  obtain ⟨dx', vx, q⟩ := see_vw ok rx (Q := fun x μ' => (g x).run (Post K dk S μ H Q) E μ') q
  exact l ok vx q
/-- an argument alone -/
def c1 (g : D → W D) : List D → W D
  | [x] => W.bnd (see x) g
  | _ => W.fail
def c2 (g : D → D → W D) : List D → W D
  | [x, y] => W.bnd (see x) fun x => W.bnd (see y) fun y => g x y
  | _ => W.fail
theorem LV1.call {r : V → Hp → VK → Prop} {g : D → W D} (l : LV1 K dk r g) : LRC K dk (fun xs H Q => ∃ x, xs = [x] ∧ r x H Q) (c1 g) := fun {xs ds S μ H Q E} ok rs q => by
  cases rs with
  | nil => exact q.elim
  | cons h t =>
    cases t with
    | nil =>
      obtain ⟨dx', vx, q⟩ := see_vw ok h (Q := fun x μ' => (g x).run (Post K dk S μ H Q) E μ') q
      exact ⟨_, rfl, l ok vx q⟩
    | cons _ _ => exact q.elim
theorem LV2.call {r : R2} {g : D → D → W D} (l : LV2 K dk r g) : LRC K dk (fun xs H Q => ∃ x y, xs = [x, y] ∧ r x y H Q) (c2 g) := fun {xs ds S μ H Q E} ok rs q => by
  cases rs with
  | nil => exact q.elim
  | cons h t =>
    cases t with
    | nil => exact q.elim
    | cons h2 t2 =>
      cases t2 with
      | nil => exact ⟨_, _, rfl, l.up ok h h2 q⟩
      | cons _ _ => exact q.elim
end
theorem CallR.imp {X : Cx} {f : Value} {r r' : List V → Hp → VK → Prop} (h : CallR X f r) (w : ∀ xs H Q, r' xs H Q → r xs H Q) : CallR X f r' := fun pins s σ H xs us Q I rr q => h pins s σ H xs us Q I rr (w _ _ _ q)
theorem CallR.or {X : Cx} {f : Value} {r r' : List V → Hp → VK → Prop} (h : CallR X f r) (h' : CallR X f r') : CallR X f (fun xs H Q => r xs H Q ∨ r' xs H Q) := fun pins s σ H xs us Q I rr q => by
  rcases q with q | q
  · exact h pins s σ H xs us Q I rr q
  · exact h' pins s σ H xs us Q I rr q

/-! ### whole numbers -/
def oI (C : Int → Int → Prop) (f : Int → Int → D) : D → D → W D
  | .int i, .int j => W.chk (C i j) (W.ret (f i j))
  | _, _ => W.fail
def oI0 (f : Int → Int → D) : D → D → W D
  | .int i, .int j => W.ret (f i j)
  | _, _ => W.fail
section
variable {K : PySem.W.Frag} {dk : DK}
theorem lr_I {C : Int → Int → Prop} {g : Int → Int → V} {f : Int → Int → D} (h : ∀ {S : Pl} {μ : Mu} {H : Hp} (i j : Int), Rep K S μ H (f i j) (g i j)) : LR2 K dk (rI C g) (oI C f) := fun {x y dx dy S μ H Q E} ok rx ry q => by
  unfold oI at q
  split at q
  · cases rx
    cases ry
    exact ⟨_, _, rfl, rfl, q.1, q.2 _ S H Ex.refl ok (h _ _)⟩
  · exact q.elim
theorem lr_I0 {g : Int → Int → V} {f : Int → Int → D} (h : ∀ {S : Pl} {μ : Mu} {H : Hp} (i j : Int), Rep K S μ H (f i j) (g i j)) : LR2 K dk (rI0 g) (oI0 f) := fun {x y dx dy S μ H Q E} ok rx ry q => by
  unfold oI0 at q
  split at q
  · cases rx
    cases ry
    exact ⟨_, _, rfl, rfl, q _ S H Ex.refl ok (h _ _)⟩
  · exact q.elim
def gSub := oI0 fun i j => .int (i - j)
def gMulI := oI IntMulOk fun i j => .int (i * j)
def gDiv := oI CDivW fun i j => .int (i / j)
def gMod := oI (fun _ j => 0 < j) fun i j => .int (i % j)
def gPow := oI CPow fun i j => .int (i ^ j.toNat)
def gShl := oI CPow fun i j => .int (i * 2 ^ j.toNat)
def gShr := oI (fun _ j => 0 ≤ j) fun i j => .int (i / 2 ^ j.toNat)
def gAndI := oI0 fun i j => .int (Builtin.bitAnd i j)
def gOrI := oI0 fun i j => .int (Builtin.bitOr i j)
def gXorI := oI0 fun i j => .int (Builtin.bitXor i j)
theorem l_sub : LR2 K dk (rI0 fun i j => .int (i - j)) gSub := lr_I0 fun _ _ => .int _
theorem l_mulI : LR2 K dk (rI IntMulOk fun i j => .int (i * j)) gMulI := lr_I fun _ _ => .int _
theorem l_div : LR2 K dk (rI CDivW fun i j => .int (i / j)) gDiv := lr_I fun _ _ => .int _
theorem l_mod : LR2 K dk (rI (fun _ j => 0 < j) fun i j => .int (i % j)) gMod := lr_I fun _ _ => .int _
theorem l_pow : LR2 K dk (rI CPow fun i j => .int (i ^ j.toNat)) gPow := lr_I fun _ _ => .int _
theorem l_shl : LR2 K dk (rI CPow fun i j => .int (i * 2 ^ j.toNat)) gShl := lr_I fun _ _ => .int _
theorem l_shr : LR2 K dk (rI (fun _ j => 0 ≤ j) fun i j => .int (i / 2 ^ j.toNat)) gShr := lr_I fun _ _ => .int _
theorem l_andI : LR2 K dk (rI0 fun i j => .int (Builtin.bitAnd i j)) gAndI := lr_I0 fun _ _ => .int _
theorem l_orI : LR2 K dk (rI0 fun i j => .int (Builtin.bitOr i j)) gOrI := lr_I0 fun _ _ => .int _
theorem l_xorI : LR2 K dk (rI0 fun i j => .int (Builtin.bitXor i j)) gXorI := lr_I0 fun _ _ => .int _
def gNeg : D → W D
  | .int i => W.ret (.int (-i))
  | _ => W.fail
theorem l_neg : LR1 K dk (rU fun i => .int (-i)) gNeg := fun {x dx S μ H Q E} ok rx q => by
  unfold gNeg at q
  split at q
  · cases rx
    exact ⟨_, rfl, q _ S H Ex.refl ok (.int _)⟩
  · exact q.elim
/-! order -/
def gOrd (f : Int → Int → Bool) (g : Str → Str → Bool) : D → D → W D
  | .int i, .int j => W.ret (.bl (f i j))
  | .str i, .str j => W.ret (.bl (g i j))
  | _, _ => W.fail
def rOrd (f : Int → Int → Bool) (g : Str → Str → Bool) : R2 := fun x y H Q => rI0 (fun i j => .bl (f i j)) x y H Q ∨ ∃ i j, x = .str i ∧ y = .str j ∧ Q (.bl (g i j)) H
theorem l_ord {f : Int → Int → Bool} {g : Str → Str → Bool} : LR2 K dk (rOrd f g) (gOrd f g) := fun {x y dx dy S μ H Q E} ok rx ry q => by
  unfold gOrd at q
  split at q
  · cases rx
    cases ry
    exact .inl ⟨_, _, rfl, rfl, q _ S H Ex.refl ok (.bl _)⟩
  · cases rx
    cases ry
    exact .inr ⟨_, _, rfl, rfl, q _ S H Ex.refl ok (.bl _)⟩
  · exact q.elim
def ltS (i j : Str) : Bool := decide (i.cps.toList < j.cps.toList)
def gLt := gOrd (fun i j => decide (i < j)) ltS
def gLe := gOrd (fun i j => decide (i ≤ j)) fun i j => !ltS j i
def gGt := gOrd (fun i j => decide (j < i)) fun i j => ltS j i
theorem o_lt {X : Cx} : OpR X (compareOp .Lt) (rOrd (fun i j => decide (i < j)) ltS) := OpR.or op_lt op_lt_str
theorem o_le {X : Cx} : OpR X (compareOp .LtE) (rOrd (fun i j => decide (i ≤ j)) fun i j => !ltS j i) := OpR.or op_le op_le_str
theorem o_gt {X : Cx} : OpR X (compareOp .Gt) (rOrd (fun i j => decide (j < i)) fun i j => ltS j i) := OpR.or op_gt op_gt_str
def gGe := oI0 fun i j => .bl (decide (j ≤ i))
theorem l_ge : LR2 K dk (rI0 fun i j => .bl (decide (j ≤ i))) gGe := lr_I0 fun _ _ => .bl _
end

/-! ### + of numbers, texts, tuples, lists -/
def gAdd : D → D → W D
  | .int i, .int j => W.ret (.int (i + j))
  | .str a, .str b => W.chk (a.length + b.length ≤ sizeLine) (W.ret (.str (a ++ b)))
  | .tup a, .tup b => W.chk (a.length + b.length ≤ sizeLine) (W.ret (.tup (a ++ b)))
  | .lst a, .lst b => W.chk (a.length + b.length ≤ sizeLine) (W.ret (.lst (a ++ b)))
  | _, _ => W.fail
def rAddA (K : PySem.W.Frag) : R2 := fun x y H Q => rI0 (fun i j => .int (i + j)) x y H Q ∨ (∃ i j, x = .str i ∧ y = .str j ∧ i.length + j.length ≤ sizeLine ∧ Q (.str (i ++ j)) H) ∨ X10.rCatTA K x y H Q ∨ rCat x y H Q
theorem o_add {X : Cx} : OpR X (binaryOp .Add) (rAddA X.K) := OpR.or op_add (OpR.or op_add_str (OpR.or X10.op_catTA op_cat))
section
variable {K : PySem.W.Frag} {dk : DK}
theorem l_add : LR2 K dk (rAddA K) (s2 gAdd) := LV2.up fun {x y dx dy S μ H Q E} ok rx ry q => by
  unfold gAdd at q
  split at q
  · cases rx
    cases ry
    exact .inl ⟨_, _, rfl, rfl, q _ S H Ex.refl ok (.int _)⟩
  · cases rx
    cases ry
    exact .inr (.inl ⟨_, _, rfl, rfl, q.1, q.2 _ S H Ex.refl ok (.str _)⟩)
  · refine .inr (.inr (.inl ?_))
    rcases rx with _ | _ | _ | _ | _ | _ | @⟨_, a, vs, hx, rx⟩
    rcases ry with _ | _ | _ | _ | _ | _ | @⟨_, b, ws, hy, ry⟩
    by_cases hv : vs = []
    · subst hv
      cases rx
      exact .inl ⟨a, b, ws, rfl, rfl, hx.sq, hy.sq, q.2 _ S H Ex.refl ok (.tup hy ry)⟩
    · refine .inr ⟨a, b, vs, ws, rfl, rfl, hx.sq, hy.sq, hv, by rw [← rx.len, ← ry.len]; exact q.1, fun hw => ?_, fun _ p hp => ?_⟩
      · subst hw
        cases ry
        have q2 := q.2 (.ref a) S H Ex.refl ok
        rw [List.append_nil] at q2
        exact q2 (.tup hx rx)
      · exact q.2 (.ref p) S _ (new_ex ok hp) (new_ok ok hp) (new_tup ok hp (rx.app ry))
  · obtain ⟨a, vs, rfl, hx, rx⟩ := rx
    obtain ⟨b, ws, rfl, hy, ry⟩ := ry
    refine .inr (.inr (.inr ⟨a, b, vs, ws, rfl, rfl, hx, hy, by rw [← rx.len, ← ry.len]; exact q.1, fun p hp => ?_⟩))
    exact q.2 (.ref p) S _ (new_ex ok hp) (new_ok ok hp) (new_lst ok hp (rx.app ry))
  · exact q.elim

/-! ### subscripts -/
def gIx : D → D → W D
  | .tup xs, .int i => W.opt (atI xs i)
  | .ktp xs, .int i => W.opt (atI xs i)
  | .lst xs, .int i => W.opt (atI xs i)
  | .str z, .int i => W.chk (z.length ≤ sizeLine) (W.opt ((atI z.cps.toList i).map fun c => .str ⟨#[c]⟩))
  | _, _ => W.fail
theorem RepA.atI {S : Pl} {μ : Mu} {H : Hp} {ds : List D} {vs : List V} (h : RepA K S μ H ds vs) {i : Int} {d : D} (e : L2.atI ds i = some d) : ∃ v, L2.atI vs i = some v ∧ Rep K S μ H d v := by
  unfold L2.atI at e ⊢
  rw [← h.len]
  cases hk : ixN ds.length i with
  | none => rw [hk] at e; cases e
  | some k =>
    rw [hk] at e
    obtain ⟨v, h1, h2⟩ := h.get (show ds[k]? = some d from e)
    exact ⟨v, h1, h2⟩
theorem l_ix : LR2 K dk (rIx K) (s2 gIx) := LV2.up fun {x y dx dy S μ H Q E} ok rx ry q => by
  unfold gIx at q
  split at q
  · next xs i =>
    rcases rx with _ | _ | _ | _ | _ | _ | @⟨_, a, vs, hx, rx⟩
    cases ry
    cases hd : L2.atI xs i with
    | none => rw [hd] at q; exact q.elim
    | some d =>
      rw [hd] at q
      obtain ⟨v, h1, h2⟩ := rx.atI hd
      exact .inr (.inl ⟨a, vs, i, v, rfl, rfl, hx.sq, h1, q v S H Ex.refl ok h2⟩)
  · next xs i =>
    rcases rx with _ | _ | _ | _ | _ | _ | _ | _ | @⟨_, a, vs, hx, rx⟩
    cases ry
    cases hd : L2.atI xs i with
    | none => rw [hd] at q; exact q.elim
    | some d =>
      rw [hd] at q
      obtain ⟨v, h1, h2⟩ := rx.atI hd
      exact .inr (.inl ⟨a, vs, i, v, rfl, rfl, kt_sq hx, h1, q v S H Ex.refl ok h2⟩)
  · next xs i =>
    obtain ⟨a, vs, rfl, hx, rx⟩ := rx
    cases ry
    cases hd : L2.atI xs i with
    | none => rw [hd] at q; exact q.elim
    | some d =>
      rw [hd] at q
      obtain ⟨v, h1, h2⟩ := rx.atI hd
      exact .inl ⟨a, vs, i, v, rfl, rfl, .inl (.inl hx), h1, q v S H Ex.refl ok h2⟩
  · next z i =>
    cases rx
    cases ry
    cases hd : L2.atI z.cps.toList i with
    | none => rw [hd] at q; exact q.2.elim
    | some k =>
      rw [hd] at q
      exact .inr (.inr ⟨z, i, k, rfl, rfl, q.1, hd, q.2 _ S H Ex.refl ok (.str _)⟩)
  · exact q.elim

/-! ### lengths -/
def gLen : D → W D
  | .tup xs => W.ret (.int xs.length)
  | .ktp xs => W.ret (.int xs.length)
  | .lst xs => W.ret (.int xs.length)
  | .str z => W.chk (z.length ≤ sizeLine) (W.ret (.int z.length))
  | .scr ns => W.ret (.int ns.length)
  | _ => W.fail
theorem l_len : LRC K dk (fun xs H Q => ∃ x, xs = [x] ∧ ∃ n : Nat, LenV K x H n ∧ Q (.int n) H) (c1 gLen) := LV1.call (r := fun x H Q => ∃ n : Nat, LenV K x H n ∧ Q (.int n) H) fun {x dx S μ H Q E} ok rx q => by
  unfold gLen at q
  split at q
  · rcases rx with _ | _ | _ | _ | _ | _ | @⟨_, a, vs, hx, rx⟩
    exact ⟨vs.length, .inr ⟨vs, hx.sq, rfl⟩, by rw [← rx.len]; exact q _ S H Ex.refl ok (.int _)⟩
  · rcases rx with _ | _ | _ | _ | _ | _ | _ | _ | @⟨_, a, vs, hx, rx⟩
    exact ⟨vs.length, .inr ⟨vs, kt_sq hx, rfl⟩, by rw [← rx.len]; exact q _ S H Ex.refl ok (.int _)⟩
  · obtain ⟨a, vs, rfl, hx, rx⟩ := rx
    exact ⟨vs.length, .inl ⟨vs, .inl (.inl hx), rfl⟩, by rw [← rx.len]; exact q _ S H Ex.refl ok (.int _)⟩
  · cases rx
    exact ⟨_, ⟨q.1, rfl⟩, q.2 _ S H Ex.refl ok (.int _)⟩
  · next ns =>
    cases rx with
    | scr h => exact ⟨ns.length, .inl ⟨_, h.sq, by rw [List.length_map]⟩, q _ S H Ex.refl ok (.int _)⟩
  · exact q.elim
theorem k_len {X : Cx} : CallR X (.builtin "len") (fun xs H Q => ∃ x, xs = [x] ∧ ∃ n : Nat, LenV X.K x H n ∧ Q (.int n) H) := CallR.imp call_len fun _ _ _ ⟨x, e, n, h⟩ => ⟨x, n, e, h⟩

/-! ### slices -/
def dPart (f : DS → W D) : DS → W (Option Int) := fun ε => W.bnd (f ε) fun d => match d with
  | .int i => W.ret (some i)
  | _ => W.fail
def dNoPart : DS → W (Option Int) := fun _ => W.ret none
def lowO (K : PySem.W.Frag) (dk : DK) (c : LC K dk) (f : DS → W (Option Int)) : TO := fun σ H Q => ∃ ε S μ, c.lk S μ H ∧ Ok K dk.p S μ H ∧ RS K S μ H ε σ ∧ (f ε).run (fun o μ' => ∀ S' H', Ex S μ H S' μ' H' → Ok K dk.p S' μ' H' → Q o H') c.E μ
def cutD {α : Type} (xs : List α) (lo hi : Option Int) : List α := (xs.drop (HT.sIx xs.length 0 lo)).take (HT.sIx xs.length xs.length hi - HT.sIx xs.length 0 lo)
def gSl : D → Option Int → Option Int → W D
  | .tup xs, lo, hi => W.ret (.tup (cutD xs lo hi))
  | .lst xs, lo, hi => W.ret (.lst (cutD xs lo hi))
  | .str z, lo, hi => W.chk (z.length ≤ sizeLine) (W.ret (.str (cutS z lo hi)))
  | _, _, _ => W.fail
def dSl (f : DS → W D) (l h : DS → W (Option Int)) : DS → W D := fun ε => W.bnd (f ε) fun x => W.bnd (l ε) fun lo => W.bnd (h ε) fun hi => W.bnd (see x) fun x => gSl x lo hi
def rSlAny (K : PySem.W.Frag) : V → Option Int → Option Int → Hp → VK → Prop := fun x lo hi H Q => X9.rSlTA K x lo hi H Q ∨ rSlL K x lo hi H Q ∨ rSlS x lo hi H Q
theorem o_sl {X : Cx} : SlR X (rSlAny X.K) := SlR.or X9.sl_tupA (SlR.or sl_list sl_str)
theorem cutD_rep {S : Pl} {μ : Mu} {H : Hp} {ds : List D} {vs : List V} (h : RepA K S μ H ds vs) {lo hi : Option Int} : RepA K S μ H (cutD ds lo hi) (cutV vs lo hi) := by
  unfold cutD cutV
  rw [h.len]
  generalize HT.sIx vs.length 0 lo = a
  generalize HT.sIx vs.length vs.length hi - a = b
  refine RepA.of ?_ fun i d v h1 h2 => ?_
  · rw [List.length_take, List.length_take, List.length_drop, List.length_drop, h.len]
  · rw [List.getElem?_take] at h1 h2
    split at h1
    · rw [List.getElem?_drop] at h1
      rw [if_pos ‹_›, List.getElem?_drop] at h2
      obtain ⟨v', h3, h4⟩ := h.get h1
      rw [h2] at h3
      cases h3
      exact h4
    · cases h1
theorem l_sl {S : Pl} {μ : Mu} {H : Hp} {Q : VK} {E : Exn → Mu → Prop} {x : V} {d : D} {lo hi : Option Int} (ok : Ok K dk.p S μ H) (rx : Vw K S μ H d x) (q : (gSl d lo hi).run (Post K dk S μ H Q) E μ) : rSlAny K x lo hi H Q := by
  unfold gSl at q
  split at q
  · rcases rx with _ | _ | _ | _ | _ | _ | @⟨_, a, vs, hx, rx⟩
    refine .inl ⟨a, vs, rfl, hx.sq, fun hw => ?_, fun _ p hp => ?_⟩
    · have q2 := q (.ref a) S H Ex.refl ok
      have e : cutD ‹List D› lo hi = ‹List D› := by
        obtain ⟨w1, w2⟩ := hw
        unfold cutD
        rw [rx.len, w1, w2, List.drop_zero, Nat.sub_zero, List.take_of_length_le (by rw [rx.len]; exact Nat.le_refl _)]
      rw [e] at q2
      exact q2 (.tup hx rx)
    · exact q (.ref p) S _ (new_ex ok hp) (new_ok ok hp) (new_tup ok hp (cutD_rep rx))
  · obtain ⟨a, vs, rfl, hx, rx⟩ := rx
    exact .inr (.inl ⟨a, vs, rfl, .inl (.inl hx), fun p hp => q (.ref p) S _ (new_ex ok hp) (new_ok ok hp) (new_lst ok hp (cutD_rep rx))⟩)
  · cases rx
    exact .inr (.inr ⟨_, rfl, q.1, q.2 _ S H Ex.refl ok (.str _)⟩)
  · exact q.elim
end
section
variable {X : Cx} {dk : DK} {c : LC X.K dk} {e : Expr} {f : DS → W D} {lo hi : Option Expr} {fl fh : DS → W (Option Int)} {pos p2 : Pos}
theorem po_w {to : TO} (h : PO X lo to) (w : ∀ σ H Q, lowO X.K dk c fl σ H Q → to σ H Q) : PO X lo (lowO X.K dk c fl) := ⟨fun pins s σ H Q I q => h.run pins s σ H Q I (w σ H Q q)⟩
theorem do_none : PO X none (lowO X.K dk c dNoPart) := po_w po_none fun _ _ _ ⟨_, S, _, _, ok, _, q⟩ => q S _ Ex.refl ok
theorem do_some (h : PE X e (lowE X.K dk c f)) : PO X (some e) (lowO X.K dk c (dPart f)) := po_w (po_some h) fun σ H Q ⟨ε, S, μ, lk, ok, rs, run⟩ => by
  refine ⟨ε, S, μ, lk, ok, rs, W.up run fun d μ1 run1 v S1 H1 ex1 ok1 rep1 => ?_⟩
  cases rep1 with
  | int i => exact ⟨i, rfl, run1 S1 H1 ex1 ok1⟩
  | _ => exact run1.elim
theorem de_slice (he : PE X e (lowE X.K dk c f)) (hl : PO X lo (lowO X.K dk c fl)) (hu : PO X hi (lowO X.K dk c fh)) : PE X (.Subscript e (.Slice lo hi none p2) pos) (lowE X.K dk c (dSl f fl fh)) :=
  pe_w (pe_slice o_sl he hl hu) fun σ H Q ⟨ε, S, μ, lk, ok, rs, run⟩ => by
    refine ⟨ε, S, μ, lk, ok, rs, W.up run fun d μ1 run1 v S1 H1 ex1 ok1 rep1 => ?_⟩
    refine ⟨ε, S1, μ1, c.up lk ex1, ok1, rs.ex ex1, W.up run1 fun lo μ2 run2 S2 H2 ex2 ok2 => ?_⟩
    have x2 := ex1.trans ex2
    refine ⟨ε, S2, μ2, c.up lk x2, ok2, rs.ex x2, W.up run2 fun hi μ3 run3 S3 H3 ex3 ok3 => ?_⟩
    obtain ⟨d', vw, q⟩ := see_vw ok3 ((rep1.ex ex2).ex ex3) (Q := fun x μ' => (gSl x lo hi).run (Post X.K dk S μ H Q) c.E μ') run3
    exact l_sl ok3 vw (W.up q fun _ _ q => q.ex (x2.trans ex3))
/-- x[::-1] of a tuple, a list -/
def gRev : D → W D
  | .tup xs => W.ret (.tup xs.reverse)
  | .lst xs => W.ret (.lst xs.reverse)
  | _ => W.fail
end
end DL

namespace DL
open PySem PySem.Spec PyProof.Rows L2 Kit

/-! ### data that can be shown and compared -/
mutual
def py : D → Option PyData
  | .non => some .none
  | .bl b => some (.bool b)
  | .int i => some (.int i)
  | .str z => some (.str z)
  | .tup xs => (pyL xs).map .tuple
  | .lst xs => (pyL xs).map .list
  | .ty _ => none
  | .ref _ => none
  | .dct _ _ => none
  | .scr _ => none
  | .ktp _ => none
  | .adr _ => none
def pyL : List D → Option (List PyData)
  | [] => some []
  | x :: xs => (py x).bind fun p => (pyL xs).map fun ps => p :: ps
end
section
variable {K : PySem.W.Frag} {dk : DK} {S : Pl} {μ : Mu} {H : Hp}
theorem map_inv {α β : Type} {o : Option α} {f : α → β} {b : β} (h : o.map f = some b) : ∃ a, o = some a ∧ f a = b := by
  cases o with
  | none => cases h
  | some a => exact ⟨a, rfl, Option.some.inj h⟩
theorem bind_inv {α β : Type} {o : Option α} {f : α → Option β} {b : β} (h : o.bind f = some b) : ∃ a, o = some a ∧ f a = some b := by
  cases o with
  | none => cases h
  | some a => exact ⟨a, rfl, h⟩
mutual
theorem py_dp : ∀ {d : D} {v : V} {p : PyData}, Rep K S μ H d v → py d = some p → Dp K H v p
  | _, _, _, .non, h => by cases h; exact .non
  | _, _, _, .bl b, h => by cases h; exact .bl b
  | _, _, _, .int i, h => by cases h; exact .int i
  | _, _, _, .str z, h => by cases h; exact .str z
  | _, _, _, .ty _, h => by cases h
  | _, _, _, .ref _, h => by cases h
  | _, _, _, .scr _, h => by cases h
  | _, _, _, .ktp _ _, h => by cases h
  | _, _, _, .adr _, h => by cases h
  | _, _, _, .dcK _ _, h => by cases h
  | _, _, _, .dcT _ _, h => by cases h
  | .tup xs, _, _, .tup hx rx, h => by
    rw [py] at h
    obtain ⟨ps, h1, rfl⟩ := map_inv h
    exact .tup hx.sq (pyL_dp rx h1)
  | .lst xs, _, _, .lst hx rx, h => by
    rw [py] at h
    obtain ⟨ps, h1, rfl⟩ := map_inv h
    exact .lst hx.sq (pyL_dp rx h1)
theorem pyL_dp : ∀ {ds : List D} {vs : List V} {ps : List PyData}, RepA K S μ H ds vs → pyL ds = some ps → DpAll K H vs ps
  | _, _, _, .nil, h => by cases h; exact .nil
  | d :: ds, _, _, .cons r t, h => by
    rw [pyL] at h
    obtain ⟨p, h1, h2⟩ := bind_inv h
    obtain ⟨ps', h3, rfl⟩ := map_inv h2
    exact .cons (py_dp r h1) (pyL_dp t h3)
end
theorem pyv_dp {d : D} {v : V} {p : PyData} (r : Vw K S μ H d v) (h : py d = some p) : Dp K H v p := by
  cases d with
  | lst xs =>
    obtain ⟨a, vs, rfl, h1, h2⟩ := r
    rw [py] at h
    obtain ⟨ps, h3, rfl⟩ := map_inv h
    exact .lst (.inl (.inl h1)) (pyL_dp h2 h3)
  | dct _ _ => cases h
  | ktp _ => cases h
  | adr _ => cases h
  | non => exact py_dp (K := K) (S := S) (μ := μ) r h
  | bl b => exact py_dp (K := K) (S := S) (μ := μ) r h
  | int i => exact py_dp (K := K) (S := S) (μ := μ) r h
  | str z => exact py_dp (K := K) (S := S) (μ := μ) r h
  | ty n => exact py_dp (K := K) (S := S) (μ := μ) r h
  | ref n => exact py_dp (K := K) (S := S) (μ := μ) r h
  | tup xs => exact py_dp (K := K) (S := S) (μ := μ) r h
  | scr xs => exact py_dp (K := K) (S := S) (μ := μ) r h
end
def pyW (d : D) : W PyData := W.opt (py d)
def gEq (neg : Bool) : D → D → W D := fun x y => W.bnd (pyW x) fun p => W.bnd (pyW y) fun q => W.chk (SeqAt.shaped p = true ∧ SeqAt.shaped q = true) (W.ret (.bl (if neg then !PyData.eqv p q else PyData.eqv p q)))
section
variable {K : PySem.W.Frag} {dk : DK}
theorem pyW_run {d : D} {Q : PyData → Mu → Prop} {E : Exn → Mu → Prop} {μ : Mu} (h : (pyW d).run Q E μ) : ∃ p, py d = some p ∧ Q p μ := by
  unfold pyW at h
  cases e : py d with
  | none => rw [e] at h; exact h.elim
  | some p => rw [e] at h; exact ⟨p, rfl, h⟩
theorem l_eq : LR2 K dk (rEqD K) (s2 (gEq false)) := LV2.up fun {x y dx dy S μ H Q E} ok rx ry q => by
  obtain ⟨p, h1, q⟩ := pyW_run (Q := fun p μ' => (W.bnd (pyW dy) fun q => W.chk (SeqAt.shaped p = true ∧ SeqAt.shaped q = true) (W.ret (D.bl (PyData.eqv p q)))).run (Post K dk S μ H Q) E μ') q
  obtain ⟨p2, h2, q⟩ := pyW_run (Q := fun q μ' => (W.chk (SeqAt.shaped p = true ∧ SeqAt.shaped q = true) (W.ret (D.bl (PyData.eqv p q)))).run (Post K dk S μ H Q) E μ') q
  exact ⟨p, p2, pyv_dp rx h1, pyv_dp ry h2, q.1.1, q.1.2, q.2 _ S H Ex.refl ok (.bl _)⟩
theorem l_ne : LR2 K dk (rNeD K) (s2 (gEq true)) := LV2.up fun {x y dx dy S μ H Q E} ok rx ry q => by
  obtain ⟨p, h1, q⟩ := pyW_run (Q := fun p μ' => (W.bnd (pyW dy) fun q => W.chk (SeqAt.shaped p = true ∧ SeqAt.shaped q = true) (W.ret (D.bl (!PyData.eqv p q)))).run (Post K dk S μ H Q) E μ') q
  obtain ⟨p2, h2, q⟩ := pyW_run (Q := fun q μ' => (W.chk (SeqAt.shaped p = true ∧ SeqAt.shaped q = true) (W.ret (D.bl (!PyData.eqv p q)))).run (Post K dk S μ H Q) E μ') q
  exact ⟨p, p2, pyv_dp rx h1, pyv_dp ry h2, q.1.1, q.1.2, q.2 _ S H Ex.refl ok (.bl _)⟩
/-! repr -/
def isSeq : D → Bool
  | .tup _ => true
  | .lst _ => true
  | _ => false
def gRepr (d : D) : W D := W.chk (isSeq d = true) (W.bnd (pyW d) fun p => W.chk (p.showable = true ∧ p.depth ≤ 150 ∧ p.shown.length ≤ sizeLine) (W.ret (.str p.shown)))
def rRepr1 (K : PySem.W.Frag) : V → Hp → VK → Prop := fun v H Q => ∃ a p, v = .ref a ∧ Dp K H v p ∧ p.showable = true ∧ p.hasDict = false ∧ p.depth ≤ 150 ∧ p.shown.length ≤ sizeLine ∧ Q (.str p.shown) H
theorem k_repr {X : Cx} (hq : Qt X.A) (hu : X.A.units + 200 < cLine) : CallR X (.builtin "repr") (fun xs H Q => ∃ x, xs = [x] ∧ rRepr1 X.K x H Q) := by
  intro pins s σ H xs us Q I r h
  obtain ⟨x, rfl, a, d, rfl, hd, hs, hn, hp, hz, q⟩ := h
  obtain ⟨u, rfl, ru⟩ := vals1 r
  obtain rfl : u = Value.ref a := ru
  obtain ⟨as, rd⟩ := Dp.reads I d _ _ hd rfl
  refine repr_of_reads' rd hs (PyData.noDict_hsm hn) hq (by omega) (fun _ _ e => e) (fun h' u tk hk => ?_) hz
  exact ⟨.str _, H, I.kept hk, ⟨_, rfl⟩, q⟩
mutual
theorem py_noDict : ∀ {d : D} {p : PyData}, py d = some p → p.hasDict = false
  | .non, _, h => by cases h; rfl
  | .bl b, _, h => by cases h; rfl
  | .int i, _, h => by cases h; rfl
  | .str z, _, h => by cases h; rfl
  | .ty _, _, h => by cases h
  | .ref _, _, h => by cases h
  | .scr _, _, h => by cases h
  | .dct _ _, _, h => by cases h
  | .ktp _, _, h => by cases h
  | .adr _, _, h => by cases h
  | .tup xs, _, h => by
    rw [py] at h
    obtain ⟨ps, h1, rfl⟩ := map_inv h
    rw [PyData.hasDict]
    exact pyL_noDict h1
  | .lst xs, _, h => by
    rw [py] at h
    obtain ⟨ps, h1, rfl⟩ := map_inv h
    rw [PyData.hasDict]
    exact pyL_noDict h1
theorem pyL_noDict : ∀ {ds : List D} {ps : List PyData}, pyL ds = some ps → PyData.hasDictAll ps = false
  | [], _, h => by cases h; rfl
  | d :: ds, _, h => by
    rw [pyL] at h
    obtain ⟨p, h1, h2⟩ := bind_inv h
    obtain ⟨ps', h3, rfl⟩ := map_inv h2
    rw [PyData.hasDictAll, py_noDict h1, pyL_noDict h3]
    rfl
end
theorem l_repr : LRC K dk (fun xs H Q => ∃ x, xs = [x] ∧ rRepr1 K x H Q) (c1 gRepr) := LV1.call fun {x dx S μ H Q E} ok rx q => by
  obtain ⟨sq, q⟩ := q
  have isr : ∃ a, x = .ref a := by
    cases dx <;> first | cases sq | skip
    · rcases rx with _ | _ | _ | _ | _ | _ | @⟨_, a, vs, hy, ry⟩
      exact ⟨a, rfl⟩
    · obtain ⟨a, _, rfl, _⟩ := rx
      exact ⟨a, rfl⟩
  obtain ⟨a, rfl⟩ := isr
  obtain ⟨p, h1, q⟩ := pyW_run (Q := fun p μ' => (W.chk (p.showable = true ∧ p.depth ≤ 150 ∧ p.shown.length ≤ sizeLine) (W.ret (D.str p.shown))).run (Post K dk S μ H Q) E μ') q
  exact ⟨a, p, rfl, pyv_dp rx h1, q.1.1, py_noDict h1, q.1.2.1, q.1.2.2, q.2 _ S H Ex.refl ok (.str _)⟩

/-! in, not in -/
def flatD : D → Bool
  | .non => true
  | .bl _ => true
  | .int _ => true
  | .str _ => true
  | _ => false
def eqD : D → D → Bool
  | .non, .non => true
  | .bl a, .bl b => a == b
  | .bl a, .int b => (if a then 1 else 0) == b
  | .int a, .bl b => a == (if b then 1 else 0)
  | .int a, .int b => a == b
  | .str a, .str b => a == b
  | _, _ => false
def gIn (neg : Bool) : D → D → W D
  | x, .lst ys => W.chk (flatD x = true ∧ ys.all flatD = true) (W.ret (.bl (if neg then !ys.any (eqD · x) else ys.any (eqD · x))))
  | x, .tup ys => W.chk (flatD x = true ∧ ys.all flatD = true) (W.ret (.bl (if neg then !ys.any (eqD · x) else ys.any (eqD · x))))
  | x, .ktp ys => W.chk (flatD x = true ∧ ys.all flatD = true) (W.ret (.bl (if neg then !ys.any (eqD · x) else ys.any (eqD · x))))
  | .str x, .str y => W.ret (.bl (if neg then !(!(Builtin.Str.occurrences y x 0 y.length 1).isEmpty) else !(Builtin.Str.occurrences y x 0 y.length 1).isEmpty))
  | _, _ => W.fail
theorem flat_rep {S : Pl} {μ : Mu} {H : Hp} {d : D} {v : V} (r : Rep K S μ H d v) (h : flatD d = true) : flatV v = true := by
  cases r <;> first | rfl | (cases h; done)
theorem flat_reps {S : Pl} {μ : Mu} {H : Hp} : ∀ {ds : List D} {vs : List V}, RepA K S μ H ds vs → ds.all flatD = true → vs.all flatV = true
  | _, _, .nil, _ => rfl
  | _, _, .cons r t, h => by
    rw [List.all_cons, Bool.and_eq_true] at h
    rw [List.all_cons, flat_rep r h.1, flat_reps t h.2]
    rfl
theorem eq_rep {S : Pl} {μ : Mu} {H : Hp} {x y : D} {v u : V} (rx : Rep K S μ H x v) (ry : Rep K S μ H y u) (fx : flatD x = true) (fy : flatD y = true) : eqV u v = eqD y x := by
  cases rx <;> first | (cases fx; done) | (cases ry <;> first | (cases fy; done) | rfl)
theorem in_rep {S : Pl} {μ : Mu} {H : Hp} {x : D} {v : V} (rx : Rep K S μ H x v) (fx : flatD x = true) : ∀ {ds : List D} {vs : List V}, RepA K S μ H ds vs → ds.all flatD = true → inV v vs = ds.any (eqD · x)
  | _, _, .nil, _ => rfl
  | _, _, .cons r t, h => by
    rw [List.all_cons, Bool.and_eq_true] at h
    have ih := in_rep rx fx t h.2
    unfold inV at ih ⊢
    rw [List.any_cons, List.any_cons, ih, eq_rep rx r fx h.1]
theorem vw_flat {S : Pl} {μ : Mu} {H : Hp} {x : D} {v : V} (r : Vw K S μ H x v) (f : flatD x = true) : Rep K S μ H x v := by
  cases x <;> first | exact r | cases f
def rInA (K : PySem.W.Frag) (neg : Bool) : R2 := fun x y H Q => rIn K neg x y H Q ∨ ∃ i j, x = .str i ∧ y = .str j ∧ Q (.bl (if neg then !(!(Builtin.Str.occurrences j i 0 j.length 1).isEmpty) else !(Builtin.Str.occurrences j i 0 j.length 1).isEmpty)) H
theorem o_in {X : Cx} : OpR X (compareOp .In) (rInA X.K false) := OpR.or op_in_seq op_in_str
theorem o_notIn {X : Cx} : OpR X (compareOp .NotIn) (rInA X.K true) := OpR.or op_notIn_seq op_notin_str
theorem l_in {neg : Bool} : LR2 K dk (rInA K neg) (s2 (gIn neg)) := LV2.up fun {x y dx dy S μ H Q E} ok rx ry q => by
  unfold gIn at q
  split at q
  · obtain ⟨a, vs, rfl, hy, ry⟩ := ry
    have rx' := vw_flat rx q.1.1
    refine .inl ⟨a, vs, rfl, .inl (.inl (.inl hy)), flat_rep rx' q.1.1, flat_reps ry q.1.2, ?_⟩
    rw [in_rep rx' q.1.1 ry q.1.2]
    exact q.2 _ S H Ex.refl ok (.bl _)
  · rcases ry with _ | _ | _ | _ | _ | _ | @⟨_, a, vs, hy, ry⟩
    have rx' := vw_flat rx q.1.1
    refine .inl ⟨a, vs, rfl, .inr hy.sq, flat_rep rx' q.1.1, flat_reps ry q.1.2, ?_⟩
    rw [in_rep rx' q.1.1 ry q.1.2]
    exact q.2 _ S H Ex.refl ok (.bl _)
  · rcases ry with _ | _ | _ | _ | _ | _ | _ | _ | @⟨_, a, vs, hy, ry⟩
    have rx' := vw_flat rx q.1.1
    refine .inl ⟨a, vs, rfl, .inr (kt_sq hy), flat_rep rx' q.1.1, flat_reps ry q.1.2, ?_⟩
    rw [in_rep rx' q.1.1 ry q.1.2]
    exact q.2 _ S H Ex.refl ok (.bl _)
  · cases rx
    cases ry
    exact .inr ⟨_, _, rfl, rfl, q _ S H Ex.refl ok (.bl _)⟩
  · exact q.elim

/-! is None -/
def gIsN (neg : Bool) : D → D → W D
  | .non, .non => W.ret (.bl (!neg))
  | .ty _, .non => W.fail
  | _, .non => W.ret (.bl neg)
  | _, _ => W.fail
theorem non_iff {S : Pl} {μ : Mu} {H : Hp} {d : D} {v : V} (r : Rep K S μ H d v) (h : d ≠ .non) : v ≠ .non := by
  cases r <;> first | exact absurd rfl h | (intro z; cases z)
theorem l_isN : LR2 K dk (fun x y H Q => y = .non ∧ Q (.bl (decide (x = .non))) H) (gIsN false) := fun {x y dx dy S μ H Q E} ok rx ry q => by
  unfold gIsN at q
  split at q
  · cases rx; cases ry
    exact ⟨rfl, q _ S H Ex.refl ok (.bl _)⟩
  · exact q.elim
  · next h1 _ =>
    cases ry
    refine ⟨rfl, ?_⟩
    rw [decide_eq_false (non_iff rx fun z => h1 z)]
    exact q _ S H Ex.refl ok (.bl _)
  · exact q.elim
theorem l_notN : LR2 K dk (fun x y H Q => y = .non ∧ Q (.bl (!decide (x = .non))) H) (gIsN true) := fun {x y dx dy S μ H Q E} ok rx ry q => by
  unfold gIsN at q
  split at q
  · cases rx; cases ry
    exact ⟨rfl, q _ S H Ex.refl ok (.bl _)⟩
  · exact q.elim
  · next h1 _ =>
    cases ry
    refine ⟨rfl, ?_⟩
    rw [decide_eq_false (non_iff rx fun z => h1 z)]
    exact q _ S H Ex.refl ok (.bl _)
  · exact q.elim

/-! ### calls -/
/-- isinstance(x, int) and so on: of data -/
def isI (n : String) : D → Option Bool
  | .non => some (n == "NoneType")
  | .bl _ => some (n == "bool" || n == "int")
  | .int _ => some (n == "int")
  | .str _ => some (n == "str")
  | .tup _ => some (n == "tuple")
  | .lst _ => some (n == "list")
  | _ => none
def gIsI : D → D → W D
  | x, .ty n => W.chk (n ∈ ["int", "str", "tuple", "list", "bool", "dict"]) (W.bnd (W.opt (isI n x)) fun b => W.ret (.bl b))
  | _, _ => W.fail
theorem kit_ty (K : PySem.W.Frag) {n : String} (h : n ∈ ["int", "str", "tuple", "list", "bool", "dict"]) {m : String} (hm : m ∈ ["NoneType", "bool", "int", "str", "tuple", "list", "dict"]) :
    PySem.W.kitOne K (.type m) (.type n) = some (n == m || (m == "bool" && n == "int")) := by
  simp only [List.mem_cons, List.not_mem_nil, or_false] at h hm
  rcases h with rfl | rfl | rfl | rfl | rfl | rfl <;> rcases hm with rfl | rfl | rfl | rfl | rfl | rfl | rfl <;> rfl
end
end DL

namespace DL
open PySem PySem.Spec PyProof.Rows L2 Kit

/-! ### the store grows, is written, is left -/
section
variable {K : PySem.W.Frag} {dk : DK} {S : Pl} {μ : Mu} {H : Hp}
def Pl.add (S : Pl) (a : Addr) : Pl := ⟨S.L ++ [a], S.hid⟩
theorem live_add {m : MO} {p a : Addr} (hl : S.L.length = μ.length) (h : live (S.add p) (μ ++ [m]) a) : live S μ a ∨ a = p := by
  rcases h with h | ⟨n, m', h1, h2, h3⟩
  · exact .inl (.inl h)
  · have h1 : (S.L ++ [p])[n]? = some a := h1
    by_cases hn : n < S.L.length
    · rw [List.getElem?_append_left hn] at h1
      rw [List.getElem?_append_left (by omega)] at h2
      exact .inl (.inr ⟨n, m', h1, h2, h3⟩)
    · rw [List.getElem?_append_right (by omega)] at h1
      rw [List.getElem?_singleton] at h1
      split at h1
      · exact .inr (Option.some.inj h1).symm
      · cases h1
theorem add_ex (ok : Ok K dk.p S μ H) {p : Addr} {o : HO} {m : MO} (hp : H p = none) : Ex S μ H (S.add p) (μ ++ [m]) (upd H p o) := by
  refine ⟨⟨[p], rfl⟩, rfl, fun a u h n => ⟨?_, fun z => ?_⟩, fun a ha => ?_⟩
  · rw [upd_ne (ne_of_none h hp)]
    exact h
  · rcases live_add ok.len z with z | z
    · exact n z
    · exact ne_of_none h hp z
  · rw [upd_ne]
    rintro rfl
    exact ok.fresh hp (List.mem_append_right _ ha)
theorem add_ok (ok : Ok K dk.p S μ H) {p : Addr} {o : HO} {m : MO} (hp : H p = none) (new : MoOk K dk.p (S.add p) (μ ++ [m]) (upd H p o) μ.length p m) : Ok K dk.p (S.add p) (μ ++ [m]) (upd H p o) := by
  have fr := ok.fresh hp
  have ne : ∀ a, a ∈ S.L ++ S.hid → a ≠ p := fun a ha z => fr (z ▸ ha)
  have ex := add_ex (o := o) (m := m) ok hp
  refine ⟨?_, ?_, fun a ha => ?_, fun n m' a e1 e2 => ?_⟩
  · show (S.L ++ [p]).length = _
    rw [List.length_append, List.length_append, ok.len]
    rfl
  · show ((S.L ++ [p]) ++ S.hid).Nodup
    rw [List.append_assoc]
    have h := ok.nd
    refine (List.perm_middle (a := p) (l₁ := S.L) (l₂ := S.hid)).symm.nodup ?_
    exact List.nodup_cons.mpr ⟨fr, h⟩
  · have ha : a ∈ (S.L ++ [p]) ++ S.hid := ha
    rw [List.append_assoc] at ha
    by_cases hap : a = p
    · rw [hap, upd_same]
      intro z
      cases z
    · rw [upd_ne hap]
      refine ok.here a ?_
      rcases List.mem_append.mp ha with h | h
      · exact List.mem_append_left _ h
      · rcases List.mem_append.mp h with h | h
        · exact absurd (List.mem_singleton.mp h) hap
        · exact List.mem_append_right _ h
  · have e2 : (S.L ++ [p])[n]? = some a := e2
    by_cases hn : n < S.L.length
    · rw [List.getElem?_append_left hn] at e2
      rw [List.getElem?_append_left (by rw [← ok.len]; exact hn)] at e1
      refine mo_ex (ok.at_ n m' a e1 e2) ex (upd_ne (ne a (List.mem_append_left _ (List.mem_of_getElem? e2)))) (fun c hc => upd_ne (ne c (List.mem_append_left _ (List.mem_of_getElem? hc)))) fun z => ?_
      rw [List.getElem?_append_left (List.getElem?_eq_some_iff.mp z).1]
      exact z
    · have l := ok.len
      have hl := (List.getElem?_eq_some_iff.mp e2).1
      rw [List.length_append, List.length_singleton] at hl
      have en : n = S.L.length := by omega
      subst en
      rw [List.getElem?_append_right (Nat.le_refl _), Nat.sub_self] at e2
      cases e2
      rw [l, List.getElem?_append_right (Nat.le_refl _), Nat.sub_self] at e1
      cases e1
      rw [l]
      exact new
/-- a changing one is written -/
theorem live_set {n : Nat} {m m' : MO} {a : Addr} (h0 : μ[n]? = some m) (g : m ≠ .gone) : live S (μ.set n m') a → live S μ a := by
  rintro (h | ⟨k, m2, h1, h2, h3⟩)
  · exact .inl h
  · by_cases hk : n = k
    · subst hk
      exact .inr ⟨n, m, h1, h0, g⟩
    · rw [List.getElem?_set_ne hk] at h2
      exact .inr ⟨k, m2, h1, h2, h3⟩
theorem set_ex (ok : Ok K dk.p S μ H) {n : Nat} {a : Addr} {m m' : MO} {o : HO} (ha : S.L[n]? = some a) (h0 : μ[n]? = some m) (g : m ≠ .gone) : Ex S μ H S (μ.set n m') (upd H a o) := by
  have la : live S μ a := .inr ⟨n, m, ha, h0, g⟩
  refine ⟨⟨[], by rw [List.append_nil]⟩, rfl, fun b u h nl => ⟨?_, fun z => nl (live_set h0 g z)⟩, fun b hb => ?_⟩
  · rw [upd_ne]
    · exact h
    · rintro rfl
      exact nl la
  · rw [upd_ne]
    rintro rfl
    exact (List.nodup_append.mp ok.nd).2.2 b (List.mem_of_getElem? ha) b hb rfl
theorem set_ok (ok : Ok K dk.p S μ H) {n : Nat} {a : Addr} {m m' : MO} {o : HO} (ha : S.L[n]? = some a) (h0 : μ[n]? = some m) (g : m ≠ .gone) (gh : m ≠ .hid) (new : MoOk K dk.p S (μ.set n m') (upd H a o) n a m') : Ok K dk.p S (μ.set n m') (upd H a o) := by
  have ndL := (List.nodup_append.mp ok.nd).1
  have inj : ∀ {k : Nat}, S.L[k]? = some a → k = n := fun {k} e => by
    obtain ⟨h1, e1⟩ := List.getElem?_eq_some_iff.mp e
    obtain ⟨h2, e2⟩ := List.getElem?_eq_some_iff.mp ha
    exact (List.getElem_inj ndL).mp (e1.trans e2.symm)
  refine ⟨by rw [List.length_set]; exact ok.len, ok.nd, fun b hb => ?_, fun k m2 b e1 e2 => ?_⟩
  · by_cases h : b = a
    · rw [h, upd_same]
      intro z
      cases z
    · rw [upd_ne h]
      exact ok.here b hb
  · by_cases hk : n = k
    · subst hk
      rw [List.getElem?_set_self (List.getElem?_eq_some_iff.mp h0).1] at e1
      cases e1
      rw [ha] at e2
      cases e2
      exact new
    · rw [List.getElem?_set_ne hk] at e1
      have nb : b ≠ a := by
        rintro rfl
        exact hk (inj e2).symm
      cases m2 with
      | deck t =>
        obtain ⟨c, h1, h2, h3⟩ := ok.at_ k _ b e1 e2
        have hc : k + 1 ≠ n := by
          rintro rfl
          rw [h0] at h2
          cases h2
          exact gh rfl
        have nc : c ≠ a := by
          rintro rfl
          exact hc (inj h1)
        exact ⟨c, h1, by rw [List.getElem?_set_ne (Ne.symm hc)]; exact h2, dk.st (upd_ne nb) (upd_ne nc) h3⟩
      | lst ds =>
        obtain ⟨vs, h1, h2⟩ := ok.at_ k _ b e1 e2
        exact ⟨vs, by rw [upd_ne nb]; exact h1, h2.ex (set_ex ok ha h0 g)⟩
      | dct b ks =>
        cases b with
        | false =>
          obtain ⟨kvs, h1, h2⟩ := ok.at_ k _ _ e1 e2
          exact ⟨kvs, by rw [upd_ne nb]; exact h1, h2.ex (set_ex ok ha h0 g)⟩
        | true =>
          obtain ⟨kvs, h1, h2⟩ := ok.at_ k _ _ e1 e2
          exact ⟨kvs, by rw [upd_ne nb]; exact h1, h2.ex (set_ex ok ha h0 g)⟩
      | hid => exact True.intro
      | gone => exact True.intro
/-- it changes no more -/
theorem gone_ex {n : Nat} {m : MO} (h0 : μ[n]? = some m) (g : m ≠ .gone) : Ex S μ H S (μ.set n .gone) H :=
  ⟨⟨[], by rw [List.append_nil]⟩, rfl, fun _ _ h nl => ⟨h, fun z => nl (live_set h0 g z)⟩, fun _ _ => rfl⟩
theorem gone_ok (ok : Ok K dk.p S μ H) {n : Nat} {m : MO} (h0 : μ[n]? = some m) (g : m ≠ .gone) (gh : m ≠ .hid) : Ok K dk.p S (μ.set n .gone) H := by
  refine ⟨by rw [List.length_set]; exact ok.len, ok.nd, ok.here, fun k m2 b e1 e2 => ?_⟩
  by_cases hk : n = k
  · subst hk
    rw [List.getElem?_set_self (List.getElem?_eq_some_iff.mp h0).1] at e1
    cases e1
    exact True.intro
  · rw [List.getElem?_set_ne hk] at e1
    refine mo_ex (ok.at_ k m2 b e1 e2) (gone_ex h0 g) rfl (fun _ _ => rfl) fun z => ?_
    rw [List.getElem?_set_ne]
    · exact z
    · rintro rfl
      rw [h0] at z
      cases z
      exact gh rfl
theorem gone_dead (ok : Ok K dk.p S μ H) {n : Nat} {a : Addr} (ha : S.L[n]? = some a) : ¬ live S (μ.set n .gone) a := by
  have ndL := (List.nodup_append.mp ok.nd).1
  rintro (h | ⟨k, m, h1, h2, h3⟩)
  · exact (List.nodup_append.mp ok.nd).2.2 a (List.mem_of_getElem? ha) a h rfl
  · have e : k = n := by
      obtain ⟨g1, e1⟩ := List.getElem?_eq_some_iff.mp h1
      obtain ⟨g2, e2⟩ := List.getElem?_eq_some_iff.mp ha
      exact (List.getElem_inj ndL).mp (e1.trans e2.symm)
    subst e
    have hl := (List.getElem?_eq_some_iff.mp h2).1
    rw [List.length_set] at hl
    rw [List.getElem?_set_self hl] at h2
    cases h2
    exact h3 rfl
end
def alloc (m : MO) : W D := W.rd fun μ => W.wr (· ++ [m]) (W.ret (.ref μ.length))
theorem run_alloc {m : MO} {Q : D → Mu → Prop} {E : Exn → Mu → Prop} {μ : Mu} : (alloc m).run Q E μ = Q (.ref μ.length) (μ ++ [m]) := rfl
def atM (n : Nat) (k : List D → W D) : W D := W.rd fun μ => match μ[n]? with
  | some (.lst xs) => k xs
  | _ => W.fail
def putM (n : Nat) (m : MO) (w : W D) : W D := W.wr (fun μ => μ.set n m) w
theorem atM_run {n : Nat} {k : List D → W D} {Q : D → Mu → Prop} {E : Exn → Mu → Prop} {μ : Mu} (h : (atM n k).run Q E μ) : ∃ xs, μ[n]? = some (.lst xs) ∧ (k xs).run Q E μ := by
  have h : (match μ[n]? with
    | some (.lst xs) => k xs
    | _ => W.fail).run Q E μ := h
  cases e : μ[n]? with
  | none => rw [e] at h; exact h.elim
  | some m =>
    rw [e] at h
    cases m with
    | lst xs => exact ⟨xs, rfl, h⟩
    | _ => exact h.elim
/-- it is left as it is from now on -/
def gFrz : D → W D
  | .ref n => atM n fun xs => putM n .gone (W.ret (.lst xs))
  | d => W.ret d
section
variable {X : Cx} {dk : DK} {c : LC X.K dk} {e : Expr} {es : List Expr} {f : DS → W D} {g : DS → W (List D)} {pos : Pos}
theorem de_frz (h : PE X e (lowE X.K dk c f)) : PE X e (lowE X.K dk c (dUn gFrz f)) := pe_w h fun σ H Q ⟨ε, S, μ, lk, ok, rs, run⟩ => by
  refine ⟨ε, S, μ, lk, ok, rs, W.up run fun d μ1 run1 v S1 H1 ex1 ok1 rep1 => ?_⟩
  cases d with
  | ref n =>
    obtain ⟨xs, h0, q⟩ := atM_run run1
    cases rep1 with
    | ref ha =>
      obtain ⟨vs, h1, h2⟩ := ok1.at_ n _ _ h0 ha
      have ng : MO.lst xs ≠ .gone := fun z => by cases z
      have gx := gone_ex (S := S1) (H := H1) h0 ng
      exact q _ S1 H1 (ex1.trans gx) (gone_ok ok1 h0 ng fun z => by cases z) (.lst ⟨h1, gone_dead ok1 ha⟩ (h2.ex gx))
  | _ => exact run1 v S1 H1 ex1 ok1 rep1
/-- a new list that will change -/
def dLstM (g : DS → W (List D)) : DS → W D := fun ε => W.bnd (g ε) fun ds => W.chk (ds.length ≤ sizeLine) (alloc (.lst ds))
theorem de_lstM (h : PA X es (lowA X.K dk c g)) : PE X (.List es pos) (lowE X.K dk c (dLstM g)) :=
  pe_w (pe_lst h) fun σ H Q ⟨ε, S, μ, lk, ok, rs, run⟩ => by
    refine ⟨ε, S, μ, lk, ok, rs, W.up run fun ds μ1 run1 xs S1 H1 ex1 ok1 rep1 => ⟨rep1.len ▸ run1.1, fun p hp => ?_⟩⟩
    have ex := add_ex (o := .lst xs) (m := .lst ds) ok1 hp
    refine run1.2 (.ref p) (S1.add p) _ (ex1.trans ex) (add_ok ok1 hp ⟨xs, upd_same, rep1.ex ex⟩) (.ref ?_)
    show (S1.L ++ [p])[μ1.length]? = _
    rw [← ok1.len, List.getElem?_append_right (Nat.le_refl _), Nat.sub_self]
    rfl
/-! methods of lists that change -/
def isL : D → W Unit
  | .lst _ => W.ret ()
  | _ => W.fail
def dMet (g : D → List D → W D) (f : DS → W D) (fa : DS → W (List D)) : DS → W D := fun ε => W.bnd (f ε) fun x => W.bnd (see x) fun l => W.bnd (isL l) fun _ => W.bnd (fa ε) fun ds => g x ds
/-- a method by values -/
def LM (K : PySem.W.Frag) (dk : DK) (r : V → List V → Hp → VK → Prop) (g : D → List D → W D) : Prop := ∀ {x : V} {dx : D} {xs : List V} {ds : List D} {S : Pl} {μ : Mu} {H : Hp} {Q : VK} {E : Exn → Mu → Prop}, Ok K dk.p S μ H → Rep K S μ H dx x → RepA K S μ H ds xs →
  (g dx ds).run (Post K dk S μ H Q) E μ → r x xs H Q
theorem low_met {r : V → List V → Hp → VK → Prop} {gm : D → List D → W D} (l : LM X.K dk r gm) {σ : L2.St} {H : Hp} {Q : VK} (q : lowE X.K dk c (dMet gm f g) σ H Q) : tBM X.K "list" r (lowE X.K dk c f) (lowA X.K dk c g) σ H Q := by
  obtain ⟨ε, S, μ, lk, ok, rs, run⟩ := q
  refine ⟨ε, S, μ, lk, ok, rs, W.up run fun d μ1 run1 x S1 H1 ex1 ok1 rep1 => ?_⟩
  obtain ⟨d', vw, q⟩ := see_vw ok1 rep1 (Q := fun l μ' => (W.bnd (isL l) fun _ => W.bnd (g ε) fun ds => gm d ds).run (Post X.K dk S μ H Q) c.E μ') run1
  cases d' with
  | lst xs =>
    obtain ⟨a, vs, rfl, h1, h2⟩ := vw
    refine ⟨.inl ⟨rfl, vs, .inl (.inl h1)⟩, ε, S1, μ1, c.up lk ex1, ok1, rs.ex ex1, W.up (m := g ε) q fun ds μ2 run2 ys S2 H2 ex2 ok2 rep2 => ?_⟩
    exact l ok2 (rep1.ex ex2) rep2 (W.up run2 fun _ _ q => q.ex (ex1.trans ex2))
  | _ => exact q.elim
theorem low_met0 {r : V → List V → Hp → VK → Prop} {gm : D → List D → W D} (l : LM X.K dk r gm) {σ : L2.St} {H : Hp} {Q : VK} (q : lowE X.K dk c (dMet gm f aNil) σ H Q) : tBM0 X.K "list" r (lowE X.K dk c f) σ H Q := by
  obtain ⟨ε, S, μ, lk, ok, rs, run⟩ := q
  refine ⟨ε, S, μ, lk, ok, rs, W.up run fun d μ1 run1 x S1 H1 ex1 ok1 rep1 => ?_⟩
  obtain ⟨d', vw, q⟩ := see_vw ok1 rep1 (Q := fun l μ' => (W.bnd (isL l) fun _ => W.bnd (aNil ε) fun ds => gm d ds).run (Post X.K dk S μ H Q) c.E μ') run1
  cases d' with
  | lst xs =>
    obtain ⟨a, vs, rfl, h1, h2⟩ := vw
    exact ⟨.inl ⟨rfl, vs, .inl (.inl h1)⟩, l ok1 rep1 .nil (W.up (m := gm d []) q fun _ _ q => q.ex ex1)⟩
  | _ => exact q.elim
def gAppend : D → List D → W D
  | .ref n, [y] => atM n fun xs => W.chk (xs.length < sizeLine) (putM n (.lst (xs ++ [y])) (W.ret .non))
  | _, _ => W.fail
theorem l_append {K : PySem.W.Frag} : LM K dk rAppend gAppend := fun {x dx xs ds S μ H Q E} ok rx rs q => by
  unfold gAppend at q
  split at q
  · next n y =>
    obtain ⟨ys, h0, hl, q⟩ := atM_run q
    cases rx with
    | @ref _ a ha =>
      cases rs with
      | @cons _ v _ _ ry t =>
        cases t
        obtain ⟨vs, h1, h2⟩ := ok.at_ n _ _ h0 ha
        have ng : MO.lst ys ≠ .gone := fun z => by cases z
        have ex := set_ex (o := .lst (vs ++ [v])) (m' := .lst (ys ++ [y])) ok ha h0 ng
        exact ⟨a, vs, v, rfl, rfl, h1, by rw [← h2.len]; exact hl, q .non S _ ex (set_ok ok ha h0 ng (fun z => by cases z) ⟨_, upd_same, (h2.ex ex).app (.cons (ry.ex ex) .nil)⟩) .non⟩
  · exact q.elim
def gPop : D → List D → W D
  | .ref n, [] => atM n fun xs => W.bnd (W.opt xs[xs.length - 1]?) fun y => putM n (.lst xs.dropLast) (W.ret y)
  | _, _ => W.fail
theorem RepA.dropLast {K : PySem.W.Frag} {S : Pl} {μ : Mu} {H : Hp} : ∀ {ds : List D} {vs : List V}, RepA K S μ H ds vs → RepA K S μ H ds.dropLast vs.dropLast
  | _, _, .nil => .nil
  | _, _, .cons r .nil => .nil
  | _, _, .cons r (.cons r2 t) => .cons r (RepA.dropLast (.cons r2 t))
theorem RepA.erase {K : PySem.W.Frag} {S : Pl} {μ : Mu} {H : Hp} : ∀ {ds : List D} {vs : List V} (k : Nat), RepA K S μ H ds vs → RepA K S μ H (ds.eraseIdx k) (vs.eraseIdx k)
  | _, _, _, .nil => .nil
  | _, _, 0, .cons r t => t
  | _, _, k + 1, .cons r t => .cons r (RepA.erase k t)
theorem l_pop {K : PySem.W.Frag} : LM K dk rPop gPop := fun {x dx xs ds S μ H Q E} ok rx rs q => by
  unfold gPop at q
  split at q
  · next n =>
    obtain ⟨ys, h0, q⟩ := atM_run q
    cases rx with
    | @ref _ a ha =>
      cases rs
      obtain ⟨vs, h1, h2⟩ := ok.at_ n _ _ h0 ha
      cases hy : ys[ys.length - 1]? with
      | none =>
        have q : ((W.opt ys[ys.length - 1]?).bnd fun y => putM n (.lst ys.dropLast) (W.ret y)).run (Post K dk S μ H Q) E μ := q
        rw [hy] at q
        exact q.elim
      | some y =>
        have q : ((W.opt ys[ys.length - 1]?).bnd fun y => putM n (.lst ys.dropLast) (W.ret y)).run (Post K dk S μ H Q) E μ := q
        rw [hy] at q
        have ng : MO.lst ys ≠ .gone := fun z => by cases z
        obtain ⟨v, h3, h4⟩ := h2.get hy
        have ex := set_ex (o := .lst vs.dropLast) (m' := .lst ys.dropLast) ok ha h0 ng
        exact ⟨a, vs, v, rfl, rfl, h1, by rw [← h2.len]; exact h3, q v S _ ex (set_ok ok ha h0 ng (fun z => by cases z) ⟨_, upd_same, (h2.ex ex).dropLast⟩) (h4.ex ex)⟩
  · exact q.elim
def gPopAt : D → List D → W D
  | .ref n, [.int i] => atM n fun xs => W.chk (0 ≤ i ∧ i < xs.length ∧ xs.length < 2 ^ 62) (W.bnd (W.opt xs[i.toNat]?) fun y => putM n (.lst (xs.eraseIdx i.toNat)) (W.ret y))
  | _, _ => W.fail
theorem l_popAt {K : PySem.W.Frag} : LM K dk rPopAt gPopAt := fun {x dx xs ds S μ H Q E} ok rx rs q => by
  unfold gPopAt at q
  split at q
  · next n i =>
    obtain ⟨ys, h0, ⟨i0, i1, i2⟩, q⟩ := atM_run q
    cases rx with
    | @ref _ a ha =>
      cases rs with
      | @cons _ v _ _ ry t =>
        cases t
        cases ry
        obtain ⟨vs, h1, h2⟩ := ok.at_ n _ _ h0 ha
        have q : ((W.opt ys[i.toNat]?).bnd fun y => putM n (.lst (ys.eraseIdx i.toNat)) (W.ret y)).run (Post K dk S μ H Q) E μ := q
        cases hy : ys[i.toNat]? with
        | none => rw [hy] at q; exact q.elim
        | some y =>
          rw [hy] at q
          have ng : MO.lst ys ≠ .gone := fun z => by cases z
          obtain ⟨v, h3, h4⟩ := h2.get hy
          have ex := set_ex (o := .lst (vs.eraseIdx i.toNat)) (m' := .lst (ys.eraseIdx i.toNat)) ok ha h0 ng
          have lv := h2.len
          refine ⟨a, vs, i, i.toNat, v, rfl, rfl, h1, by omega, by omega, seqIndex_of i0 (by omega), h3, q v S _ ex (set_ok ok ha h0 ng (fun z => by cases z) ⟨_, upd_same, (h2.ex ex).erase _⟩) (h4.ex ex)⟩
  · exact q.elim
end
end DL

namespace DL
open PySem PySem.Spec PyProof.Rows L2 Kit

section
variable {K : PySem.W.Frag} {dk : DK}
/-! ### isinstance -/
def tyN : D → Option String
  | .non => some "NoneType"
  | .bl _ => some "bool"
  | .int _ => some "int"
  | .str _ => some "str"
  | .tup _ => some "tuple"
  | .lst _ => some "list"
  | .dct _ _ => some "dict"
  | _ => none
theorem tyx {S : Pl} {μ : Mu} {H : Hp} {d : D} {v : V} {n : String} (r : Vw K S μ H d v) (h : tyN d = some n) : TyX K H v (.type n) := by
  cases d with
  | non => cases r; cases h; exact .base .non
  | bl b => cases r; cases h; exact .base (.bl b)
  | int i => cases r; cases h; exact .base (.int i)
  | str z => cases r; cases h; exact .base (.str z)
  | tup xs =>
    cases h
    rcases r with _ | _ | _ | _ | _ | _ | @⟨_, a, vs, hy, ry⟩
    exact .base (.tup hy.1)
  | lst xs =>
    cases h
    obtain ⟨a, vs, rfl, h1, h2⟩ := r
    exact .base (.lst h1)
  | dct b ks =>
    cases h
    cases b with
    | false =>
      obtain ⟨a, vs, rfl, h1, h2⟩ := r
      exact .base (.dK h1)
    | true =>
      obtain ⟨a, vs, rfl, h1, h2⟩ := r
      exact .base (.dT h1)
  | _ => cases h
def oneI (m n : String) : Bool := n == m || (m == "bool" && n == "int")
def gIs1 : D → D → W D
  | x, .ty n => W.chk (n ∈ ["int", "str", "tuple", "list", "bool", "dict"]) (W.bnd (W.opt (tyN x)) fun m => W.ret (.bl (oneI m n)))
  | _, _ => W.fail
theorem ty_mem {d : D} {m : String} (h : tyN d = some m) : m ∈ ["NoneType", "bool", "int", "str", "tuple", "list", "dict"] := by
  cases d <;> first | (cases h; done) | (cases h; decide)
theorem l_is1 : LRC K dk (fun xs H Q => ∃ x y, xs = [x, y] ∧ ∃ (t u : Value) (b : Bool), ClsV y u ∧ TyX K H x t ∧ PySem.W.kitOne K t u = some b ∧ Q (.bl b) H) (c2 gIs1) :=
  LV2.call (r := fun x y H Q => ∃ (t u : Value) (b : Bool), ClsV y u ∧ TyX K H x t ∧ PySem.W.kitOne K t u = some b ∧ Q (.bl b) H) fun {x y dx dy S μ H Q E} ok rx ry q => by
    cases dy with
    | ty n =>
      cases ry
      obtain ⟨hn, q⟩ := (q : n ∈ ["int", "str", "tuple", "list", "bool", "dict"] ∧ ((W.opt (tyN dx)).bnd fun m => W.ret (.bl (oneI m n))).run (Post K dk S μ H Q) E μ)
      cases ht : tyN dx with
      | none => rw [ht] at q; exact q.elim
      | some m =>
        rw [ht] at q
        exact ⟨_, _, _, .ty n, tyx rx ht, kit_ty K hn (ty_mem ht), q _ S H Ex.refl ok (.bl _)⟩
    | _ => exact q.elim
theorem k_is1 {X : Cx} : CallR X (.builtin "isinstance") (fun xs H Q => ∃ x y, xs = [x, y] ∧ ∃ (t u : Value) (b : Bool), ClsV y u ∧ TyX X.K H x t ∧ PySem.W.kitOne X.K t u = some b ∧ Q (.bl b) H) :=
  CallR.imp call_isi fun _ _ _ ⟨x, y, e, t, u, b, h⟩ => ⟨x, y, t, u, b, e, h⟩

/-! ### int, str -/
def gInt : D → W D
  | .int i => W.ret (.int i)
  | .bl b => W.ret (.int (if b then 1 else 0))
  | .str z => W.chk (z.length ≤ 640) (W.bnd (W.opt (PySem.intText? z)) fun n => W.ret (.int n))
  | _ => W.fail
theorem l_int : LRC K dk (fun xs H Q => ∃ x, xs = [x] ∧ ((∃ i, x = .int i ∧ Q (.int i) H) ∨ (∃ k, x = .bl k ∧ Q (.int (if k then 1 else 0)) H) ∨ ∃ a n, x = .str a ∧ PySem.intText? a = some n ∧ a.length ≤ 640 ∧ Q (.int n) H)) (c1 gInt) :=
  LV1.call (r := fun x H Q => (∃ i, x = .int i ∧ Q (.int i) H) ∨ (∃ k, x = .bl k ∧ Q (.int (if k then 1 else 0)) H) ∨ ∃ a n, x = .str a ∧ PySem.intText? a = some n ∧ a.length ≤ 640 ∧ Q (.int n) H) fun {x dx S μ H Q E} ok rx q => by
    unfold gInt at q
    split at q
    · cases rx; exact .inl ⟨_, rfl, q _ S H Ex.refl ok (.int _)⟩
    · cases rx; exact .inr (.inl ⟨_, rfl, q _ S H Ex.refl ok (.int _)⟩)
    · next z =>
      cases rx
      obtain ⟨hz, q⟩ := q
      have q : ((W.opt (PySem.intText? z)).bnd fun n => W.ret (.int n)).run (Post K dk S μ H Q) E μ := q
      cases hn : PySem.intText? z with
      | none => rw [hn] at q; exact q.elim
      | some n =>
        rw [hn] at q
        exact .inr (.inr ⟨z, n, rfl, hn, hz, q _ S H Ex.refl ok (.int _)⟩)
    · exact q.elim
theorem k_int {X : Cx} : CallR X (.type "int") (fun xs H Q => ∃ x, xs = [x] ∧ ((∃ i, x = .int i ∧ Q (.int i) H) ∨ (∃ k, x = .bl k ∧ Q (.int (if k then 1 else 0)) H) ∨ ∃ a n, x = .str a ∧ PySem.intText? a = some n ∧ a.length ≤ 640 ∧ Q (.int n) H)) :=
  CallR.imp (CallR.or call_int1 call_int_str) fun _ _ _ ⟨x, e, h⟩ => by
    rcases h with ⟨i, rfl, q⟩ | ⟨i, rfl, q⟩ | ⟨a, n, rfl, q⟩
    · exact .inl (.inl ⟨i, e, q⟩)
    · exact .inl (.inr ⟨i, e, q⟩)
    · exact .inr ⟨a, n, e, q⟩
def gStr : D → W D
  | .int i => W.chk (i.natAbs.log2 < 1920) (W.ret (.str (toString i)))
  | .str z => W.ret (.str z)
  | _ => W.fail
theorem l_str : LRC K dk (fun xs H Q => ∃ x, xs = [x] ∧ ((∃ i, x = .int i ∧ i.natAbs.log2 < 1920 ∧ Q (.str (toString i)) H) ∨ ∃ a, x = .str a ∧ Q (.str a) H)) (c1 gStr) :=
  LV1.call (r := fun x H Q => (∃ i, x = .int i ∧ i.natAbs.log2 < 1920 ∧ Q (.str (toString i)) H) ∨ ∃ a, x = .str a ∧ Q (.str a) H) fun {x dx S μ H Q E} ok rx q => by
    unfold gStr at q
    split at q
    · cases rx; exact .inl ⟨_, rfl, q.1, q.2 _ S H Ex.refl ok (.str _)⟩
    · cases rx; exact .inr ⟨_, rfl, q _ S H Ex.refl ok (.str _)⟩
    · exact q.elim
theorem k_str {X : Cx} : CallR X (.type "str") (fun xs H Q => ∃ x, xs = [x] ∧ ((∃ i, x = .int i ∧ i.natAbs.log2 < 1920 ∧ Q (.str (toString i)) H) ∨ ∃ a, x = .str a ∧ Q (.str a) H)) :=
  CallR.imp (CallR.or call_str_int SkE.call_str_str) fun _ _ _ ⟨x, e, h⟩ => by
    rcases h with ⟨i, rfl, q⟩ | ⟨i, rfl, q⟩
    · exact .inl ⟨i, e, q⟩
    · exact .inr ⟨i, e, q⟩

/-! ### tuple, list -/
def gTuple : D → W D
  | .lst xs => W.ret (.tup xs)
  | .tup xs => W.ret (.tup xs)
  | _ => W.fail
theorem lst_le {S : Pl} {μ : Mu} {H : Hp} {a : Addr} {vs : List V} (h : H a = some (.lst vs)) : True := True.intro
theorem l_tuple : LRC K dk (fun xs H Q => ∃ x, xs = [x] ∧ ∃ p ys, x = .ref p ∧ ((SqL K H p ys ∧ ∀ l, H l = none → Q (.ref l) (upd H l (.tup ys))) ∨ (SqT K H p ys ∧ Q (.ref p) H))) (c1 gTuple) :=
  LV1.call (r := fun x H Q => ∃ p ys, x = .ref p ∧ ((SqL K H p ys ∧ ∀ l, H l = none → Q (.ref l) (upd H l (.tup ys))) ∨ (SqT K H p ys ∧ Q (.ref p) H))) fun {x dx S μ H Q E} ok rx q => by
    unfold gTuple at q
    split at q
    · obtain ⟨a, vs, rfl, hx, rx⟩ := rx
      exact ⟨a, vs, rfl, .inl ⟨.inl (.inl hx), fun p hp => q (.ref p) S _ (new_ex ok hp) (new_ok ok hp) (new_tup ok hp rx)⟩⟩
    · rcases rx with _ | _ | _ | _ | _ | _ | @⟨_, a, vs, hx, rx⟩
      exact ⟨a, vs, rfl, .inr ⟨hx.sq, q _ S H Ex.refl ok (.tup hx rx)⟩⟩
    · exact q.elim
theorem k_tuple {X : Cx} : CallR X (.type "tuple") (fun xs H Q => ∃ x, xs = [x] ∧ ∃ p ys, x = .ref p ∧ ((SqL X.K H p ys ∧ ∀ l, H l = none → Q (.ref l) (upd H l (.tup ys))) ∨ (SqT X.K H p ys ∧ Q (.ref p) H))) :=
  CallR.imp call_tuple_of fun _ _ _ ⟨x, e, p, ys, ex, h⟩ => ⟨p, ys, by rw [e, ex], h⟩
def gList : D → W D
  | .lst xs => W.ret (.lst xs)
  | .tup xs => W.ret (.lst xs)
  | _ => W.fail
theorem l_list : LRC K dk (fun xs H Q => ∃ x, xs = [x] ∧ ∃ p ys, x = .ref p ∧ (SqL K H p ys ∨ SqT K H p ys) ∧ ∀ l, H l = none → Q (.ref l) (upd H l (.lst ys))) (c1 gList) :=
  LV1.call (r := fun x H Q => ∃ p ys, x = .ref p ∧ (SqL K H p ys ∨ SqT K H p ys) ∧ ∀ l, H l = none → Q (.ref l) (upd H l (.lst ys))) fun {x dx S μ H Q E} ok rx q => by
    unfold gList at q
    split at q
    · obtain ⟨a, vs, rfl, hx, rx⟩ := rx
      exact ⟨a, vs, rfl, .inl (.inl (.inl hx)), fun p hp => q (.ref p) S _ (new_ex ok hp) (new_ok ok hp) (new_lst ok hp rx)⟩
    · rcases rx with _ | _ | _ | _ | _ | _ | @⟨_, a, vs, hx, rx⟩
      exact ⟨a, vs, rfl, .inr hx.sq, fun p hp => q (.ref p) S _ (new_ex ok hp) (new_ok ok hp) (new_lst ok hp rx)⟩
    · exact q.elim
theorem k_list {X : Cx} : CallR X (.type "list") (fun xs H Q => ∃ x, xs = [x] ∧ ∃ p ys, x = .ref p ∧ (SqL X.K H p ys ∨ SqT X.K H p ys) ∧ ∀ l, H l = none → Q (.ref l) (upd H l (.lst ys))) :=
  CallR.imp call_list_of fun _ _ _ ⟨x, e, p, ys, ex, h⟩ => ⟨p, ys, by rw [e, ex], h⟩
/-! ### all, any, sum, max, min, abs -/
def blsD : List D → Option (List Bool)
  | [] => some []
  | .bl b :: r => (blsD r).map (b :: ·)
  | _ :: _ => none
def intsD : List D → Option (List Int)
  | [] => some []
  | .int i :: r => (intsD r).map (i :: ·)
  | _ :: _ => none
theorem blsD_rep {S : Pl} {μ : Mu} {H : Hp} : ∀ {ds : List D} {vs : List V} {bs : List Bool}, RepA K S μ H ds vs → blsD ds = some bs → vs = bs.map V.bl
  | _, _, _, .nil, h => by cases h; rfl
  | d :: ds, _, _, .cons r t, h => by
    cases d <;> first | (cases h; done) | skip
    cases r
    rw [blsD] at h
    obtain ⟨bs, h1, rfl⟩ := map_inv h
    rw [blsD_rep t h1]
    rfl
theorem intsD_rep {S : Pl} {μ : Mu} {H : Hp} : ∀ {ds : List D} {vs : List V} {bs : List Int}, RepA K S μ H ds vs → intsD ds = some bs → vs = bs.map V.int
  | _, _, _, .nil, h => by cases h; rfl
  | d :: ds, _, _, .cons r t, h => by
    cases d <;> first | (cases h; done) | skip
    cases r
    rw [intsD] at h
    obtain ⟨bs, h1, rfl⟩ := map_inv h
    rw [intsD_rep t h1]
    rfl
def gBs (f : List Bool → Bool) : D → W D
  | .lst xs => W.bnd (W.opt (blsD xs)) fun bs => W.ret (.bl (f bs))
  | _ => W.fail
def gNs (p : List Int → Prop) (f : List Int → Int) : D → W D
  | .lst xs => W.bnd (W.opt (intsD xs)) fun ns => W.chk (p ns) (W.ret (.int (f ns)))
  | _ => W.fail
theorem l_bs {f : List Bool → Bool} : LRC K dk (fun xs H Q => ∃ x, xs = [x] ∧ ∃ (a : Addr) (bs : List Bool), x = .ref a ∧ SqL K H a (bs.map V.bl) ∧ Q (.bl (f bs)) H) (c1 (gBs f)) :=
  LV1.call (r := fun x H Q => ∃ (a : Addr) (bs : List Bool), x = .ref a ∧ SqL K H a (bs.map V.bl) ∧ Q (.bl (f bs)) H) fun {x dx S μ H Q E} ok rx q => by
    unfold gBs at q
    split at q
    · next xs =>
      obtain ⟨a, vs, rfl, hx, rx⟩ := rx
      cases hb : blsD xs with
      | none => rw [hb] at q; exact q.elim
      | some bs =>
        rw [hb] at q
        rw [blsD_rep rx hb] at hx
        exact ⟨a, bs, rfl, .inl (.inl hx), q _ S H Ex.refl ok (.bl _)⟩
    · exact q.elim
theorem k_all {X : Cx} (hc : X.calm = true) : CallR X (.builtin "all") (fun xs H Q => ∃ x, xs = [x] ∧ ∃ (a : Addr) (bs : List Bool), x = .ref a ∧ SqL X.K H a (bs.map V.bl) ∧ Q (.bl (bs.all id)) H) :=
  CallR.imp (cr_all hc) fun _ _ _ ⟨x, e, p, ys, ex, h⟩ => ⟨p, ys, by rw [e, ex], h⟩
theorem k_any {X : Cx} (hc : X.calm = true) : CallR X (.builtin "any") (fun xs H Q => ∃ x, xs = [x] ∧ ∃ (a : Addr) (bs : List Bool), x = .ref a ∧ SqL X.K H a (bs.map V.bl) ∧ Q (.bl (bs.any id)) H) :=
  CallR.imp (cr_any hc) fun _ _ _ ⟨x, e, p, ys, ex, h⟩ => ⟨p, ys, by rw [e, ex], h⟩
theorem l_sum : LRC K dk (fun xs H Q => ∃ x, xs = [x] ∧ ∃ (a : Addr) (ns : List Int), x = .ref a ∧ SqL K H a (ns.map V.int) ∧ Q (.int ns.sum) H) (c1 (gNs (fun _ => True) List.sum)) :=
  LV1.call (r := fun x H Q => ∃ (a : Addr) (ns : List Int), x = .ref a ∧ SqL K H a (ns.map V.int) ∧ Q (.int ns.sum) H) fun {x dx S μ H Q E} ok rx q => by
    unfold gNs at q
    split at q
    · next xs =>
      obtain ⟨a, vs, rfl, hx, rx⟩ := rx
      cases hb : intsD xs with
      | none => rw [hb] at q; exact q.elim
      | some bs =>
        rw [hb] at q
        rw [intsD_rep rx hb] at hx
        exact ⟨a, bs, rfl, .inl (.inl hx), q.2 _ S H Ex.refl ok (.int _)⟩
    · exact q.elim
theorem k_sum {X : Cx} (hc : X.calm = true) : CallR X (.builtin "sum") (fun xs H Q => ∃ x, xs = [x] ∧ ∃ (a : Addr) (ns : List Int), x = .ref a ∧ SqL X.K H a (ns.map V.int) ∧ Q (.int ns.sum) H) :=
  CallR.imp (cr_sum hc) fun _ _ _ ⟨x, e, p, ys, ex, h⟩ => ⟨p, ys, by rw [e, ex], h⟩
def gN2 (f : Int → Int → Int) : D → D → W D := oI0 fun i j => .int (f i j)
theorem l_n2 {f : Int → Int → Int} : LRC K dk (fun xs H Q => ∃ x y, xs = [x, y] ∧ rI0 (fun i j => .int (f i j)) x y H Q) (c2 (gN2 f)) :=
  LV2.call (r := rI0 fun i j => .int (f i j)) fun {x y dx dy S μ H Q E} ok rx ry q => by
    unfold gN2 oI0 at q
    split at q
    · cases rx; cases ry
      exact ⟨_, _, rfl, rfl, q _ S H Ex.refl ok (.int _)⟩
    · exact q.elim
theorem k_max2 {X : Cx} (hc : X.calm = true) : CallR X (.builtin "max") (fun xs H Q => ∃ x y, xs = [x, y] ∧ rI0 (fun i j => .int (if j > i then j else i)) x y H Q) :=
  CallR.imp (call_max2 hc) fun _ _ _ ⟨x, y, e, i, j, ex, ey, h⟩ => ⟨i, j, by rw [e, ex, ey], h⟩
theorem k_min2 {X : Cx} (hc : X.calm = true) : CallR X (.builtin "min") (fun xs H Q => ∃ x y, xs = [x, y] ∧ rI0 (fun i j => .int (if j < i then j else i)) x y H Q) :=
  CallR.imp (call_min2 hc) fun _ _ _ ⟨x, y, e, i, j, ex, ey, h⟩ => ⟨i, j, by rw [e, ex, ey], h⟩
end

/-! ### own defs -/
section
variable (K : PySem.W.Frag) (dk : DK)
/-- what is promised of a def that computes F -/
def spX (n : Nat) (F : List D → W D) : Sp := fun vs H Q E => vs.length = n ∧ ∃ ds S μ, Ok K dk.p S μ H ∧ RepA K S μ H ds vs ∧ (F ds).run (Post K dk S μ H Q) (PostX K dk S μ H E) μ
end
def dOwn (n : Nat) (F : List D → W D) (fa : DS → W (List D)) : DS → W D := fun ε => W.bnd (fa ε) fun ds => W.chk (ds.length = n) (W.tag ε (F ds))
section
variable {X : Cx} {dk : DK} {c : LC X.K dk} {e : Expr} {es : List Expr} {kws : List Keyword} {fs : DS → W (List D)} {F : List D → W D} {k j n : Nat} {x : Str} {ps : List Str} {p pos : Pos} {sp : Sp} {t tk : TA} {Ew : L2.St → XK}
/-- an own def's call, what is raised being wished for at the slots -/
def tCallE (sp : Sp) (Ew : L2.St → XK) (t : TA) : TE := fun σ H Q => t σ H fun vs H1 => sp vs H1 Q (Ew σ)
theorem run_fnE {pins : List (Addr × Obj)} {σ : L2.St} {H : Hp} {s : Shared} {Q : VK} {us ws : List Value} {vs zs : List V} {ks : List Str} {CX : CXT} {f : Addr} {fd : FuncData} {E : XK}
    {g : List Value → List Value → List Value} {gV : List V → List V → List V}
    (F : FnG X.prog X.w X.K X.mg X.base CX k f fd ps sp) (hq : Qt X.A) (hr : Room k X.A) (hb : KBinds X.K fd ps ks g gV) (hx : PassesAt CX X σ E) (I : Inv X pins σ H s) (r : Vals vs us) (rz : Vals zs ws)
    (h : sp (gV vs zs) H Q E) : wpAny (model X.prog X.w) X.A (call (.ref f) us (ks.zip ws)) (EP X pins σ Q) X.xe s := by
  have w := hb.rel r rz
  have l : (g us ws).length = ps.length := w.length.symm.trans (F.len _ _ _ _ h)
  refine wpAny_call (codeAny_mono (F.run X.A X.stack s H ⟨us, ks.zip ws⟩ _ _ Q E hq hr I.env0 (hb.to s us ws I.kIn l) w h) fun o s2 ho => ?_)
  cases o with
  | error y => exact hx pins H s y s2 I ho
  | ok fl => cases fl <;> first | exact I.after ho | exact ho.elim
theorem pe_cE (cal : Cal X.prog X.w X.K X.mg X.base (L2.CX X.prog X.w) k x ps sp) (hx : ∀ σ, PassesAt (L2.CX X.prog X.w) X σ (Ew σ)) (hq : Qt X.A) (hr : Room j X.A) (hk : k ≤ j)
    (hg : Gl X x) (ha : PA X (e :: es) t) (hdb : (x == ("__debug__" : Str)) = false := by decide)
    (he : starEach (e :: es) X.env = (false, eval e X.env) :: starEach es X.env := by rfl)
    (hpl : (backTo pos (starEach es X.env)).any (·.1) = false := by rfl) : PE X (.Call (.Name x p) (e :: es) [] pos) (tCallE sp Ew t) := by
  obtain ⟨f, fd, F, hm, kf, hb, _⟩ := cal.ex
  exact ⟨fun pins s σ H Q I h => wpAny_Call_Name_kw (ld_glob I hg hm (PySem.W.callWith_K (h₀ := X.base) I.ok.mod.kin kf (thn (ha.run pos pins s σ H _ I h) fun us s1 ⟨vs, H1, I1, r, q⟩ =>
    ⟨I1.kIn, run_fnE (ks := []) (ws := []) F hq (hr.mono hk) (kb_of hb) (hx σ) I1 r .nil q⟩) he hpl) hdb)⟩
theorem pe_cE0 (cal : Cal X.prog X.w X.K X.mg X.base (L2.CX X.prog X.w) k x ps sp) (hx : ∀ σ, PassesAt (L2.CX X.prog X.w) X σ (Ew σ)) (hq : Qt X.A) (hr : Room j X.A) (hk : k ≤ j)
    (hg : Gl X x) (hdb : (x == ("__debug__" : Str)) = false := by decide) : PE X (.Call (.Name x p) [] [] pos) (tCallE sp Ew tNil) := by
  obtain ⟨f, fd, F, hm, kf, hb, _⟩ := cal.ex
  exact ⟨fun pins s σ H Q I h => wpAny_Call_Name_kw (ld_glob I hg hm (PySem.W.callWith_K0 I.kIn kf (run_fnE (ks := []) (us := []) (ws := []) F hq (hr.mono hk) (kb_of hb) (hx σ) I .nil .nil h)) hdb)⟩
theorem pe_cEK (cal : Cal X.prog X.w X.K X.mg X.base (L2.CX X.prog X.w) k x ps sp) (hx : ∀ σ, PassesAt (L2.CX X.prog X.w) X σ (Ew σ)) (hq : Qt X.A) (hr : Room j X.A) (hk : k ≤ j)
    (hg : Gl X x) (h0 : ps ≠ []) (hkw : PK X kws tk)
    (hall : (backToKw pos (keywordEach kws X.env)).all (·.1.isSome) = true := by rfl)
    (hks : (backToKw pos (keywordEach kws X.env)).filterMap (·.1) = ps := by rfl)
    (hdb : (x == ("__debug__" : Str)) = false := by decide)
    (hpl : ((backTo pos (starEach [] X.env)).any (·.1) || (backToKw pos (keywordEach kws X.env)).any (·.1.isNone)) = false := by rfl) :
    PE X (.Call (.Name x p) [] kws pos) (tCallE sp Ew tk) := by
  obtain ⟨f, fd, F, hm, kf, _, hb⟩ := cal.ex
  exact ⟨fun pins s σ H Q I h => wpAny_Call_Name_kw (ld_glob I hg hm (PySem.W.callWith_KW0 (h₀ := X.base) I.ok.mod.kin kf hall (thn (hkw.run pos pins s σ H _ I h) fun ws s1 ⟨zs, H1, I1, r, q⟩ =>
    ⟨I1.kIn, by rw [hks]; exact run_fnE (us := []) (vs := []) F hq (hr.mono hk) (hb h0) (hx σ) I1 .nil r q⟩) hpl) hdb)⟩
theorem low_own {σ : L2.St} {H : Hp} {Q : VK} (q : lowE X.K dk c (dOwn n F fs) σ H Q) : tCallE (spX X.K dk n F) (WE c.x) (lowA X.K dk c fs) σ H Q := by
  obtain ⟨ε, S, μ, lk, ok, rs, run⟩ := q
  refine ⟨ε, S, μ, lk, ok, rs, W.up run fun ds μ1 run1 vs S1 H1 ex1 ok1 rep1 => ?_⟩
  obtain ⟨hl, run1⟩ := run1
  have run1 : (F ds).run (Post X.K dk S μ H Q) (fun x μ' => c.E { x with sl := ε } μ') μ1 := run1
  exact ⟨by rw [← rep1.len]; exact hl, ds, S1, μ1, ok1, rep1, (F ds).mono (fun _ _ q => q.ex ex1) (fun xn μ' q d vs S' H' ex ok' hd nl rf => c.xl (e := { xn with sl := ε }) (c.up lk ex1) q d vs S' H' σ ex ok' hd nl rf ((rs.ex ex1).ex ex)) run1⟩
theorem de_own (cal : Cal X.prog X.w X.K X.mg X.base (L2.CX X.prog X.w) k x ps (spX X.K dk n F)) (tks : Takes X c.x) (hq : Qt X.A) (hr : Room j X.A) (hk : k ≤ j)
    (hg : Gl X x) (ha : PA X (e :: es) (lowA X.K dk c fs)) (hdb : (x == ("__debug__" : Str)) = false := by decide)
    (he : starEach (e :: es) X.env = (false, eval e X.env) :: starEach es X.env := by rfl)
    (hpl : (backTo pos (starEach es X.env)).any (·.1) = false := by rfl) :
    PE X (.Call (.Name x p) (e :: es) [] pos) (lowE X.K dk c (dOwn n F fs)) := pe_w (pe_cE cal (passAt tks) hq hr hk hg ha hdb he hpl) fun _ _ _ q => low_own q
theorem de_own0 (cal : Cal X.prog X.w X.K X.mg X.base (L2.CX X.prog X.w) k x ps (spX X.K dk n F)) (tks : Takes X c.x) (hq : Qt X.A) (hr : Room j X.A) (hk : k ≤ j)
    (hg : Gl X x) (hdb : (x == ("__debug__" : Str)) = false := by decide) : PE X (.Call (.Name x p) [] [] pos) (lowE X.K dk c (dOwn n F aNil)) :=
  pe_w (pe_cE0 cal (passAt tks) hq hr hk hg hdb) fun σ H Q ⟨ε, S, μ, lk, ok, rs, run⟩ => by
    obtain ⟨hl, run1⟩ := (run : ([] : List D).length = n ∧ (F []).run (Post X.K dk S μ H Q) (fun x μ' => c.E { x with sl := ε } μ') μ)
    exact ⟨hl, [], S, μ, ok, .nil, (F []).mono (fun _ _ q => q) (fun xn μ' q d vs S' H' ex ok' hd nl rf => c.xl (e := { xn with sl := ε }) lk q d vs S' H' σ ex ok' hd nl rf (rs.ex ex)) run1⟩
theorem de_ownK (cal : Cal X.prog X.w X.K X.mg X.base (L2.CX X.prog X.w) k x ps (spX X.K dk n F)) (tks : Takes X c.x) (hq : Qt X.A) (hr : Room j X.A) (hk : k ≤ j)
    (hg : Gl X x) (h0 : ps ≠ []) (hkw : PK X kws (lowA X.K dk c fs))
    (hall : (backToKw pos (keywordEach kws X.env)).all (·.1.isSome) = true := by rfl)
    (hks : (backToKw pos (keywordEach kws X.env)).filterMap (·.1) = ps := by rfl)
    (hdb : (x == ("__debug__" : Str)) = false := by decide)
    (hpl : ((backTo pos (starEach [] X.env)).any (·.1) || (backToKw pos (keywordEach kws X.env)).any (·.1.isNone)) = false := by rfl) :
    PE X (.Call (.Name x p) [] kws pos) (lowE X.K dk c (dOwn n F fs)) := pe_w (pe_cEK cal (passAt tks) hq hr hk hg h0 hkw hall hks hdb hpl) fun _ _ _ q => low_own q
end
/-- a def's computation, by its body's -/
def endF : Fl → W D
  | .rt d => W.ret d
  | .nx _ => W.ret .non
  | _ => W.fail
def startD (m : Nat) (ds : List D) : DS := ds.map some ++ List.replicate m none
def defW (m : Nat) (b : DS → W Fl) : List D → W D := fun ds => W.bnd (b (startD m ds)) endF
section
variable {P : Program} {w : World} {K : PySem.W.Frag} {mg : Str → Option Value} {base : Heap}
/-- the letters of a def's body -/
def cDef (K : PySem.W.Frag) (dk : DK) (S : Pl) (μ : Mu) (H : Hp) (E : XK) : LC K dk := ⟨PostX K dk S μ H E, fun S' μ' H' => Ex S μ H S' μ' H', fun cls d _ H => E cls d H, fun a b => a.trans b, fun lk h d vs S' H' _ ex ok hd nl rf _ => h.ex lk d vs S' H' ex ok hd nl rf⟩
theorem rs_start {S : Pl} {μ : Mu} {H : Hp} {ds : List D} {vs : List V} {N : List Str} {m : Nat} (r : RepA K S μ H ds vs) (hm : N.length = vs.length + m) : RS K S μ H (startD m ds) (L2.start N vs) := by
  unfold startD L2.start
  refine ⟨?_, fun i d e => ?_⟩
  · rw [List.length_append, List.length_append, List.length_map, List.length_map, List.length_replicate, List.length_replicate, r.len]
    omega
  · by_cases hi : i < ds.length
    · rw [List.getElem?_append_left (by rw [List.length_map]; exact hi), List.getElem?_map] at e
      obtain ⟨d', e1, e2⟩ := map_inv e
      cases e2
      obtain ⟨v, h1, h2⟩ := r.get e1
      refine ⟨v, ?_, h2⟩
      rw [List.getElem?_append_left (by rw [List.length_map, ← r.len]; exact hi), List.getElem?_map, h1]
      rfl
    · rw [List.getElem?_append_right (by rw [List.length_map]; omega), List.getElem?_replicate] at e
      split at e <;> cases e
theorem cal_D {dk : DK} {x : Str} {st : Stmt} {f : Addr} {fd : FuncData} {N ps : List Str} {k m : Nat} {b : DS → W Fl} (D : DefAt K mg x ps st f fd)
    (S : FnScope N ps (defScope st)) (hm : N.length = ps.length + m)
    (hbody : ∀ (cdv : Value) (A : Around) (outer : List Env) (s : Shared) (H0 : Hp) (E : XK),
      Qt (A.deeper (envOfC x (defScope st) s.heap.objs.size f cdv)) →
      Room k (A.deeper (envOfC x (defScope st) s.heap.objs.size f cdv)) → ∀ (S0 : Pl) (μ0 : Mu) (H : Hp),
      PSs (cxOf (L2.CX P w) P w K mg base N x (defScope st) f cdv A outer s H0 E) (defBody st) (lowS K dk (cDef K dk S0 μ0 H E) b)) :
    Cal P w K mg base (L2.CX P w) (k + 1) x ps (spX K dk ps.length (defW m b)) := by
  obtain ⟨oc, od, kV, doc, pm, an, cdv, ct, osl, rfl, lk, hcd⟩ := D.fn.ex
  refine ⟨f, _, ?_, D.mgf, D.fn.kp, D.bs, D.kbs⟩
  refine fn_ofG lk hcd S (fun vs H Q E h => h.1) fun A outer s H vs Q E hq hr hsp => ?_
  obtain ⟨hl, ds, S0, μ0, ok, rep, run⟩ := hsp
  refine ⟨_, hbody cdv A outer s H E hq hr S0 μ0 H, startD m ds, S0, μ0, Ex.refl, ok, rs_start rep (by omega), ?_⟩
  have run : (b (startD m ds)).run (fun fl μ' => (endF fl).run (Post K dk S0 μ0 H Q) (PostX K dk S0 μ0 H E) μ') (PostX K dk S0 μ0 H E) μ0 := run
  refine W.up run fun fl μ1 q => ?_
  cases fl with
  | nx ε => exact fun σ S' H' ex ok' rs' => q .non S' H' ex ok' .non
  | rt d => exact fun v S' H' ex ok' r' => q v S' H' ex ok' r'
  | bk ε => exact q.elim
  | ct ε => exact q.elim
end
end DL

namespace DL
open PySem PySem.Spec PyProof.Rows L2 Kit X16

/-! ### enumerate, zip -/
def kdOk : Kd → D → Bool
  | .L, .lst _ => true
  | .L, .ref _ => true
  | .T, .tup _ => true
  | .T, .ktp _ => true
  | .S, .str _ => true
  | _, _ => false
section
variable {K : PySem.W.Frag} {dk : DK}
theorem itsOf_ref {μ : Mu} {n : Nat} {t : Itm} (h : itsOf μ (.ref n) = some t) : ∃ xs, μ[n]? = some (.lst xs) ∧ t = ⟨xs, fun μ => μ[n]? = some (.lst xs)⟩ := by
  have h : (match μ[n]? with
    | some (.lst xs) => some (Itm.mk xs fun μ => μ[n]? = some (MO.lst xs))
    | _ => none) = some t := h
  cases e : μ[n]? with
  | none => rw [e] at h; cases h
  | some m =>
    rw [e] at h
    cases m with
    | lst xs => cases h; exact ⟨xs, rfl, rfl⟩
    | _ => cases h
theorem sg_rep {S : Pl} {μ : Mu} {H : Hp} : ∀ {cs : List Nat}, RepA K S μ H (cs.map fun k => D.str ⟨#[k]⟩) (cs.map fun k => V.str ⟨#[k]⟩)
  | [] => .nil
  | k :: cs => .cons (.str _) sg_rep
theorem kd_at {k : Kd} {S : Pl} {μ : Mu} {H : Hp} {d : D} {v : V} {t : Itm} (r : Rep K S μ H d v) (hk : kdOk k d = true) (ht : itsOf μ d = some t) {S' : Pl} {μ' : Mu} {H' : Hp} (ex : Ux S μ H S' μ' H') (ok : Ok K dk.p S' μ' H') (hv : t.inv μ') :
    ∃ vs, SqK K H' k v vs ∧ RepA K S' μ' H' t.xs vs := by
  cases r with
  | @tup xs a vs h r =>
    cases k <;> first | (cases hk; done) | skip
    cases ht
    exact ⟨vs, ⟨a, rfl, (h.ux ex).sq⟩, r.ux ex⟩
  | @ktp xs a vs h r =>
    cases k <;> first | (cases hk; done) | skip
    cases ht
    exact ⟨vs, ⟨a, rfl, kt_sq h⟩, r.ux ex⟩
  | @lst xs a vs h r =>
    cases k <;> first | (cases hk; done) | skip
    cases ht
    exact ⟨vs, ⟨a, rfl, .inl (.inl (h.ux ex).1)⟩, r.ux ex⟩
  | str z =>
    cases k <;> first | (cases hk; done) | skip
    cases ht
    exact ⟨_, ⟨z, rfl, rfl⟩, sg_rep⟩
  | @ref n a h =>
    cases k <;> first | (cases hk; done) | skip
    obtain ⟨xs, h1, rfl⟩ := itsOf_ref ht
    obtain ⟨vs, h2, h3⟩ := ok.at_ n _ a hv (ex.at h)
    exact ⟨vs, ⟨a, rfl, .inl (.inl h2)⟩, h3⟩
  | _ => cases k <;> cases hk
def enumD : Nat → List D → List D
  | _, [] => []
  | n, x :: xs => .tup [.int n, x] :: enumD (n + 1) xs
theorem enumD_get : ∀ {xs : List D} {n i : Nat}, (enumD n xs)[i]? = xs[i]?.map fun x => .tup [.int ((n + i : Nat) : Int), x]
  | [], n, i => rfl
  | x :: xs, n, 0 => rfl
  | x :: xs, n, i + 1 => by
    show (enumD (n + 1) xs)[i]? = _
    rw [enumD_get]
    show _ = xs[i]?.map _
    congr 1
    funext y
    congr 4
    omega
theorem enumD_len : ∀ {xs : List D} {n : Nat}, (enumD n xs).length = xs.length
  | [], _ => rfl
  | _ :: xs, n => by
    show (enumD (n + 1) xs).length + 1 = _
    rw [enumD_len]
    rfl
theorem pair_new {S : Pl} {μ : Mu} {H : Hp} {T : Addr} {d e : D} {x y : V} (ok : Ok K dk.p S μ H) (hT : H T = none) (r1 : Rep K S μ H d x) (r2 : Rep K S μ H e y) :
    Ex S μ H S μ (upd H T (.tup [x, y])) ∧ Ok K dk.p S μ (upd H T (.tup [x, y])) ∧ Rep K S μ (upd H T (.tup [x, y])) (.tup [d, e]) (.ref T) :=
  ⟨new_ex ok hT, new_ok ok hT, new_tup ok hT (.cons r1 (.cons r2 .nil))⟩
theorem itd_enumT {S : Pl} {μ : Mu} {H : Hp} {d : D} {a : Addr} {t : Itm} (r : Rep K S μ H d (.ref a)) (hk : kdOk .T d = true) (ht : itsOf μ d = some t) : ItD K dk (IteT K a) S μ H ⟨enumD 0 t.xs, t.inv⟩ where
  go := fun ex ok hv hi => by
    obtain ⟨vs, ⟨b, e, h1⟩, h2⟩ := kd_at r hk ht ex ok hv
    cases e
    have hi : _ < (enumD 0 t.xs).length := hi
    rw [enumD_len, h2.len] at hi
    exact ⟨vs, vs[_]'hi, h1, List.getElem?_eq_getElem _⟩
  stop := fun ex ok hv hi => by
    obtain ⟨vs, ⟨b, e, h1⟩, h2⟩ := kd_at r hk ht ex ok hv
    cases e
    have hi : _ = (enumD 0 t.xs).length := hi
    rw [enumD_len, h2.len] at hi
    exact ⟨vs, h1, Nat.le_of_eq hi.symm⟩
  yld := fun {i S' μ' H' e x H''} ex ok hv hd hy => by
    obtain ⟨vs, ⟨b, e, h1⟩, h2⟩ := kd_at r hk ht ex ok hv
    cases e
    obtain ⟨T, y, rfl, nT, rfl, hy⟩ := hy
    have hd : (enumD 0 t.xs)[i]? = some e := hd
    rw [enumD_get] at hd
    obtain ⟨z, hz, rfl⟩ := map_inv hd
    obtain ⟨v, h3, h4⟩ := h2.get hz
    have := hy vs h1
    rw [h3] at this
    cases this
    rw [Nat.zero_add]
    exact pair_new ok nT (.int _) h4
theorem itd_enumL {S : Pl} {μ : Mu} {H : Hp} {d : D} {a : Addr} {t : Itm} (r : Rep K S μ H d (.ref a)) (hk : kdOk .L d = true) (ht : itsOf μ d = some t) : ItD K dk (Ite K a) S μ H ⟨enumD 0 t.xs, t.inv⟩ where
  go := fun ex ok hv hi => by
    obtain ⟨vs, ⟨b, e, h1⟩, h2⟩ := kd_at r hk ht ex ok hv
    cases e
    have hi : _ < (enumD 0 t.xs).length := hi
    rw [enumD_len, h2.len] at hi
    exact ⟨vs, vs[_]'hi, h1, List.getElem?_eq_getElem _⟩
  stop := fun ex ok hv hi => by
    obtain ⟨vs, ⟨b, e, h1⟩, h2⟩ := kd_at r hk ht ex ok hv
    cases e
    have hi : _ = (enumD 0 t.xs).length := hi
    rw [enumD_len, h2.len] at hi
    exact ⟨vs, h1, Nat.le_of_eq hi.symm⟩
  yld := fun {i S' μ' H' e x H''} ex ok hv hd hy => by
    obtain ⟨vs, ⟨b, e, h1⟩, h2⟩ := kd_at r hk ht ex ok hv
    cases e
    obtain ⟨T, y, rfl, nT, rfl, hy⟩ := hy
    have hd : (enumD 0 t.xs)[i]? = some e := hd
    rw [enumD_get] at hd
    obtain ⟨z, hz, rfl⟩ := map_inv hd
    obtain ⟨v, h3, h4⟩ := h2.get hz
    have := hy vs h1
    rw [h3] at this
    cases this
    rw [Nat.zero_add]
    exact pair_new ok nT (.int _) h4
def gIts (k : Kd) (g : Itm → Itm) : List D → W Itm
  | [d] => W.rd fun μ => W.bnd (W.opt (itsOf μ d)) fun t => W.chk (kdOk k d = true) (W.ret (g t))
  | _ => W.fail
def gEnum (t : Itm) : Itm := ⟨enumD 0 t.xs, t.inv⟩
def zipD (xs ys : List D) : List D := List.zipWith (fun x y => .tup [x, y]) xs ys
def gZip (k1 k2 : Kd) : List D → W Itm
  | [d, e] => W.rd fun μ => W.bnd (W.opt (itsOf μ d)) fun t => W.bnd (W.opt (itsOf μ e)) fun u => W.chk (kdOk k1 d = true ∧ kdOk k2 e = true) (W.ret ⟨zipD t.xs u.xs, fun μ => t.inv μ ∧ u.inv μ⟩)
  | _ => W.fail
theorem zipD_get {xs ys : List D} {i : Nat} {d : D} (h : (zipD xs ys)[i]? = some d) : ∃ x y, xs[i]? = some x ∧ ys[i]? = some y ∧ d = .tup [x, y] := by
  unfold zipD at h
  rw [List.getElem?_zipWith] at h
  cases hx : xs[i]? with
  | none => rw [hx] at h; cases h
  | some x =>
    cases hy : ys[i]? with
    | none => rw [hx, hy] at h; cases h
    | some y =>
      rw [hx, hy] at h
      exact ⟨x, y, rfl, rfl, (Option.some.inj h).symm⟩
theorem zipD_len {xs ys : List D} : (zipD xs ys).length = min xs.length ys.length := by
  unfold zipD
  rw [List.length_zipWith]
theorem itd_zip {k1 k2 : Kd} {S : Pl} {μ : Mu} {H : Hp} {d e : D} {va vb : V} {t u : Itm} (r : Rep K S μ H d va) (hk : kdOk k1 d = true) (ht : itsOf μ d = some t) (r2 : Rep K S μ H e vb) (hk2 : kdOk k2 e = true) (ht2 : itsOf μ e = some u) :
    ItD K dk (ItZM K k1 k2 va vb) S μ H ⟨zipD t.xs u.xs, fun μ => t.inv μ ∧ u.inv μ⟩ where
  go := fun {i S' μ' H'} ex ok hv hi => by
    obtain ⟨vs, h1, h2⟩ := kd_at r hk ht ex ok hv.1
    obtain ⟨ws, h3, h4⟩ := kd_at r2 hk2 ht2 ex ok hv.2
    have hi : i < (zipD t.xs u.xs).length := hi
    rw [zipD_len, h2.len, h4.len] at hi
    exact ⟨vs, ws, vs[i]'(by omega), ws[i]'(by omega), h1, h3, List.getElem?_eq_getElem _, List.getElem?_eq_getElem _⟩
  stop := fun {i S' μ' H'} ex ok hv hi => by
    obtain ⟨vs, h1, h2⟩ := kd_at r hk ht ex ok hv.1
    obtain ⟨ws, h3, h4⟩ := kd_at r2 hk2 ht2 ex ok hv.2
    have hi : i = (zipD t.xs u.xs).length := hi
    rw [zipD_len, h2.len, h4.len] at hi
    exact ⟨vs, ws, h1, h3, by omega, by omega, by omega⟩
  yld := fun {i S' μ' H' g x H''} ex ok hv hd hy => by
    obtain ⟨vs, h1, h2⟩ := kd_at r hk ht ex ok hv.1
    obtain ⟨ws, h3, h4⟩ := kd_at r2 hk2 ht2 ex ok hv.2
    obtain ⟨T, p, q, rfl, nT, rfl, hp, hq⟩ := hy
    obtain ⟨y, z, hy, hz, rfl⟩ := zipD_get hd
    obtain ⟨v, h5, h6⟩ := h2.get hy
    obtain ⟨w, h7, h8⟩ := h4.get hz
    have e1 := hp vs h1
    rw [h5] at e1
    cases e1
    have e2 := hq ws h3
    rw [h7] at e2
    cases e2
    exact pair_new ok nT h6 h8
end
section
variable {X : Cx} {dk : DK} {c : LC X.K dk} {fs : DS → W (List D)} {elts : List Expr} {kk : Nat} {p pos tpos : Pos} {e e2 : Expr}
theorem gIts_run {k : Kd} {g : Itm → Itm} {ds : List D} {Q : Itm → Mu → Prop} {E : Exn → Mu → Prop} {μ : Mu} (h : (gIts k g ds).run Q E μ) : ∃ d t, ds = [d] ∧ itsOf μ d = some t ∧ kdOk k d = true ∧ Q (g t) μ := by
  unfold gIts at h
  split at h
  · next d =>
    have h : ((W.opt (itsOf μ d)).bnd fun t => W.chk (kdOk k d = true) (W.ret (g t))).run Q E μ := h
    cases ht : itsOf μ d with
    | none => rw [ht] at h; exact h.elim
    | some t => rw [ht] at h; exact ⟨d, t, rfl, ht, h.1, h.2⟩
  · exact h.elim
theorem kd_ref {K : PySem.W.Frag} {S : Pl} {μ : Mu} {H : Hp} {k : Kd} {d : D} {v : V} (r : Rep K S μ H d v) (hk : kdOk k d = true) (h : k ≠ .S) : ∃ a, v = .ref a := by
  cases r <;> first | exact ⟨_, rfl⟩ | (cases k <;> first | (cases hk; done) | exact absurd rfl h)
theorem di_enumT (hg : Gl X "enumerate") (hm : X.mg "enumerate" = none) (ha : PA X [e] (lowA X.K dk c fs)) (hs : starEach [e] X.env = [(false, eval e X.env)] := by rfl) :
    PI X (.Tuple elts kk tpos) (.Call (.Name "enumerate" p) [e] [] pos) (lowI X.K dk c (iOf (gIts .T gEnum) fs)) := pi_w (pi_enumT hg hm ha hs) fun σ H R ⟨ε, S, μ, lk, ok, rs, run⟩ => by
  refine ⟨ε, S, μ, lk, ok, rs, W.up run fun ds μ1 run1 xs S1 H1 ex1 ok1 rep1 => ?_⟩
  obtain ⟨d, t, rfl, ht, hk, q⟩ := gIts_run run1
  cases rep1 with
  | cons r tl =>
    cases tl
    obtain ⟨a, rfl⟩ := kd_ref r hk (fun z => by cases z)
    have inv : t.inv μ1 := by
      cases d <;> first | (cases hk; done) | (cases ht; exact True.intro)
    obtain ⟨vs, ⟨b, e, h1⟩, h2⟩ := kd_at r hk ht (Ex.refl.ux) ok1 inv
    cases e
    exact ⟨a, vs, rfl, h1, q _ S1 H1 ex1 ok1 (itd_enumT r hk ht)⟩
theorem di_enumL (hg : Gl X "enumerate") (hm : X.mg "enumerate" = none) (ha : PA X [e] (lowA X.K dk c fs)) (hs : starEach [e] X.env = [(false, eval e X.env)] := by rfl) :
    PI X (.Tuple elts kk tpos) (.Call (.Name "enumerate" p) [e] [] pos) (lowI X.K dk c (iOf (gIts .L gEnum) fs)) := pi_w (pi_enum hg hm ha hs) fun σ H R ⟨ε, S, μ, lk, ok, rs, run⟩ => by
  refine ⟨ε, S, μ, lk, ok, rs, W.up run fun ds μ1 run1 xs S1 H1 ex1 ok1 rep1 => ?_⟩
  obtain ⟨d, t, rfl, ht, hk, q⟩ := gIts_run run1
  cases rep1 with
  | cons r tl =>
    cases tl
    obtain ⟨a, rfl⟩ := kd_ref r hk (fun z => by cases z)
    have inv : t.inv μ1 := by
      cases d <;> first | (cases hk; done) | (cases ht; exact True.intro) | (obtain ⟨xs, h1, rfl⟩ := itsOf_ref ht; exact h1)
    obtain ⟨vs, ⟨b, e, h1⟩, h2⟩ := kd_at r hk ht (Ex.refl.ux) ok1 inv
    cases e
    exact ⟨a, vs, rfl, h1, q _ S1 H1 ex1 ok1 (itd_enumL r hk ht)⟩
theorem itsOf_inv {μ : Mu} {d : D} {t : Itm} (ht : itsOf μ d = some t) : t.inv μ := by
  cases d <;> first | (cases ht; done) | (cases ht; exact True.intro) | (obtain ⟨xs, h1, rfl⟩ := itsOf_ref ht; exact h1)
theorem di_zip {k1 k2 : Kd} (hg : Gl X "zip") (hm : X.mg "zip" = none) (ha : PA X [e, e2] (lowA X.K dk c fs))
    (hs : starEach [e, e2] X.env = (false, eval e X.env) :: starEach [e2] X.env := by rfl) (hpl : (backTo pos (starEach [e2] X.env)).any (·.1) = false := by rfl) :
    PI X (.Tuple elts kk tpos) (.Call (.Name "zip" p) [e, e2] [] pos) (lowI X.K dk c (iOf (gZip k1 k2) fs)) := pi_w (X16.pi_zipM (k1 := k1) (k2 := k2) hg hm ha hs hpl) fun σ H R ⟨ε, S, μ, lk, ok, rs, run⟩ => by
  refine ⟨ε, S, μ, lk, ok, rs, W.up run fun ds μ1 run1 xs S1 H1 ex1 ok1 rep1 => ?_⟩
  unfold gZip at run1
  split at run1
  · next d d2 =>
    cases rep1 with
    | cons r tl =>
      cases tl with
      | cons r2 tl =>
        cases tl
        have run1 : ((W.opt (itsOf μ1 d)).bnd fun t => W.bnd (W.opt (itsOf μ1 d2)) fun u => W.chk (kdOk k1 d = true ∧ kdOk k2 d2 = true) (W.ret (Itm.mk (zipD t.xs u.xs) fun μ => t.inv μ ∧ u.inv μ))).run
          (fun t μ' => ∀ J S' H', Ex S μ H S' μ' H' → Ok X.K dk.p S' μ' H' → ItD X.K dk J S' μ' H' t → R J H') c.E μ1 := run1
        cases ht : itsOf μ1 d with
        | none => rw [ht] at run1; exact run1.elim
        | some t =>
          rw [ht] at run1
          have run1 : ((W.opt (itsOf μ1 d2)).bnd fun u => W.chk (kdOk k1 d = true ∧ kdOk k2 d2 = true) (W.ret (Itm.mk (zipD t.xs u.xs) fun μ => t.inv μ ∧ u.inv μ))).run
            (fun t μ' => ∀ J S' H', Ex S μ H S' μ' H' → Ok X.K dk.p S' μ' H' → ItD X.K dk J S' μ' H' t → R J H') c.E μ1 := run1
          cases ht2 : itsOf μ1 d2 with
          | none => rw [ht2] at run1; exact run1.elim
          | some u =>
            rw [ht2] at run1
            obtain ⟨⟨hk, hk2⟩, q⟩ := run1
            obtain ⟨vs, h1, h2⟩ := kd_at r hk ht (Ex.refl.ux) ok1 (itsOf_inv ht)
            obtain ⟨ws, h3, h4⟩ := kd_at r2 hk2 ht2 (Ex.refl.ux) ok1 (itsOf_inv ht2)
            exact ⟨_, _, vs, ws, rfl, h1, h3, q _ S1 H1 ex1 ok1 (itd_zip r hk ht r2 hk2 ht2)⟩
  · exact run1.elim
end
end DL

namespace DL
open PySem PySem.Spec PyProof.Rows L2 Kit

/-! ### dicts -/
noncomputable instance decD : DecidableEq D := Classical.typeDecidableEq D
noncomputable def dval (ks : List (D × D)) (k : D) : Option D := (ks.find? fun p => decide (p.1 = k)).map (·.2)
noncomputable def dputL (ks : List (D × D)) (k v : D) : List (D × D) :=
  if (ks.any fun p => decide (p.1 = k)) = true then ks.map (fun p => if p.1 = k then (p.1, v) else p) else ks ++ [(k, v)]
theorem dkK_inj {a b : D} {q : Key} (h1 : dkK a = some q) (h2 : dkK b = some q) : a = b := by
  cases a <;> first | (cases h1; done) | (cases h1; cases b <;> first | (cases h2; done) | (cases h2; rfl))
theorem dkL_inj : ∀ {a b : List D} {q : List Key}, dkL a = some q → dkL b = some q → a = b
  | [], [], _, _, _ => rfl
  | [], y :: ys, q, h1, h2 => by
    cases h1
    rw [dkL] at h2
    obtain ⟨k, _, h⟩ := bind_inv h2
    obtain ⟨ks, _, h⟩ := map_inv h
    cases h
  | x :: xs, [], q, h1, h2 => by
    cases h2
    rw [dkL] at h1
    obtain ⟨k, _, h⟩ := bind_inv h1
    obtain ⟨ks, _, h⟩ := map_inv h
    cases h
  | x :: xs, y :: ys, q, h1, h2 => by
    rw [dkL] at h1 h2
    obtain ⟨k, e1, h⟩ := bind_inv h1
    obtain ⟨ks, e2, h⟩ := map_inv h
    cases h
    obtain ⟨k', e3, h⟩ := bind_inv h2
    obtain ⟨ks', e4, h⟩ := map_inv h
    cases h
    rw [dkK_inj e1 e3, dkL_inj e2 e4]
theorem dkT_inj {a b : D} {q : List Key} (h1 : dkT a = some q) (h2 : dkT b = some q) : a = b := by
  cases a <;> first | (cases h1; done) | skip
  cases b <;> first | (cases h2; done) | skip
  rw [dkL_inj (show dkL _ = some q from h1) (show dkL _ = some q from h2)]
section
variable {K : PySem.W.Frag} {dk : DK} {S : Pl} {μ : Mu} {H : Hp}
theorem repK_val {k : D} {q : Key} (hk : IsKey k q) : ∀ {ks : List (D × D)} {kvs : List (Key × V)}, RepK K S μ H ks kvs → (∀ d, dval ks k = some d → ∃ v, valV kvs q = some v ∧ Rep K S μ H d v) ∧ (dval ks k = none → valV kvs q = none)
  | _, _, .nil => ⟨fun d h => (by cases h), fun _ => rfl⟩
  | _, _, @RepK.cons _ _ _ _ k1 d1 q1 v1 ds vs hk1 r t => by
    have ih := repK_val hk t
    by_cases e : k1 = k
    · subst e
      have e2 : q1 = q := Option.some.inj (hk1.symm.trans hk)
      subst e2
      have a : dval ((k1, d1) :: ds) k1 = some d1 := by simp [dval, List.find?_cons]
      have b : valV ((q1, v1) :: vs) q1 = some v1 := valV_pos rfl
      rw [a, b]
      exact ⟨fun d h => by cases h; exact ⟨v1, rfl, r⟩, fun h => by cases h⟩
    · have e2 : ¬ q1 = q := fun z => e (dkK_inj (z ▸ hk1) hk)
      have a : dval ((k1, d1) :: ds) k = dval ds k := by simp [dval, List.find?_cons, e]
      have b : valV ((q1, v1) :: vs) q = valV vs q := valV_neg e2
      rw [a, b]
      exact ih
theorem repT_val {k : D} {q : List Key} (hk : IsKeyT k q) : ∀ {ks : List (D × D)} {kvs : List (List Key × V)}, RepT K S μ H ks kvs → (∀ d, dval ks k = some d → ∃ v, valV kvs q = some v ∧ Rep K S μ H d v) ∧ (dval ks k = none → valV kvs q = none)
  | _, _, .nil => ⟨fun d h => (by cases h), fun _ => rfl⟩
  | _, _, @RepT.cons _ _ _ _ k1 d1 q1 v1 ds vs hk1 r t => by
    have ih := repT_val hk t
    by_cases e : k1 = k
    · subst e
      have e2 : q1 = q := Option.some.inj (hk1.symm.trans hk)
      subst e2
      have a : dval ((k1, d1) :: ds) k1 = some d1 := by simp [dval, List.find?_cons]
      have b : valV ((q1, v1) :: vs) q1 = some v1 := valV_pos rfl
      rw [a, b]
      exact ⟨fun d h => by cases h; exact ⟨v1, rfl, r⟩, fun h => by cases h⟩
    · have e2 : ¬ q1 = q := fun z => e (dkT_inj (z ▸ hk1) hk)
      have a : dval ((k1, d1) :: ds) k = dval ds k := by simp [dval, List.find?_cons, e]
      have b : valV ((q1, v1) :: vs) q = valV vs q := valV_neg e2
      rw [a, b]
      exact ih
theorem repK_any {k : D} {q : Key} (hk : IsKey k q) : ∀ {ks : List (D × D)} {kvs : List (Key × V)}, RepK K S μ H ks kvs → (ks.any fun p => decide (p.1 = k)) = kvs.any fun p => decide (p.1 = q)
  | _, _, .nil => rfl
  | _, _, @RepK.cons _ _ _ _ k1 d1 q1 v1 ds vs hk1 r t => by
    rw [List.any_cons, List.any_cons, repK_any hk t]
    congr 1
    by_cases e : k1 = k
    · subst e
      have e2 : q1 = q := Option.some.inj (hk1.symm.trans hk)
      simp [e2]
    · have e2 : ¬ q1 = q := fun z => e (dkK_inj (z ▸ hk1) hk)
      simp [e, e2]
theorem repK_map {k : D} {q : Key} {d : D} {v : V} (hk : IsKey k q) (rd : Rep K S μ H d v) : ∀ {ks : List (D × D)} {kvs : List (Key × V)}, RepK K S μ H ks kvs → RepK K S μ H (ks.map fun p => if p.1 = k then (p.1, d) else p) (kvs.map fun p => if p.1 = q then (p.1, v) else p)
  | _, _, .nil => .nil
  | _, _, @RepK.cons _ _ _ _ k1 d1 q1 v1 ds vs hk1 r t => by
    rw [List.map_cons, List.map_cons]
    have ih := repK_map hk rd t
    by_cases e : k1 = k
    · subst e
      have e2 : q1 = q := Option.some.inj (hk1.symm.trans hk)
      rw [if_pos rfl, if_pos e2]
      exact .cons hk1 rd ih
    · have e2 : ¬ q1 = q := fun z => e (dkK_inj (z ▸ hk1) hk)
      rw [if_neg e, if_neg e2]
      exact .cons hk1 r ih
theorem repK_app {k : D} {q : Key} {d : D} {v : V} (hk : IsKey k q) (rd : Rep K S μ H d v) : ∀ {ks : List (D × D)} {kvs : List (Key × V)}, RepK K S μ H ks kvs → RepK K S μ H (ks ++ [(k, d)]) (kvs ++ [(q, v)])
  | _, _, .nil => .cons hk rd .nil
  | _, _, .cons hk1 r t => .cons hk1 r (repK_app hk rd t)
theorem repK_put {k : D} {q : Key} {d : D} {v : V} (hk : IsKey k q) (rd : Rep K S μ H d v) {ks : List (D × D)} {kvs : List (Key × V)} (r : RepK K S μ H ks kvs) : RepK K S μ H (dputL ks k d) (putK kvs q v) := by
  unfold dputL putK
  rw [repK_any hk r]
  split
  · exact repK_map hk rd r
  · exact repK_app hk rd r
theorem repK_len : ∀ {ks : List (D × D)} {kvs : List (Key × V)}, RepK K S μ H ks kvs → ks.length = kvs.length
  | _, _, .nil => rfl
  | _, _, .cons _ _ t => by rw [List.length_cons, List.length_cons, repK_len t]
theorem repT_any {k : D} {q : List Key} (hk : IsKeyT k q) : ∀ {ks : List (D × D)} {kvs : List (List Key × V)}, RepT K S μ H ks kvs → (ks.any fun p => decide (p.1 = k)) = kvs.any fun p => decide (p.1 = q)
  | _, _, .nil => rfl
  | _, _, @RepT.cons _ _ _ _ k1 d1 q1 v1 ds vs hk1 r t => by
    rw [List.any_cons, List.any_cons, repT_any hk t]
    congr 1
    by_cases e : k1 = k
    · subst e
      have e2 : q1 = q := Option.some.inj (hk1.symm.trans hk)
      simp [e2]
    · have e2 : ¬ q1 = q := fun z => e (dkT_inj (z ▸ hk1) hk)
      simp [e, e2]
theorem repT_map {k : D} {q : List Key} {d : D} {v : V} (hk : IsKeyT k q) (rd : Rep K S μ H d v) : ∀ {ks : List (D × D)} {kvs : List (List Key × V)}, RepT K S μ H ks kvs → RepT K S μ H (ks.map fun p => if p.1 = k then (p.1, d) else p) (kvs.map fun p => if p.1 = q then (p.1, v) else p)
  | _, _, .nil => .nil
  | _, _, @RepT.cons _ _ _ _ k1 d1 q1 v1 ds vs hk1 r t => by
    rw [List.map_cons, List.map_cons]
    have ih := repT_map hk rd t
    by_cases e : k1 = k
    · subst e
      have e2 : q1 = q := Option.some.inj (hk1.symm.trans hk)
      rw [if_pos rfl, if_pos e2]
      exact .cons hk1 rd ih
    · have e2 : ¬ q1 = q := fun z => e (dkT_inj (z ▸ hk1) hk)
      rw [if_neg e, if_neg e2]
      exact .cons hk1 r ih
theorem repT_app {k : D} {q : List Key} {d : D} {v : V} (hk : IsKeyT k q) (rd : Rep K S μ H d v) : ∀ {ks : List (D × D)} {kvs : List (List Key × V)}, RepT K S μ H ks kvs → RepT K S μ H (ks ++ [(k, d)]) (kvs ++ [(q, v)])
  | _, _, .nil => .cons hk rd .nil
  | _, _, .cons hk1 r t => .cons hk1 r (repT_app hk rd t)
theorem repT_put {k : D} {q : List Key} {d : D} {v : V} (hk : IsKeyT k q) (rd : Rep K S μ H d v) {ks : List (D × D)} {kvs : List (List Key × V)} (r : RepT K S μ H ks kvs) : RepT K S μ H (dputL ks k d) (putK kvs q v) := by
  unfold dputL putK
  rw [repT_any hk r]
  split
  · exact repT_map hk rd r
  · exact repT_app hk rd r
theorem repT_len : ∀ {ks : List (D × D)} {kvs : List (List Key × V)}, RepT K S μ H ks kvs → ks.length = kvs.length
  | _, _, .nil => rfl
  | _, _, .cons _ _ t => by rw [List.length_cons, List.length_cons, repT_len t]
theorem key_rep {d : D} {v : V} {q : Key} (r : Rep K S μ H d v) (h : dkK d = some q) : v = kV q := by
  cases r <;> first | (cases h; done) | (cases h; rfl)
theorem keys_rep : ∀ {ds : List D} {vs : List V} {q : List Key}, RepA K S μ H ds vs → dkL ds = some q → vs = q.map kV
  | _, _, _, .nil, h => by cases h; rfl
  | _, _, _, .cons r t, h => by
    rw [dkL] at h
    obtain ⟨k, h1, h⟩ := bind_inv h
    obtain ⟨ks, h2, h⟩ := map_inv h
    cases h
    rw [key_rep r h1, keys_rep t h2]
    rfl
theorem keyT_rep {d : D} {v : V} {q : List Key} (r : Rep K S μ H d v) (h : dkT d = some q) : ∃ b, v = .ref b ∧ H b = some (.tup (q.map kV)) := by
  cases r <;> first | (cases h; done) | skip
  case tup xs a vs h1 r => exact ⟨a, rfl, by rw [← keys_rep r h]; exact h1.1⟩
end
/-- what a dict holds at a key; whether the key is one -/
noncomputable def dfind (ks : List (D × D)) (k : D) : Option D := dval ks k
def okKey (t : Bool) (k : D) : Bool := if t = true then (dkT k).isSome else (dkK k).isSome
def asDct : D → W (Bool × List (D × D))
  | .dct t ks => W.ret (t, ks)
  | _ => W.fail
noncomputable def gGet (d k : D) : W D := W.bnd (see d) fun d => W.bnd (asDct d) fun p => W.chk (okKey p.1 k = true) (W.opt (dval p.2 k))
noncomputable def dGet (f g : DS → W D) : DS → W D := fun ε => W.bnd (f ε) fun d => W.bnd (g ε) fun k => gGet d k
noncomputable def gHas (neg : Bool) (k d : D) : W D := W.bnd (see d) fun d => W.bnd (asDct d) fun p => W.chk (okKey p.1 k = true) (W.ret (.bl (if neg then !(dval p.2 k).isSome else (dval p.2 k).isSome)))
section
variable {K : PySem.W.Frag} {dk : DK} {S : Pl} {μ : Mu} {H : Hp}
theorem dct_get {d k : D} {x y : V} {t : Bool} {ks : List (D × D)} (rd : Vw K S μ H (.dct t ks) x) (rk : Rep K S μ H k y) (ok : okKey t k = true) :
    ∃ a o, x = .ref a ∧ DGet H a y o ∧ (∀ d, dval ks k = some d → ∃ v, o = some v ∧ Rep K S μ H d v) ∧ (dval ks k = none → o = none) := by
  cases t with
  | false =>
    obtain ⟨a, kvs, rfl, h1, h2⟩ := rd
    obtain ⟨q, hq⟩ := Option.isSome_iff_exists.mp ok
    obtain ⟨p1, p2⟩ := repK_val hq h2
    exact ⟨a, valV kvs q, rfl, .inl ⟨kvs, q, .inl h1, key_rep rk hq, rfl⟩, p1, p2⟩
  | true =>
    obtain ⟨a, kvs, rfl, h1, h2⟩ := rd
    obtain ⟨q, hq⟩ := Option.isSome_iff_exists.mp ok
    obtain ⟨p1, p2⟩ := repT_val hq h2
    obtain ⟨b, rfl, hb⟩ := keyT_rep rk hq
    exact ⟨a, valV kvs q, rfl, .inr ⟨kvs, q, b, .inl h1, rfl, hb, rfl⟩, p1, p2⟩
end
section
variable {X : Cx} {dk : DK} {c : LC X.K dk} {f g fv : DS → W D} {o i value : Expr} {pos pos' : Pos}
theorem de_dget (hu : X.A.units + 1 < cLine) (ho : PE X o (lowE X.K dk c f)) (hi : PE X i (lowE X.K dk c g)) (hs : NoSl i) : PE X (.Subscript o i pos) (lowE X.K dk c (dGet f g)) :=
  pe_w (pe_dget hu ho hi hs) fun σ H Q ⟨ε, S, μ, lk, ok, rs, run⟩ => by
    refine ⟨ε, S, μ, lk, ok, rs, W.up run fun d μ1 run1 x S1 H1 ex1 ok1 rep1 => ?_⟩
    refine ⟨ε, S1, μ1, c.up lk ex1, ok1, rs.ex ex1, W.up run1 fun k μ2 run2 y S2 H2 ex2 ok2 rep2 => ?_⟩
    obtain ⟨d', vw, q⟩ := see_vw ok2 (rep1.ex ex2) (Q := fun d μ' => (W.bnd (asDct d) fun p => W.chk (okKey p.1 k = true) (W.opt (dval p.2 k))).run (Post X.K dk S μ H Q) c.E μ') run2
    cases d' with
    | dct t ks =>
      obtain ⟨hk, q⟩ := (q : okKey t k = true ∧ (W.opt (dval ks k)).run (Post X.K dk S μ H Q) c.E μ2)
      obtain ⟨a, w, rfl, dg, p1, p2⟩ := dct_get (d := d) vw rep2 hk
      cases hv : dval ks k with
      | none => rw [hv] at q; exact q.elim
      | some z =>
        rw [hv] at q
        obtain ⟨v, rfl, rv⟩ := p1 z hv
        exact ⟨a, v, rfl, dg, q v S2 H2 (ex1.trans ex2) ok2 rv⟩
    | _ => exact q.elim
theorem o_dhas {neg : Bool} (hu : X.A.units + 1 < cLine) : OpR X (if neg then compareOp .NotIn else compareOp .In) (fun y x H Q => ∃ a o, x = .ref a ∧ DGet H a y o ∧ Q (.bl (if neg then !o.isSome else o.isSome)) H) := by
  intro pins s σ H y x v u Q I ry rx h
  obtain ⟨a, o, rfl, dg, q⟩ := h
  obtain rfl : u = Value.ref a := rx
  cases neg with
  | false => exact d_in hu I dg ry fun s' I' => ⟨.bl o.isSome, H, I', rfl, q⟩
  | true => exact d_notIn hu I dg ry fun s' I' => ⟨.bl (!o.isSome), H, I', rfl, q⟩
theorem l_dhas {K : PySem.W.Frag} {neg : Bool} : LR2 K dk (fun y x H Q => ∃ a o, x = .ref a ∧ DGet H a y o ∧ Q (.bl (if neg then !o.isSome else o.isSome)) H) (gHas neg) := fun {y x dy dx S μ H Q E} ok ry rx q => by
  obtain ⟨d', vw, q⟩ := see_vw ok rx (Q := fun d μ' => (W.bnd (asDct d) fun p => W.chk (okKey p.1 dy = true) (W.ret (D.bl (if neg = true then !(dval p.2 dy).isSome else (dval p.2 dy).isSome)))).run (Post K dk S μ H Q) E μ') q
  cases d' with
  | dct t ks =>
    obtain ⟨hk, q⟩ := (q : okKey t dy = true ∧ Post K dk S μ H Q (.bl (if neg then !(dval ks dy).isSome else (dval ks dy).isSome)) μ)
    obtain ⟨a, w, rfl, dg, p1, p2⟩ := dct_get (d := dx) vw ry hk
    refine ⟨a, w, rfl, dg, ?_⟩
    have e : w.isSome = (dval ks dy).isSome := by
      cases hv : dval ks dy with
      | none =>
        rw [p2 hv]
        rfl
      | some z =>
        obtain ⟨v, rfl, _⟩ := p1 z hv
        rfl
    rw [e]
    exact q _ S H Ex.refl ok (.bl _)
  | _ => exact q.elim
/-- {}: a new dict that changes; t: its keys are tuples -/
def dNew (t : Bool) : DS → W D := fun _ => alloc (.dct t [])
theorem de_dnew (t : Bool) : PE X (.Dict [] [] pos) (lowE X.K dk c (dNew t)) := by
  cases t with
  | false =>
    refine pe_w pe_dnewK fun σ H Q ⟨ε, S, μ, lk, ok, rs, run⟩ p hp => ?_
    have ex := add_ex (o := .dK []) (m := .dct false []) ok hp
    refine run (.ref p) (S.add p) _ ex (add_ok ok hp ⟨[], upd_same, .nil⟩) (.ref ?_)
    show (S.L ++ [p])[μ.length]? = _
    rw [← ok.len, List.getElem?_append_right (Nat.le_refl _), Nat.sub_self]
    rfl
  | true =>
    refine pe_w pe_dnewT fun σ H Q ⟨ε, S, μ, lk, ok, rs, run⟩ p hp => ?_
    have ex := add_ex (o := .dT []) (m := .dct true []) ok hp
    refine run (.ref p) (S.add p) _ ex (add_ok ok hp ⟨[], upd_same, .nil⟩) (.ref ?_)
    show (S.L ++ [p])[μ.length]? = _
    rw [← ok.len, List.getElem?_append_right (Nat.le_refl _), Nat.sub_self]
    rfl
/-- d[k] = v -/
noncomputable def gPut (d k v : D) : W Unit := match d with
  | .ref n => W.rd fun μ => match μ[n]? with
    | some (.dct t ks) => W.chk (okKey t k = true ∧ ks.length < sizeLine) (W.wr (fun μ => μ.set n (.dct t (dputL ks k v))) (W.ret ()))
    | _ => W.fail
  | _ => W.fail
noncomputable def sPut (f g fv : DS → W D) : DS → W Fl := fun ε => W.bnd (fv ε) fun v => W.bnd (f ε) fun d => W.bnd (g ε) fun k => W.bnd (gPut d k v) fun _ => W.ret (.nx ε)
theorem gPut_run {d k v : D} {Q : Unit → Mu → Prop} {E : Exn → Mu → Prop} {μ : Mu} (h : (gPut d k v).run Q E μ) : ∃ n t ks, d = .ref n ∧ μ[n]? = some (.dct t ks) ∧ okKey t k = true ∧ ks.length < sizeLine ∧ Q () (μ.set n (.dct t (dputL ks k v))) := by
  cases d with
  | ref n =>
    have h : (match μ[n]? with
      | some (.dct t ks) => W.chk (okKey t k = true ∧ ks.length < sizeLine) (W.wr (fun μ => μ.set n (.dct t (dputL ks k v))) (W.ret ()))
      | _ => W.fail).run Q E μ := h
    cases e : μ[n]? with
    | none => rw [e] at h; exact h.elim
    | some m =>
      rw [e] at h
      cases m with
      | dct t ks => exact ⟨n, t, ks, rfl, e, h.1.1, h.1.2, h.2⟩
      | _ => exact h.elim
  | _ => exact h.elim
theorem ds_put (hu : X.A.units + 1 < cLine) (ho : PE X o (lowE X.K dk c f)) (hi : PE X i (lowE X.K dk c g)) (hv : PE X value (lowE X.K dk c fv)) (hs : swapsWith value (some (.Subscript o i pos')) pos.line X.env = pure false := by rfl) :
    PS X (.Assign [.Subscript o i pos'] value pos) (lowS X.K dk c (sPut f g fv)) := ps_w (ps_dput hu ho hi hv hs) fun Dn σ H ⟨ε, S, μ, lk, ok, rs, run⟩ => by
  refine ⟨ε, S, μ, lk, ok, rs, W.up run fun dv μ1 run1 v S1 H1 ex1 ok1 rep1 => ?_⟩
  refine ⟨ε, S1, μ1, c.up lk ex1, ok1, rs.ex ex1, W.up run1 fun d μ2 run2 x S2 H2 ex2 ok2 rep2 => ?_⟩
  have x2 := ex1.trans ex2
  refine ⟨ε, S2, μ2, c.up lk x2, ok2, rs.ex x2, W.up run2 fun k μ3 run3 y S3 H3 ex3 ok3 rep3 => ?_⟩
  obtain ⟨n, t, ks, rfl, h0, hk, hl, q⟩ := gPut_run run3
  cases rep2.ex ex3 with
  | @ref _ a ha =>
    have ng : MO.dct t ks ≠ .gone := fun z => by cases z
    have rv := (rep1.ex ex2).ex ex3
    have x3 := x2.trans ex3
    cases t with
    | false =>
      obtain ⟨kvs, h1, h2⟩ := ok3.at_ n _ _ h0 ha
      obtain ⟨w, hw⟩ := Option.isSome_iff_exists.mp hk
      have ex := set_ex (o := .dK (putK kvs w v)) (m' := .dct false (dputL ks k dv)) ok3 ha h0 ng
      refine ⟨a, _, rfl, .inl ⟨kvs, w, h1, key_rep rep3 hw, by rw [← repK_len h2]; exact hl, rfl⟩, ?_⟩
      exact q σ S3 _ (x3.trans ex) (set_ok ok3 ha h0 ng (fun z => by cases z) ⟨_, upd_same, repK_put hw (rv.ex ex) (h2.ex ex)⟩) (rs.ex (x3.trans ex))
    | true =>
      obtain ⟨kvs, h1, h2⟩ := ok3.at_ n _ _ h0 ha
      obtain ⟨w, hw⟩ := Option.isSome_iff_exists.mp hk
      obtain ⟨b, rfl, hb⟩ := keyT_rep rep3 hw
      have ex := set_ex (o := .dT (putK kvs w v)) (m' := .dct true (dputL ks k dv)) ok3 ha h0 ng
      refine ⟨a, _, rfl, .inr ⟨kvs, w, b, h1, rfl, hb, by rw [← repT_len h2]; exact hl, rfl⟩, ?_⟩
      exact q σ S3 _ (x3.trans ex) (set_ok ok3 ha h0 ng (fun z => by cases z) ⟨_, upd_same, repT_put hw (rv.ex ex) (h2.ex ex)⟩) (rs.ex (x3.trans ex))
end
end DL

namespace DL
open PySem PySem.Spec PyProof.Rows L2 Kit

section
variable {X : Cx} {dk : DK} {c : LC X.K dk} {e o : Expr} {es : List Expr} {f g : DS → W D} {fs : DS → W (List D)} {pos p apos : Pos}
theorem dv (i : Nat) {x : Str} (hN : X.N[i]? = some x := by rfl) (hv : Vis X.env.scope x := by first | exact Or.inl rfl | exact Or.inr (Or.inl rfl) | exact Or.inr (Or.inr rfl)) (hd : (x == ("__debug__" : Str)) = false := by decide)
    (hcd : (x == ("__classdict__" : Str)) = false := by decide) : PE X (.Name x p) (lowE X.K dk c (dV i)) := de_v hN hv hd hcd
/-- a starred argument -/
def seqOf : D → W (List D)
  | .tup xs => W.ret xs
  | .ktp xs => W.ret xs
  | .lst xs => W.ret xs
  | _ => W.fail
def aStar (f : DS → W D) (g : DS → W (List D)) : DS → W (List D) := fun ε => W.bnd (f ε) fun d => W.bnd (see d) fun d => W.bnd (seqOf d) fun xs => W.bnd (g ε) fun ds => W.ret (xs ++ ds)
theorem da_star (he : PE X e (lowE X.K dk c f)) (hr : PA X es (lowA X.K dk c fs)) (hs : starEach (.Starred e p :: es) X.env = (true, eval e X.env) :: starEach es X.env := by rfl) : PA X (.Starred e p :: es) (lowA X.K dk c (aStar f fs)) :=
  pa_w (StX.pa_star he hr hs) fun σ H Q ⟨ε, S, μ, lk, ok, rs, run⟩ => by
    refine ⟨ε, S, μ, lk, ok, rs, W.up run fun d μ1 run1 x S1 H1 ex1 ok1 rep1 => ?_⟩
    obtain ⟨d', vw, q⟩ := see_vw ok1 rep1 (Q := fun d μ' => (W.bnd (seqOf d) fun xs => W.bnd (fs ε) fun ds => W.ret (xs ++ ds)).run (PostA X.K dk S μ H Q) c.E μ') run1
    have go : ∀ (xs : List D) (vs : List V), RepA X.K S1 μ1 H1 xs vs → ((fs ε).bnd fun ds => W.ret (xs ++ ds)).run (PostA X.K dk S μ H Q) c.E μ1 → lowA X.K dk c fs σ H1 fun ys H2 => Q (vs ++ ys) H2 :=
      fun xs vs r q => ⟨ε, S1, μ1, c.up lk ex1, ok1, rs.ex ex1, W.up (m := fs ε) q fun ds μ2 run2 ys S2 H2 ex2 ok2 rep2 => run2 _ S2 H2 (ex1.trans ex2) ok2 ((r.ex ex2).app rep2)⟩
    cases d' with
    | tup xs =>
      rcases vw with _ | _ | _ | _ | _ | _ | @⟨_, a, vs, hx, rx⟩
      exact ⟨a, vs, rfl, .inl hx.sq, go _ _ rx q⟩
    | ktp xs =>
      rcases vw with _ | _ | _ | _ | _ | _ | _ | _ | @⟨_, a, vs, hx, rx⟩
      exact ⟨a, vs, rfl, .inl (kt_sq hx), go _ _ rx q⟩
    | lst xs =>
      obtain ⟨a, vs, rfl, hx, rx⟩ := vw
      exact ⟨a, vs, rfl, .inr (.inl (.inl hx)), go _ _ rx q⟩
    | _ => exact q.elim
/-! ### truth -/
def truD : D → W Bool
  | .non => W.ret false
  | .bl b => W.ret b
  | .int i => W.ret (i != 0)
  | .str z => W.chk (z.length ≤ sizeLine) (W.ret ((z.length : Int) != 0))
  | .tup xs => W.ret (!xs.isEmpty)
  | .ktp xs => W.ret (!xs.isEmpty)
  | .lst xs => W.ret (!xs.isEmpty)
  | .dct false ks => W.ret (!ks.isEmpty)
  | _ => W.fail
def dTru (f : DS → W D) : DS → W Bool := fun ε => W.bnd (f ε) fun d => W.bnd (see d) truD
theorem empty_rep {K : PySem.W.Frag} {S : Pl} {μ : Mu} {H : Hp} {ds : List D} {vs : List V} (r : RepA K S μ H ds vs) : vs.isEmpty = ds.isEmpty := by
  cases r <;> rfl
theorem tru_vw {K : PySem.W.Frag} {S : Pl} {μ : Mu} {H : Hp} {d : D} {v : V} (r : Vw K S μ H d v) {Q : Bool → Mu → Prop} {E : Exn → Mu → Prop} {μ' : Mu} (q : (truD d).run Q E μ') : ∃ k, TruV K v H k ∧ Q k μ' := by
  cases d with
  | non => cases r; exact ⟨_, rfl, q⟩
  | bl b => cases r; exact ⟨_, rfl, q⟩
  | int i => cases r; exact ⟨_, rfl, q⟩
  | str z => cases r; exact ⟨_, ⟨q.1, rfl⟩, q.2⟩
  | tup xs =>
    rcases r with _ | _ | _ | _ | _ | _ | @⟨_, a, vs, hx, rx⟩
    exact ⟨_, .inr (.inl ⟨vs, hx.sq, rfl⟩), by rw [empty_rep rx]; exact q⟩
  | ktp xs =>
    rcases r with _ | _ | _ | _ | _ | _ | _ | _ | @⟨_, a, vs, hx, rx⟩
    exact ⟨_, .inr (.inl ⟨vs, kt_sq hx, rfl⟩), by rw [empty_rep rx]; exact q⟩
  | lst xs =>
    obtain ⟨a, vs, rfl, hx, rx⟩ := r
    exact ⟨_, .inl ⟨vs, .inl (.inl hx), rfl⟩, by rw [empty_rep rx]; exact q⟩
  | dct b ks =>
    cases b with
    | false =>
      obtain ⟨a, kvs, rfl, hx, rx⟩ := r
      refine ⟨_, .inr (.inr ⟨kvs, hx, rfl⟩), ?_⟩
      have e : kvs.isEmpty = ks.isEmpty := by cases rx <;> rfl
      rw [e]
      exact q
    | true => exact q.elim
  | _ => exact q.elim
theorem dt_tru (ha : PE X e (lowE X.K dk c f)) (he : ∀ whole, isTrue e X.env whole = (do let v ← whole; standAt e.pos; holding [v] (truthy v))) : PT X e (lowT X.K dk c (dTru f)) :=
  pt_w (pt_truth ha he) fun σ H Q ⟨ε, S, μ, lk, ok, rs, run⟩ => by
    refine ⟨ε, S, μ, lk, ok, rs, W.up run fun d μ1 run1 v S1 H1 ex1 ok1 rep1 => ?_⟩
    obtain ⟨d', vw, q⟩ := see_vw ok1 rep1 (Q := fun d μ' => (truD d).run (PostB X.K dk S μ H Q) c.E μ') run1
    obtain ⟨k, h1, h2⟩ := tru_vw vw q
    exact ⟨k, h1, h2 S1 H1 ex1 ok1⟩
def dNotT (f : DS → W D) : DS → W D := fun ε => W.bnd (f ε) fun d => W.bnd (see d) fun d => W.bnd (truD d) fun b => W.ret (.bl (!b))
theorem de_notT (ha : PE X e (lowE X.K dk c f)) : PE X (.UnaryOp .Not e pos) (lowE X.K dk c (dNotT f)) :=
  pe_w (pe_notT ha) fun σ H Q ⟨ε, S, μ, lk, ok, rs, run⟩ => by
    refine ⟨ε, S, μ, lk, ok, rs, W.up run fun d μ1 run1 v S1 H1 ex1 ok1 rep1 => ?_⟩
    obtain ⟨d', vw, q⟩ := see_vw ok1 rep1 (Q := fun d μ' => (W.bnd (truD d) fun b => W.ret (D.bl (!b))).run (Post X.K dk S μ H Q) c.E μ') run1
    obtain ⟨k, h1, h2⟩ := tru_vw vw (Q := fun b μ' => Post X.K dk S μ H Q (.bl (!b)) μ') q
    exact ⟨k, h1, h2 _ S1 H1 ex1 ok1 (.bl _)⟩
/-! ### chains -/
def dChain (r1 r2 : D → D → W D) (f g h : DS → W D) : DS → W D := fun ε => W.bnd (f ε) fun x => W.bnd (g ε) fun y => W.bnd (r1 x y) fun z => W.bnd (asB z) fun b => if b = true then W.bnd (h ε) fun w => r2 y w else W.ret (.bl false)
variable {op op' : CmpOp} {a b d : Expr} {h : DS → W D}
theorem de_chain {r r' : R2} {k k' : D → D → W D} (ho : OpR X (compareOp op) r) (ho' : OpR X (compareOp op') r') (l : LR2 X.K dk r k) (l' : LR2 X.K dk r' k') (ha : PE X a (lowE X.K dk c f)) (hb : PE X b (lowE X.K dk c g)) (hd : PE X d (lowE X.K dk c h))
    (hm : lastMarks [op, op'] [b, d] = false := by rfl) :
    PE X (.Compare a [op, op'] [b, d] pos) (lowE X.K dk c (dChain k k' f g h)) :=
  pe_w (pe_chain ho ho' ha hb hd hm) fun σ H Q ⟨ε, S, μ, lk, ok, rs, run⟩ => by
    refine ⟨ε, S, μ, lk, ok, rs, W.up run fun dx μ1 run1 x S1 H1 ex1 ok1 rep1 => ?_⟩
    refine ⟨ε, S1, μ1, c.up lk ex1, ok1, rs.ex ex1, W.up run1 fun dy μ2 run2 y S2 H2 ex2 ok2 rep2 => ?_⟩
    have x2 := ex1.trans ex2
    refine l ok2 (rep1.ex ex2) rep2 (W.up (m := k dx dy) run2 fun dz μ3 run3 z S3 H3 ex3 ok3 rep3 => ?_)
    have x3 := x2.trans ex3
    cases dz with
    | bl t =>
      cases rep3
      refine ⟨t, rfl, ?_⟩
      cases t with
      | false => exact run3 _ S3 H3 x3 ok3 (.bl false)
      | true => exact ⟨ε, S3, μ3, c.up lk x3, ok3, rs.ex x3, W.up (m := h ε) run3 fun dw μ4 run4 w S4 H4 ex4 ok4 rep4 => l' ok4 ((rep2.ex ex3).ex ex4) rep4 (W.up run4 fun _ _ q => q.ex (x3.trans ex4))⟩
    | _ => exact run3.elim
/-! ### methods -/
theorem de_append (ho : PE X o (lowE X.K dk c f)) (ha : PA X [e] (lowA X.K dk c fs)) (hbase : attributeBase o "append" X.env (eval o X.env) = eval o X.env := by rfl)
    (hfew : ((backTo pos (starEach [e] X.env)).all (fun x => !x.1) && (backToKw pos (keywordEach [] X.env)).all (fun x => x.1.isSome)
      && decide ([e].length + ([] : List Keyword).length + (if ([] : List Keyword).isEmpty then 0 else 1) < 30)) = true := by rfl)
    (hline : (apos.endLine == pos.line) = true := by rfl) (hs : starEach [e] X.env = (false, eval e X.env) :: starEach [] X.env := by rfl) (hplain : (backTo pos (starEach [] X.env)).any (·.1) = false := by rfl) :
    PE X (.Call (.Attribute o "append" apos) [e] [] pos) (lowE X.K dk c (dMet gAppend f fs)) :=
  pe_w (pe_bm PySem.F.plainAttrs_list PySem.F.slot_list_append PySem.F.type_list_append mt_append ho ha hbase hfew hline hs hplain) fun _ _ _ q => low_met l_append q
theorem de_popAt (ho : PE X o (lowE X.K dk c f)) (ha : PA X [e] (lowA X.K dk c fs)) (hbase : attributeBase o "pop" X.env (eval o X.env) = eval o X.env := by rfl)
    (hfew : ((backTo pos (starEach [e] X.env)).all (fun x => !x.1) && (backToKw pos (keywordEach [] X.env)).all (fun x => x.1.isSome)
      && decide ([e].length + ([] : List Keyword).length + (if ([] : List Keyword).isEmpty then 0 else 1) < 30)) = true := by rfl)
    (hline : (apos.endLine == pos.line) = true := by rfl) (hs : starEach [e] X.env = (false, eval e X.env) :: starEach [] X.env := by rfl) (hplain : (backTo pos (starEach [] X.env)).any (·.1) = false := by rfl) :
    PE X (.Call (.Attribute o "pop" apos) [e] [] pos) (lowE X.K dk c (dMet gPopAt f fs)) :=
  pe_w (pe_bm PySem.F.plainAttrs_list PySem.F.slot_list_pop PySem.F.type_list_pop mt_popAt ho ha hbase hfew hline hs hplain) fun _ _ _ q => low_met l_popAt q
theorem de_pop (ho : PE X o (lowE X.K dk c f)) (hbase : attributeBase o "pop" X.env (eval o X.env) = eval o X.env := by rfl) (hline : (apos.endLine == pos.line) = true := by rfl) :
    PE X (.Call (.Attribute o "pop" apos) [] [] pos) (lowE X.K dk c (dMet gPop f aNil)) :=
  pe_w (pe_bm0 PySem.F.plainAttrs_list PySem.F.slot_list_pop PySem.F.type_list_pop mt_pop ho hbase hline) fun _ _ _ q => low_met0 l_pop q
/-- xs.index(y) -/
def indexD (y : D) : D → W D
    | .lst xs => W.bnd (W.opt (pyL xs)) fun ps => W.bnd (pyW y) fun q => W.chk (SeqAt.shaped (.list ps) = true ∧ SeqAt.shaped q = true) (W.bnd (W.opt (ps.findIdx? fun z => PyData.eqv z q)) fun j => W.ret (.int (j : Nat)))
    | _ => W.fail
def gIndex : D → List D → W D
  | x, [y] => W.bnd (see x) (indexD y)
  | _, _ => W.fail
theorem l_index {K : PySem.W.Frag} : LM K dk (rIndexD K) gIndex := fun {x dx xs ds S μ H Q E} ok rx rs q => by
  cases rs with
  | nil => exact q.elim
  | @cons dy y _ _ ry t =>
    cases t with
    | cons _ _ => exact q.elim
    | nil =>
      obtain ⟨d', vw, q⟩ := see_vw ok rx (Q := fun x μ' => (indexD dy x).run (Post K dk S μ H Q) E μ') q
      cases d' with
      | lst zs =>
        have q : ((W.opt (pyL zs)).bnd fun ps => W.bnd (pyW dy) fun q => W.chk (SeqAt.shaped (.list ps) = true ∧ SeqAt.shaped q = true) (W.bnd (W.opt (ps.findIdx? fun z => PyData.eqv z q)) fun j => W.ret (D.int (j : Nat)))).run (Post K dk S μ H Q) E μ := q
        cases hp : pyL zs with
        | none => rw [hp] at q; exact q.elim
        | some ps =>
          rw [hp] at q
          obtain ⟨p2, h2, q⟩ := pyW_run (Q := fun q μ' => (W.chk (SeqAt.shaped (.list ps) = true ∧ SeqAt.shaped q = true) (W.bnd (W.opt (ps.findIdx? fun z => PyData.eqv z q)) fun j => W.ret (D.int (j : Nat)))).run (Post K dk S μ H Q) E μ') q
          obtain ⟨⟨s1, s2⟩, q⟩ := q
          have q : ((W.opt (ps.findIdx? fun z => PyData.eqv z p2)).bnd fun j => W.ret (D.int (j : Nat))).run (Post K dk S μ H Q) E μ := q
          cases hj : ps.findIdx? fun z => PyData.eqv z p2 with
          | none => rw [hj] at q; exact q.elim
          | some j =>
            rw [hj] at q
            obtain ⟨hl, hj1, hj2⟩ := List.findIdx?_eq_some_iff_getElem.mp hj
            obtain ⟨a, vs, rfl, hx, rx2⟩ := vw
            refine ⟨a, y, p2, ps, j, ps[j], rfl, rfl, .lst (.inl (.inl hx)) (pyL_dp rx2 hp), py_dp ry h2, s1, s2, List.getElem?_eq_getElem hl, hj1, fun m z hm hz => ?_, q _ S H Ex.refl ok (.int _)⟩
            obtain ⟨hl2, rfl⟩ := List.getElem?_eq_some_iff.mp hz
            have := hj2 m hm
            simpa using this
      | _ => exact q.elim
theorem de_index (hu : X.A.units + 65 < cLine) (ho : PE X o (lowE X.K dk c f)) (ha : PA X [e] (lowA X.K dk c fs)) (hbase : attributeBase o "index" X.env (eval o X.env) = eval o X.env := by rfl)
    (hfew : ((backTo pos (starEach [e] X.env)).all (fun x => !x.1) && (backToKw pos (keywordEach [] X.env)).all (fun x => x.1.isSome)
      && decide ([e].length + ([] : List Keyword).length + (if ([] : List Keyword).isEmpty then 0 else 1) < 30)) = true := by rfl)
    (hline : (apos.endLine == pos.line) = true := by rfl) (hs : starEach [e] X.env = (false, eval e X.env) :: starEach [] X.env := by rfl) (hplain : (backTo pos (starEach [] X.env)).any (·.1) = false := by rfl) :
    PE X (.Call (.Attribute o "index" apos) [e] [] pos) (lowE X.K dk c (dMet gIndex f fs)) :=
  pe_w (pe_bm PySem.F.plainAttrs_list PySem.F.slot_list_index PySem.F.type_list_index (mt_indexD hu) ho ha hbase hfew hline hs hplain) fun _ _ _ q => low_met l_index q
/-! texts -/
def strsD : List D → Option (List Str)
  | [] => some []
  | .str z :: r => (strsD r).map (z :: ·)
  | _ :: _ => none
def gJoin (d x : D) : W D := match d with
  | .str z => W.bnd (see x) fun x => W.bnd (seqOf x) fun xs => W.bnd (W.opt (strsD xs)) fun ys => W.chk ((ys.map (·.length)).sum + ys.length * z.length ≤ 16777216) (W.ret (.str (Txt.join z ys)))
  | _ => W.fail
theorem strs_rep {K : PySem.W.Frag} {S : Pl} {μ : Mu} {H : Hp} : ∀ {ds : List D} {vs : List V} {ys : List Str}, RepA K S μ H ds vs → strsD ds = some ys → vs = ys.map V.str
  | _, _, _, .nil, h => by cases h; rfl
  | d :: ds, _, _, .cons r t, h => by
    cases d <;> first | (cases h; done) | skip
    cases r
    simp only [strsD] at h
    obtain ⟨bs, h1, rfl⟩ := map_inv h
    rw [strs_rep t h1]
    rfl
def dJoin (f g : DS → W D) : DS → W D := fun ε => W.bnd (f ε) fun d => W.bnd (isS d) fun _ => W.bnd (g ε) fun x => gJoin d x
where isS : D → W Unit
  | .str _ => W.ret ()
  | _ => W.fail
theorem de_join (ho : PE X o (lowE X.K dk c f)) (he : PE X e (lowE X.K dk c g)) (hs : starEach [e] X.env = [(false, eval e X.env)] := by rfl) (hbase : attributeBase o "join" X.env (eval o X.env) = eval o X.env := by rfl) (hline : (apos.endLine == pos.line) = true := by rfl) :
    PE X (.Call (.Attribute o "join" apos) [e] [] pos) (lowE X.K dk c (dJoin f g)) := pe_w (pe_join ho he hs hbase hline) fun σ H Q ⟨ε, S, μ, lk, ok, rs, run⟩ => by
  refine ⟨ε, S, μ, lk, ok, rs, W.up run fun d μ1 run1 v S1 H1 ex1 ok1 rep1 => ?_⟩
  cases d with
  | str z =>
    cases rep1
    refine ⟨⟨z, rfl⟩, ε, S1, μ1, c.up lk ex1, ok1, rs.ex ex1, W.up (m := g ε) run1 fun x μ2 run2 y S2 H2 ex2 ok2 rep2 => ?_⟩
    obtain ⟨d', vw, q⟩ := see_vw ok2 rep2 (Q := fun x μ' => (W.bnd (seqOf x) fun xs => W.bnd (W.opt (strsD xs)) fun ys => W.chk ((ys.map (·.length)).sum + ys.length * z.length ≤ 16777216) (W.ret (D.str (Txt.join z ys)))).run (Post X.K dk S μ H Q) c.E μ') run2
    have go : ∀ (xs : List D) (vs : List V) (a : Addr), RepA X.K S2 μ2 H2 xs vs → (SqL X.K H2 a vs ∨ SqT X.K H2 a vs) → ((W.opt (strsD xs)).bnd fun ys => W.chk ((ys.map (·.length)).sum + ys.length * z.length ≤ 16777216) (W.ret (.str (Txt.join z ys)))).run (Post X.K dk S μ H Q) c.E μ2 →
        ∃ a' p, ∃ ys : List Str, (.str z : V) = .str a' ∧ [V.ref a] = [.ref p] ∧ (SqL X.K H2 p (ys.map V.str) ∨ SqT X.K H2 p (ys.map V.str)) ∧ (ys.map (·.length)).sum + ys.length * a'.length ≤ 16777216 ∧ Q (.str (Txt.join a' ys)) H2 := fun xs vs a r h q => by
      cases hy : strsD xs with
      | none => rw [hy] at q; exact q.elim
      | some ys =>
        rw [hy] at q
        rw [strs_rep r hy] at h
        exact ⟨z, a, ys, rfl, rfl, h, q.1, q.2 _ S2 H2 (ex1.trans ex2) ok2 (.str _)⟩
    cases d' with
    | tup xs =>
      rcases vw with _ | _ | _ | _ | _ | _ | @⟨_, a, vs, hx, rx⟩
      exact go _ _ _ rx (.inr hx.sq) q
    | ktp xs =>
      rcases vw with _ | _ | _ | _ | _ | _ | _ | _ | @⟨_, a, vs, hx, rx⟩
      exact go _ _ _ rx (.inr (kt_sq hx)) q
    | lst xs =>
      obtain ⟨a, vs, rfl, hx, rx⟩ := vw
      exact go _ _ _ rx (.inl (.inl (.inl hx))) q
    | _ => exact q.elim
  | _ => exact run1.elim
/-- a text's method of one argument -/
def dM1 (g1 : Str → D → W D) (f g : DS → W D) : DS → W D := fun ε => W.bnd (f ε) fun d => W.bnd (dJoin.isS d) fun _ => W.bnd (g ε) fun x => match d with
  | .str z => g1 z x
  | _ => W.fail
theorem low_m1 {r : V → List V → Hp → VK → Prop} {g1 : Str → D → W D} (l : ∀ {z : Str} {y : V} {dy : D} {S : Pl} {μ : Mu} {H : Hp} {Q : VK} {E : Exn → Mu → Prop}, Ok X.K dk.p S μ H → Rep X.K S μ H dy y → (g1 z dy).run (Post X.K dk S μ H Q) E μ → r (.str z) [y] H Q)
    {σ : L2.St} {H : Hp} {Q : VK} (q : lowE X.K dk c (dM1 g1 f g) σ H Q) : tM1 r (lowE X.K dk c f) (lowE X.K dk c g) σ H Q := by
  obtain ⟨ε, S, μ, lk, ok, rs, run⟩ := q
  refine ⟨ε, S, μ, lk, ok, rs, W.up run fun d μ1 run1 v S1 H1 ex1 ok1 rep1 => ?_⟩
  cases d with
  | str z =>
    cases rep1
    exact ⟨⟨z, rfl⟩, ε, S1, μ1, c.up lk ex1, ok1, rs.ex ex1, W.up (m := g ε) run1 fun x μ2 run2 y S2 H2 ex2 ok2 rep2 => l ok2 rep2 (W.up (m := g1 z x) run2 fun _ _ q => q.ex (ex1.trans ex2))⟩
  | _ => exact run1.elim
def gSplit (z : Str) : D → W D
  | .str b => W.chk ((b.length == 0) = false ∧ z.length + 2 ≤ sizeLine) (W.ret (.lst ((Txt.split z b).map D.str)))
  | _ => W.fail
theorem rep_strs {K : PySem.W.Frag} {S : Pl} {μ : Mu} {H : Hp} : ∀ {ys : List Str}, RepA K S μ H (ys.map D.str) (ys.map V.str)
  | [] => .nil
  | _ :: _ => .cons (.str _) rep_strs
theorem de_split (ho : PE X o (lowE X.K dk c f)) (he : PE X e (lowE X.K dk c g)) (hs : starEach [e] X.env = [(false, eval e X.env)] := by rfl) (hbase : attributeBase o "split" X.env (eval o X.env) = eval o X.env := by rfl) (hline : (apos.endLine == pos.line) = true := by rfl) :
    PE X (.Call (.Attribute o "split" apos) [e] [] pos) (lowE X.K dk c (dM1 gSplit f g)) := pe_w (pe_split ho he hs hbase hline) fun _ _ _ q => low_m1 (fun {z y dy S μ H Q E} ok ry q => by
  unfold gSplit at q
  split at q
  · cases ry
    exact ⟨z, _, rfl, rfl, q.1.1, q.1.2, fun p hp => q.2 (.ref p) S _ (new_ex ok hp) (new_ok ok hp) (new_lst ok hp rep_strs)⟩
  · exact q.elim) q
end
end DL

/-! exceptions of own classes as plain values: made by places or names, their fields, what they are -/
namespace PySem
namespace Ex4
open PySem.W PySem.Calls PyProof.Rows PySem.HandSPX
open Builtin Builtin.ObjectAttr

section
variable {M : Model} {prog : Program} {w : World} {A : Around} {E : Value → Shared → Prop} {R : Result → Shared → Prop} {h : Heap} {g : Array GenState} {d : Drawn} {t : Nat} {os : OsState}
variable {nm q : Str} {C N : Addr} {bs bm bmB : List Value} {hdct : Bool} {sn : List Str} {sub : List Value} {ab : Bool} {col : Option Bool} {dd : Option Addr} {k0 k1 k2 k3 k5 : Option Value} {B newId initId : String}

theorem chk_new (F : ExcBaseFacts B newId initId bmB) (hT : bm.contains (.type B) = true ∧ bm.contains (.type "AttributeError") = false ∧ bm.contains (.type "NameError") = false) {rest : List Value} {kws : List (Str × Value)} {Q : Unit → Shared → Prop}
    (hC : h.get? C = some (excClassObj nm q C N bs bm hdct sn sub ab col dd k0 k1 k2 k3 k5 newId)) (hq : Q () ⟨h, g, d, t, os⟩) :
    wpAny M A (checkBuiltinCall newId ⟨.ref C :: rest, kws⟩) Q E ⟨h, g, d, t, os⟩ := by
  have c1 : (Value.ref C :: bm).contains (.type B) = true := by rw [List.contains_cons, hT.1, Bool.or_true]
  have c2 := F.noStar
  simp only [checkBuiltinCall, F.newKind, F.newSplit, F.newRow]
  repeat (first
    | refine wpAny_loadPart_at hC ?_
    | (refine wpAny_isSubtype_exc hC ?_
       rw [c1])
    | refine wpAny_staticBase_exc hC ?_
    | refine wpAny_madeBy_exc hC ?_
    | simp only [bne_self_eq_false, Bool.false_eq_true, if_false]
    | wp_step)
  exact hq

theorem chk_call {rest : List Value} {kws : List (Str × Value)} {Q : Unit → Shared → Prop}
    (hC : h.get? C = some (excClassObj nm q C N bs bm hdct sn sub ab col dd k0 k1 k2 k3 k5 newId)) (hq : Q () ⟨h, g, d, t, os⟩) :
    wpAny M A (checkBuiltinCall "type.__call__" ⟨.ref C :: rest, kws⟩) Q E ⟨h, g, d, t, os⟩ := by
  have c1 := tc_sub
  have c2 : (⟨h, g, d, t, os⟩ : Shared).TypeIs (.ref C) "type" := ⟨_, hC, rfl⟩
  simp only [checkBuiltinCall, tc_kind, tc_split]
  repeat (any_goals (first
    | assumption
    | with_reducible refine wpAny_loadPart_at hC ?_
    | with_reducible refine wpAny_onRaise ?_
    | with_reducible refine wpAny_map ?_
    | wp_step))

theorem new_kw (F : ExcBaseFacts B newId initId bmB) (hT : bm.contains (.type B) = true ∧ bm.contains (.type "AttributeError") = false ∧ bm.contains (.type "NameError") = false) {rest : List Value} {kws : List (Str × Value)}
    (hC : h.get? C = some (excClassObj nm q C N bs bm hdct sn sub ab col dd k0 k1 k2 k3 k5 newId)) (hz : rest.length ≤ sizeLine)
    (hq : R (.ok (.ret (.ref (h.objs.size + 1)))) ⟨(h.push (W.kdv_tup rest)).push (excO C h.objs.size), g, d, t, os⟩) :
    codeAny (model prog w) A (.builtin newId ⟨.ref C :: rest, kws⟩) R ⟨h, g, d, t, os⟩ := by
  have c0 := F.ends
  have c1 : (Value.ref C :: bm).contains (.type B) = true := by rw [List.contains_cons, hT.1, Bool.or_true]
  have c2 : (Value.ref C :: bm).contains (.type "AttributeError") = false := by rw [List.contains_cons, hT.2.1] <;> rfl
  have c3 : (Value.ref C :: bm).contains (.type "NameError") = false := by rw [List.contains_cons, hT.2.2] <;> rfl
  apply codeAny_builtinAt F.entry
  unfold Builtin.«BaseException.__new__»
  apply wpAt_bind
  change wpAt _ _ _ (stack >>= _) _ _ _
  refine wpAt_bind (wpAt_stack fun _ _ => wpAt_of_wpAny ?_)
  wp_walk
  apply wpAt_of_wpAny
  rw [F.owner]
  repeat (first
    | with_reducible refine wpAny_madeHere_exc F.canon hC ?_
    | with_reducible refine wpAny_loadPart_at hC ?_
    | (with_reducible refine wpAny_isSubtype_exc hC ?_
       first | rw [c1] | rw [c2] | rw [c3])
    | wp_step)
  change R _ _
  rw [Heap.size_push]
  exact hq

theorem type_kw (F : ExcBaseFacts B newId initId bmB) (hT : bm.contains (.type B) = true ∧ bm.contains (.type "AttributeError") = false ∧ bm.contains (.type "NameError") = false) {rest : List Value} {kws : List (Str × Value)} {fI : Addr} {Q : Fin → Shared → Prop}
    (hC : h.get? C = some (excClassObj nm q C N bs bm hdct sn sub ab col dd k0 k1 k2 k3 k5 newId)) (hz : rest.length ≤ sizeLine)
    (hi : W.Looks (model prog w) h (typeLookup (.ref C) "__init__") (some (.ref fI))) (hb : ∀ self, W.Looks (model prog w) h (bindSpecial (.ref fI) self) (.ref fI, [self]))
    (hq : codeAny (model prog w) A (.call (.ref fI) ⟨.ref (h.objs.size + 1) :: rest, kws⟩)
      (fun r s' => match r with | .ok (.ret v) => v = .none ∧ Q (.done (.ret (.ref (h.objs.size + 1)))) s' | .ok _ => False | .error e => E e s')
      ⟨(h.push (W.kdv_tup rest)).push (excO C h.objs.size), g, d, t, os⟩) :
    wpAny (model prog w) A (Builtin.«type.__call__» ⟨.ref C :: rest, kws⟩) Q E ⟨h, g, d, t, os⟩ := by
  repeat (first
    | with_reducible refine wpAny_loadPart_at hC ?_
    | with_reducible refine wpAny_madeBy_exc hC ?_
    | wp_step)
  refine codeAny_call_builtin_code (Code.quiet_builtin _ F.quiet) (chk_new F hT hC (new_kw F hT hC hz ?_))
  change wpAny _ _ _ _ _ _
  have kp : ∀ b o, h.get? b = some o → ((h.push (W.kdv_tup rest)).push (excO C h.objs.size)).get? b = some o :=
    fun b o e => Heap.get?_push_of_some _ (Heap.get?_push_of_some _ e)
  have C2 := kp _ _ hC
  have e2 : ((h.push (W.kdv_tup rest)).push (excO C h.objs.size)).get? (h.objs.size + 1) = some (excO C h.objs.size) := by heap_get
  have m2 : (Value.ref C :: bm).contains (.ref C) = true := by simp
  have i2 := hi.keeps kp
  have b2 := (hb (.ref (h.objs.size + 1))).keeps kp
  unfold isInstance
  repeat (first
    | with_reducible refine wpAny_loadPart_at e2 ?_
    | (with_reducible refine wpAny_isSubtype_exc C2 ?_
       rw [m2])
    | wp_step)
  change wpAny _ _ (typeLookup (.ref C) _) _ _ _
  refine i2.at (wpAny_holding (wpAny_bind (b2.at (wpAny_bind (wpAny_call (codeAny_mono hq ?_))))))
  intro r s' z
  match r, z with
  | .error e, z => exact z
  | .ok .next, z => exact False.elim z
  | .ok .brk, z => exact False.elim z
  | .ok .cont, z => exact False.elim z
  | .ok (.ret v), z =>
    obtain ⟨rfl, z⟩ := z
    first
      | exact wpAny_pure (wpAny_pure z)
      | (wp_walk
         exact z)

theorem call_kw (F : ExcBaseFacts B newId initId bmB) (hT : bm.contains (.type B) = true ∧ bm.contains (.type "AttributeError") = false ∧ bm.contains (.type "NameError") = false) {rest : List Value} {kws : List (Str × Value)} {fI : Addr}
    (hC : h.get? C = some (excClassObj nm q C N bs bm hdct sn sub ab col dd k0 k1 k2 k3 k5 newId)) (hz : rest.length ≤ sizeLine)
    (hi : W.Looks (model prog w) h (typeLookup (.ref C) "__init__") (some (.ref fI))) (hb : ∀ self, W.Looks (model prog w) h (bindSpecial (.ref fI) self) (.ref fI, [self]))
    (hq : codeAny (model prog w) (A.under (.builtin "type.__call__" ⟨.ref C :: rest, kws⟩)) (.call (.ref fI) ⟨.ref (h.objs.size + 1) :: rest, kws⟩) (W.InitBack (h.objs.size + 1) R)
      ⟨(h.push (W.kdv_tup rest)).push (excO C h.objs.size), g, d, t, os⟩) :
    codeAny (model prog w) A (.call (.ref C) ⟨rest, kws⟩) R ⟨h, g, d, t, os⟩ := by
  have c1 := tc_lookup
  have c2 := tc_bind (.ref C)
  have c3 : (⟨h, g, d, t, os⟩ : Shared).TypeIs (.ref C) "type" := ⟨_, hC, rfl⟩
  apply codeAny_of_tree
  change wpAny _ _ (callAny (.ref C) _) _ _ _
  repeat (any_goals (first
    | assumption
    | with_reducible refine wpAny_loadPart_at hC ?_
    | wp_step))
  refine ⟨rfl, codeAny_call_builtin_at (Code.quiet_builtin _ (by decide +kernel)) entry_typeCall (chk_call hC (type_kw F hT hC hz hi hb (codeAny_mono hq ?_)))⟩
  intro r s' z
  rcases r with e | (v | _ | _ | _) <;> exact z
end
end Ex4
end PySem

namespace PySem.F
theorem store_KeyError : StoreFacts "KeyError" [.type "KeyError", .type "LookupError", .type "Exception", .type "BaseException", .type "object"] "object.__setattr__" "object" where
  mro := by kernel_rfl
  slot := Slot.of (owner := "object") (n := "__setattr__")
    (by rw [typeLookup_type, builtinLookup_eq_fast]
        kernel_rfl)
    (by decide +kernel) (by decide +kernel) (by decide +kernel)
    (by first
          | exact .inl (by decide +kernel)
          | exact .inr (by decide +kernel))
    (by rw [isSubtype_type]
        kernel_rfl)
  entry := entry_object_sa
  kind := by decide +kernel
  split := by decide +kernel
  hasOwner := by decide +kernel
  args := store_ValueError.args
  passes := fun self => by kernel_rfl
end PySem.F
namespace L2
open PySem PySem.Spec PyProof.Rows
/-- what the written part says of an own class of exceptions that takes fields -/
structure ExK (K : PySem.W.Frag) (C : Addr) : Prop where
  base : ∃ (B S newId initId : String) (bF bmB : List Value), ExcBaseFacts B newId initId bF ∧ StoreFacts S bmB "object.__setattr__" "object" ∧
    (bmB.contains (.type B) = true ∧ bmB.contains (.type "AttributeError") = false ∧ bmB.contains (.type "NameError") = false) ∧
    PySem.W.excInitIn K C bmB newId = true ∧ PySem.W.excOver K C bmB = true
  sa : PySem.W.findIn K (.ref C) "__setattr__" = some (some (.builtin "object.__setattr__"))
  kC : PySem.W.keepIn K (.ref C) = true
  xf : XfC K C
/-- of such classes and those without fields: what isinstance asks -/
structure ExI (K : PySem.W.Frag) (C : Addr) : Prop where
  xf : XfC K C
  ca : PySem.W.findIn K (.ref C) "__class__" = some (some (.builtin "object.__class__"))
  cn : PySem.W.specialIn K (.builtin "object.__class__") "__get__" = some (some (.builtin "getset_descriptor.__get__"))
  ct : PySem.W.takesIn K (.builtin "object.__class__") = some true
  cm : PySem.W.mroIn K C (.type "object") = some true
section
variable {X : Cx} {pins : List (Addr × Obj)} {σ : L2.St} {H : Hp} {s : Shared} {a C dx : Addr} {f : Str} {y : V} {u : Value} {fs : List (Str × V)} {Q : Unit → Shared → Prop} {E : Value → Shared → Prop} {A : Around}
/-- the first field -/
theorem ex_new (T : ExK X.K C) (I : Inv X pins σ H s) (e : H a = some (exo a C none)) (hno : PySem.W.takerIn X.K C f = some none) (ry : RelV y u)
    (h : ∀ dx s', H dx = none → dx ≠ a → Inv X pins σ (upd (upd H dx (exd dx [(f, y)])) a (exo a C (some dx))) s' → Q () s') : wpAny (model X.prog X.w) A (setAttr (.ref a) f u) Q E s := by
  obtain ⟨B, S, newId, initId, bF, bmB, _, SF, _, _, hov⟩ := T.base
  obtain ⟨cd, hcl, hdd⟩ := PySem.W.any_some T.xf.hdC
  obtain ⟨t1, ho⟩ := exo_at I.hok e
  obtain ⟨hp, g, d, t, os⟩ := s
  have lt := Heap.lt_size ho
  refine PySem.W.set_plain I.kIn (od := none) ⟨ho, rfl, rfl, trivial⟩ T.sa (PySem.W.osa_openX (od := none) SF I.kIn ⟨ho, rfl, rfl, trivial⟩ hov hno fun b => ?_)
  have Lc : PySem.W.Looks (model X.prog X.w) hp (classData C) cd := PySem.W.looks_clsIn I.kIn hcl
  refine wpAny_bind (wpAny_pure (wpAny_bind (PySem.W.instanceDict_exc (s := ⟨hp, g, d, t + 1, os⟩) (c2 := .none) ho Lc hdd ?_)))
  have D0 : ((hp.push (PySem.W.dictOf [] 0)).update a fun o => { o with dict := some hp.objs.size }).Ns hp.objs.size (fun _ => none) :=
    ⟨_, #[], _, (Heap.get?_update_ne _ _ _ _ (Nat.ne_of_gt lt)).trans (Heap.get?_push_at rfl rfl), rfl, fun z hz => absurd hz (by simp), fun _ => rfl⟩
  refine PySem.HandSPX.store_in_new D0 fun h' tk' hn' hs => ?_
  have ne : hp.objs.size ≠ a := Nat.ne_of_gt lt
  have n0 : H hp.objs.size = none := I.hok.fresh (Nat.le_refl _)
  have ga : h'.get? a = some { cls := .ref C, dict := some hp.objs.size, data := .fields #[.ref t1, .none, .none, .none, .bool false, .none] } :=
    (hs.2 a (Ne.symm ne)).trans (Heap.get?_update_self _ (Heap.get?_push_of_some _ ho) rfl)
  have gb : ∀ b o, b ≠ a → hp.get? b = some o → h'.get? b = some o := fun b o hb hg =>
    (hs.2 b (Nat.ne_of_lt (Heap.lt_size hg))).trans ((Heap.get?_update_ne _ _ _ _ hb).trans (Heap.get?_push_of_some _ hg))
  have na : ∀ {b : Addr}, H b = none → b ≠ a := fun {b} n z => by
    rw [z, e] at n
    cases n
  have nd : ∀ {b : Addr} {o : Obj}, hp.get? b = some o → b ≠ hp.objs.size := fun {b o} z => Nat.ne_of_lt (Heap.lt_size z)
  refine h hp.objs.size _ n0 ne (I.un (t' := tk') (h' := h') ⟨?_, ?_, ?_, ?_, ?_, ?_, ?_⟩ fun b o q => ?_)
  · exact fun b o z n _ _ => gb b o (na n) z
  · exact fun b o z n _ _ => ⟨o.slots, gb b o (na n) z⟩
  · intro b o z n _
    rw [upd_ne (na n), upd_ne (nd z)]
    exact n
  · intro b o z _
    by_cases hb : b = a
    · subst hb
      exact ⟨_, ga⟩
    · exact ⟨o, gb b o hb z⟩
  · intro b xs z
    rw [upd_ne (at_ne e z exo_tup), upd_ne (ne_of_none z n0)]
    exact z
  · intro b o v z
    rw [upd_ne (at_ne e z exo_frz), upd_ne (ne_of_none z n0)]
    exact z
  · intro b ps z
    refine ⟨#[], ?_⟩
    rw [upd_ne (at_ne e z exo_tbl), upd_ne (ne_of_none z n0), z]
    simp
  · by_cases hb : b = a
    · subst hb
      rw [upd_same] at q
      cases q
      exact exo_ok ga
    · by_cases hd : b = hp.objs.size
      · subst hd
        rw [upd_ne hb, upd_same] at q
        cases q
        exact exd_ok hn' (relO_put (fs := []) ry fun _ => True.intro)
      · rw [upd_ne hb, upd_ne hd] at q
        refine (I.hok b o q).stay (fun c v hc z => gb c v ?_ z) (fun c hc => ?_) (fun c xs hc => ?_)
        · rcases hc with rfl | hc
          · exact hb
          · exact at_ne e hc exo_own
        · rw [upd_ne (at_ne e hc exo_own), upd_ne (ne_of_none hc n0)]
          exact hc
        · rw [upd_ne (at_ne e hc exo_tup), upd_ne (ne_of_none hc n0)]
          exact hc
/-- a further field -/
theorem ex_old (T : ExK X.K C) (I : Inv X pins σ H s) (e : H a = some (exo a C (some dx))) (ed : H dx = some (exd dx fs)) (hl : fs.length ≤ 900) (hno : PySem.W.takerIn X.K C f = some none) (ry : RelV y u)
    (h : ∀ s', Inv X pins σ (upd H dx (exd dx ((f, y) :: fs))) s' → Q () s') : wpAny (model X.prog X.w) A (setAttr (.ref a) f u) Q E s := by
  obtain ⟨B, S, newId, initId, bF, bmB, _, SF, _, _, hov⟩ := T.base
  obtain ⟨cd, hcl, hdd⟩ := PySem.W.any_some T.xf.hdC
  obtain ⟨t1, ho⟩ := exo_at I.hok e
  obtain ⟨mA, hns, rel⟩ := exd_at I.hok ed
  have hw := within_of rel
  obtain ⟨hp, g, d, t, os⟩ := s
  obtain ⟨oD, _, _, hoD, _, _⟩ := hns.count hw
  refine PySem.W.set_plain I.kIn (od := some oD) ⟨ho, rfl, rfl, hoD⟩ T.sa (PySem.W.osa_openX (od := some oD) SF I.kIn ⟨ho, rfl, rfl, hoD⟩ hov hno fun b => ?_)
  have Lc : PySem.W.Looks (model X.prog X.w) hp (classData C) cd := PySem.W.looks_clsIn I.kIn hcl
  refine wpAny_bind (wpAny_pure (wpAny_bind (wpAny_bind (wpAny_loadPart ho (wpAny_bind (Lc.here ?_))))))
  rw [hdd]
  refine wpAny_pure (a := some dx) (PySem.OEX.store_in_old hns hw (by rw [List.length_map]; omega) fun h' tk' hn hs => ?_)
  have there : ∃ o, h'.get? dx = some o := by
    obtain ⟨o, _, _, q, _⟩ := hn
    exact ⟨o, q⟩
  exact h _ (I.write (t' := tk') (h' := h') (x := dx) (e := dx) (o := exd dx ((f, y) :: fs)) (by rw [ed]; exact True.intro) (.inl rfl) (fun b o hb z => (hs.2 b hb).trans z) there (exd_ok hn (relO_put ry rel)))
end
/-- self.f = e in an own __init__ -/
def tExs (K : PySem.W.Frag) (f : Str) (to te : TE) : TS := fun D σ H => te σ H fun y H1 => to σ H1 fun x H2 => ∃ a C : Addr, x = .ref a ∧ ExK K C ∧ PySem.W.takerIn K C f = some none ∧
  ((H2 a = some (exo a C none) ∧ ∀ dx, H2 dx = none → dx ≠ a → D.nx σ (upd (upd H2 dx (exd dx [(f, y)])) a (exo a C (some dx)))) ∨
    ∃ (dx : Addr) (fs : List (Str × V)), H2 a = some (exo a C (some dx)) ∧ H2 dx = some (exd dx fs) ∧ fs.length ≤ 900 ∧ D.nx σ (upd H2 dx (exd dx ((f, y) :: fs))))
section
variable {X : Cx} {o e : Expr} {es : List Expr} {to te : TE} {ta : TA} {f : Str} {p p' p1 p2 pos : Pos}
theorem ps_exs (ho : PE X o to) (he : PE X e te) (hs : swapsWith e (some (.Attribute o f p')) pos.line X.env = pure false := by rfl) : PS X (.Assign [.Attribute o f p'] e pos) (tExs X.K f to te) := by
  constructor
  intro pins s σ H D I h
  refine plainObj_wpAny_Assign_Attribute (thn (he.run pins s σ H _ I h) ?_) hs
  rintro v s1 ⟨y, H1, I1, r1, q1⟩
  refine thn (ho.run pins s1 σ H1 _ I1 q1) ?_
  rintro u s2 ⟨x, H2, I2, r2, a, C, rfl, T, hno, q⟩
  obtain rfl : u = Value.ref a := r2
  rcases q with ⟨ea, q⟩ | ⟨dx, fs, ea, ed, hl, q⟩
  · exact ex_new T I2 ea hno r1 fun dx s' n ne J => ⟨σ, _, J, q dx n ne⟩
  · exact ex_old T I2 ea ed hl hno r1 fun s' J => ⟨σ, _, J, q⟩
end
end L2

namespace L2
open PySem PySem.Spec PyProof.Rows
section
variable {X : Cx} {CX : CXT} {k n : Nat} {fI C : Addr} {fd : FuncData} {ps ks : List Str} {sp : Sp} {E : XK} {x : Str} {p pos : Pos} {e : Expr} {es : List Expr} {kws : List Keyword} {t tk : TA}
  {g : List Value → List Value → List Value} {gV : List V → List V → List V}
/-- C(e, .., k = v, ..): an exception is laid, its own __init__ is called -/
theorem run_ex {pins : List (Addr × Obj)} {σ : L2.St} {H : Hp} {s : Shared} {Q : VK} {us ws : List Value} {vs zs : List V}
    (T : ExK X.K C) (iC : PySem.W.findIn X.K (.ref C) "__init__" = some (some (.ref fI))) (tI : PySem.W.typeIn X.K (.ref fI) = some (.type "function"))
    (F : FnOk X.prog X.w X.K X.mg X.base CX k fI fd ps sp) (hr : Room (k + 1) X.A) (hb : KBn X.K fd ps (n + 1) ks g gV) (hx : Passes CX X E)
    (I : Inv X pins σ H s) (r : Vals vs us) (rz : Vals zs ws) (l1 : vs.length = n) (l2 : zs.length = ks.length) (hn : n ≤ 1000)
    (h : ∀ a, H a = none → sp (gV (.ref a :: vs) zs) (upd H a (exo a C none)) (fun v H2 => v = .non ∧ Q (.ref a) H2) E) :
    wpAny (model X.prog X.w) X.A (call (.ref C) us (ks.zip ws)) (EP X pins σ Q) X.xe s := by
  obtain ⟨B, S, newId, initId, bF, bmB, FB, _, hT, hin, _⟩ := T.base
  obtain ⟨nm, N', qn, bs, bm, hdct, sn, sub, ab, col, dd, k0, k1, k2, k3, k5, hC, hbm⟩ := PySem.W.excInit_of I.kIn hin
  have hT2 : bm.contains (.type B) = true ∧ bm.contains (.type "AttributeError") = false ∧ bm.contains (.type "NameError") = false :=
    ⟨(hbm _).trans hT.1, (hbm _).trans hT.2.1, (hbm _).trans hT.2.2⟩
  obtain ⟨hp, gs, dr, tk', os⟩ := s
  have big : hp.objs.size ≤ hp.objs.size + 1 := Nat.le_succ _
  have hq := h (hp.objs.size + 1) (I.hok.fresh big)
  have kp : ∀ b o, hp.get? b = some o → ((hp.push (PySem.W.kdv_tup us)).push (PySem.HandSPX.excO C hp.objs.size)).get? b = some o :=
    fun b o z => Heap.get?_push_of_some _ (Heap.get?_push_of_some _ z)
  have ge : ((hp.push (PySem.W.kdv_tup us)).push (PySem.HandSPX.excO C hp.objs.size)).get? (hp.objs.size + 1) = some (PySem.HandSPX.excO C hp.objs.size) := by heap_get
  have J := I.laid (t' := tk') (a := hp.objs.size + 1) (o := exo (hp.objs.size + 1) C none) kp big (exo_ok ge)
  have rr : Vals (V.ref (hp.objs.size + 1) :: vs) (Value.ref (hp.objs.size + 1) :: us) := .cons rfl r
  have e1 : (Value.ref (hp.objs.size + 1) :: us).length = n + 1 := rr.length.symm.trans (congrArg Nat.succ l1)
  have e2 : ws.length = ks.length := rz.length.symm.trans l2
  have hz : us.length ≤ sizeLine := by
    have := r.length
    rw [sizeLine_eq]
    omega
  refine wpAny_call (PySem.Ex4.call_kw FB hT2 hC hz (PySem.W.looks_findIn I.kIn iC) (fun self => PySem.W.bind_fn I.kIn self tI) (codeAny_mono (F.run _ X.stack _ _ ⟨Value.ref (hp.objs.size + 1) :: us, ks.zip ws⟩
    (g (Value.ref (hp.objs.size + 1) :: us) ws) _ _ E (hr.make C us (ks.zip ws)) (J.env0.make C us (ks.zip ws)) (hb.to _ _ ws J.kIn e1 e2) (hb.rel rr rz) hq) ?_))
  intro r s' hq'
  match r, hq' with
  | .error er, hq' => exact hx pins σ _ _ er s' J hq'
  | .ok .next, hq' => exact False.elim hq'
  | .ok .brk, hq' => exact False.elim hq'
  | .ok .cont, hq' => exact False.elim hq'
  | .ok (.ret u), hq' =>
    obtain ⟨v, H', J3, rv, rfl, q3⟩ := J.after hq'
    exact ⟨rv, ⟨V.ref (hp.objs.size + 1), H', J3, rfl, q3⟩⟩

/-- the promise of such an __init__: each name gets its value -/
def spEx (C : Addr) (ns : List Str) : Sp := fun vs H Q _ => ∃ (a : Addr) (ys : List V), vs = .ref a :: ys ∧ ys.length = ns.length ∧ H a = some (exo a C none) ∧
  ∀ (d : Addr) (H' : Hp), H d = none → d ≠ a → H' a = some (exo a C (some d)) → H' d = some (exd d (ns.zip ys).reverse) → (∀ b, b ≠ a → b ≠ d → H' b = H b) → Q .non H'
/-- a new exception with its fields -/
def NewEx (C : Addr) (ns : List Str) (vs : List V) (H : Hp) (Q : VK) : Prop := vs.length = ns.length ∧ ∀ (a d : Addr) (H' : Hp), H a = none → H d = none → d ≠ a → H' a = some (exo a C (some d)) → H' d = some (exd d (ns.zip vs).reverse) →
  (∀ b, b ≠ a → b ≠ d → H' b = H b) → Q (.ref a) H'
/-- what is told of a class that makes exceptions with fields; ks: the names as some call gives them, pm: their order as the parameters have it -/
structure ExMk (P : Program) (w : World) (K : PySem.W.Frag) (mg : Str → Option Value) (base : Heap) (k : Nat) (x : Str) (C : Addr) (ns ks : List Str) (pm : {α : Type} → List α → List α) : Prop where
  ex : ExK K C
  mgx : mg x = some (.ref C)
  init : ∃ (fI : Addr) (fd : FuncData), PySem.W.findIn K (.ref C) "__init__" = some (some (.ref fI)) ∧ PySem.W.typeIn K (.ref fI) = some (.type "function") ∧
    FnOk P w K mg base L2.CX0 k fI fd (("self" : Str) :: ns) (spEx C ns) ∧
    KBn K fd (("self" : Str) :: ns) (ns.length + 1) [] (fun us _ => us) (fun vs _ => vs) ∧
    KBn K fd (("self" : Str) :: ns) 1 ks (fun us ws => us ++ pm ws) (fun vs zs => vs ++ pm zs)
  len : ∀ zs : List V, zs.length = ks.length → (pm zs).length = ns.length
  few : ns.length ≤ 1000
theorem newEx_of {H : Hp} {Q : VK} {ns : List Str} {ys : List V} {a : Addr} (ha : H a = none) (h : NewEx C ns ys H Q) :
    spEx C ns (.ref a :: ys) (upd H a (exo a C none)) (fun v H2 => v = .non ∧ Q (.ref a) H2) (fun _ _ _ => False) := by
  refine ⟨a, ys, rfl, h.1, upd_same, ?_⟩
  intro d H' hd hne h1 h2 h3
  rw [upd_ne hne] at hd
  refine ⟨rfl, h.2 a d H' ha hd hne h1 h2 fun b hb hb2 => ?_⟩
  rw [h3 b hb hb2, upd_ne hb]
def tEx (C : Addr) (ns : List Str) (t : TA) : TE := fun σ H Q => t σ H fun vs H1 => NewEx C ns vs H1 Q
def tExK (C : Addr) (ns ks : List Str) (pm : List V → List V) (t : TA) : TE := fun σ H Q => t σ H fun zs H1 => zs.length = ks.length ∧ NewEx C ns (pm zs) H1 Q
theorem pe_ex {ns : List Str} {pm : {α : Type} → List α → List α} {j : Nat} (M : ExMk X.prog X.w X.K X.mg X.base k x C ns ks pm) (hx : Passes L2.CX0 X (fun _ _ _ => False)) (hr : Room j X.A) (hk : k + 1 ≤ j) (hg : Gl X x) (ha : PA X (e :: es) t)
    (hdb : (x == ("__debug__" : Str)) = false := by decide) (he : starEach (e :: es) X.env = (false, eval e X.env) :: starEach es X.env := by rfl)
    (hpl : (backTo pos (starEach es X.env)).any (·.1) = false := by rfl) : PE X (.Call (.Name x p) (e :: es) [] pos) (tEx C ns t) := by
  obtain ⟨fI, fd, iC, tI, F, hb, _⟩ := M.init
  constructor
  intro pins s σ H Q I h
  refine wpAny_Call_Name_kw (ld_glob I hg M.mgx ?_ hdb)
  refine PySem.W.callWith_K (h₀ := X.base) I.ok.mod.kin M.ex.kC (thn (ha.run pos pins s σ H _ I h) ?_) he hpl
  rintro us s1 ⟨vs, H1, I1, r, q⟩
  exact ⟨I1.kIn, run_ex (ks := []) (ws := []) (zs := []) M.ex iC tI F (hr.mono hk) hb hx I1 r .nil q.1 rfl M.few fun a hn => newEx_of hn q⟩
theorem pe_exK {ns : List Str} {pm : {α : Type} → List α → List α} {j : Nat} (M : ExMk X.prog X.w X.K X.mg X.base k x C ns ks pm) (hx : Passes L2.CX0 X (fun _ _ _ => False)) (hr : Room j X.A) (hk : k + 1 ≤ j) (hg : Gl X x) (hkw : PK X kws tk)
    (hall : (backToKw pos (keywordEach kws X.env)).all (·.1.isSome) = true := by rfl)
    (hks : (backToKw pos (keywordEach kws X.env)).filterMap (·.1) = ks := by rfl)
    (hdb : (x == ("__debug__" : Str)) = false := by decide)
    (hpl : ((backTo pos (starEach [] X.env)).any (·.1) || (backToKw pos (keywordEach kws X.env)).any (·.1.isNone)) = false := by rfl) :
    PE X (.Call (.Name x p) [] kws pos) (tExK C ns ks pm tk) := by
  obtain ⟨fI, fd, iC, tI, F, _, hb⟩ := M.init
  constructor
  intro pins s σ H Q I h
  refine wpAny_Call_Name_kw (ld_glob I hg M.mgx ?_ hdb)
  refine PySem.W.callWith_KW0 (h₀ := X.base) I.ok.mod.kin M.ex.kC hall ?_ hpl
  refine thn (hkw.run pos pins s σ H _ I h) ?_
  rintro ws s1 ⟨zs, H1, I1, r, l, q⟩
  refine ⟨I1.kIn, ?_⟩
  rw [hks]
  exact run_ex (us := []) (vs := []) (n := 0) M.ex iC tI F (hr.mono hk) hb hx I1 .nil r rfl l (Nat.zero_le _) fun a hn => newEx_of hn q
/-- C() of a class without an own __init__ -/
theorem pe_ex0 {B newId initId : String} {bmB : List Value} (FB : ExcBaseFacts B newId initId bmB) (q0 : PySem.W.excIn X.K C bmB newId = true) (hm : X.mg x = some (.ref C)) (kC : PySem.W.keepIn X.K (.ref C) = true) (hg : Gl X x)
    (hdb : (x == ("__debug__" : Str)) = false := by decide) :
    PE X (.Call (.Name x p) [] [] pos) (fun _ H Q => ∀ a, H a = none → Q (.ref a) (upd H a (exo a C none))) := by
  constructor
  intro pins s σ H Q I h
  refine wpAny_Call_Name_kw (ld_glob I hg hm ?_ hdb)
  refine PySem.W.callWith_K0 I.kIn kC ?_
  change wpAny _ _ (call (.ref C) []) _ _ _
  obtain ⟨bm, N, nm, qn, bs, hdct, sn, sub, ab, col, dd, k0, k1, k2, k3, k5, mN, hC, hN, hni, T⟩ := exc_obj I.kIn q0
  refine wpAny_call_exc_subT FB T hC hN hni (fun h' a hm => ?_) (by show 0 ≤ sizeLine; exact Nat.zero_le _)
  have hn : H a = none := I.hok.gone hm.new
  obtain ⟨t, ht, _, _⟩ := hm.there
  exact ⟨.ref a, _, I.laidN hm.keeps hm.new hn (exo_ok ht), rfl, h a hn⟩
/-- e.f, a field of such an exception -/
def tExF (K : PySem.W.Frag) (f : Str) (te : TE) : TE := fun σ H Q => te σ H fun x H1 => ∃ (a C d : Addr) (fs : List (Str × V)) (v : V), x = .ref a ∧ H1 a = some (exo a C (some d)) ∧ H1 d = some (exd d fs) ∧
  XfC K C ∧ PySem.W.findIn K (.ref C) f = some none ∧ fs.lookup f = some v ∧ Q v H1
theorem inst_of {pins : List (Addr × Obj)} {σ : L2.St} {H : Hp} {s : Shared} {a d : Addr} {fs : List (Str × V)} (I : Inv X pins σ H s) (ea : H a = some (exo a C (some d))) (ed : H d = some (exd d fs)) :
    ∃ (ox od : Obj), PySem.W.InstAt s.heap a ox C (some od) ∧ ∀ f, ∃ o, PySem.W.lookIn f od = some o ∧ RelO (fs.lookup f) o := by
  obtain ⟨t1, ho⟩ := exo_at I.hok ea
  obtain ⟨mA, hns, rel⟩ := exd_at I.hok ed
  obtain ⟨od, hd, hl⟩ := lookIn_ns hns
  exact ⟨_, od, ⟨ho, rfl, rfl, hd⟩, fun f => ⟨mA f, hl f, rel f⟩⟩
theorem pe_exf {f : Str} {te : TE} (he : PE X e te) (hb : attributeBase e f X.env (eval e X.env) = eval e X.env := by rfl) : PE X (.Attribute e f pos) (tExF X.K f te) := by
  constructor
  intro pins s σ H Q I h
  refine attr_of hb (thn (he.run pins s σ H _ I h) ?_)
  rintro u s1 ⟨x, H1, I1, rx, a, C, d, fs, v, rfl, ea, ed, T, hno, l, q⟩
  obtain rfl : u = Value.ref a := rx
  obtain ⟨ox, od, J, hl⟩ := inst_of I1 ea ed
  obtain ⟨o, l1, l2⟩ := hl f
  obtain ⟨u, rfl, ru⟩ := RelO.some_of (v := v) (o := o) (by rw [← l]; exact l2)
  exact PySem.HandSPX.exc_get I1.kIn J T.ga T.gg T.exC (PySem.W.findObj_own T.hdC hno rfl (by rw [l1])) (handed_of ru) ⟨v, H1, I1.tok _, ru, q⟩
/-- at a: such an exception, with a dict or without one -/
def ExThere (H : Hp) (a C : Addr) : Prop := H a = some (exo a C none) ∨ ∃ d fs, H a = some (exo a C (some d)) ∧ H d = some (exd d fs)
theorem kit_ex {pins : List (Addr × Obj)} {σ : L2.St} {H : Hp} {s : Shared} {a : Addr} (I : Inv X pins σ H s) (T : ExI X.K C) (h : ExThere H a C) : ∃ Pr : Heap → Prop, PySem.W.KitX X.K (.ref a) (.ref C) Pr ∧ Pr s.heap := by
  have hcl : (PySem.W.clsIn X.K C).isSome = true := by
    obtain ⟨cd, hcl, _⟩ := PySem.W.any_some T.xf.hdC
    rw [hcl]
    rfl
  rcases h with ea | ⟨d, fs, ea, ed⟩
  · obtain ⟨t1, ho⟩ := exo_at I.hok ea
    exact ⟨_, PySem.W.kitx_exc (ox := _) (od := none) hcl T.xf.ga T.xf.gg T.xf.exC T.ca T.cn T.ct T.cm, ho, rfl, rfl, trivial⟩
  · obtain ⟨ox, od, J, _⟩ := inst_of I ea ed
    exact ⟨_, PySem.W.kitx_exc (ox := ox) (od := some od) hcl T.xf.ga T.xf.gg T.xf.exC T.ca T.cn T.ct T.cm, J⟩
/-- isinstance(e, c) -/
theorem call_isX : CallR X (.builtin "isinstance") (fun xs H Q => ∃ (a C : Addr) (c : V) (u : Value) (b : Bool), xs = [.ref a, c] ∧ ClsV c u ∧ ExThere H a C ∧ ExI X.K C ∧ PySem.W.kitOne X.K (.ref C) u = some b ∧ Q (.bl b) H) := by
  intro pins s σ H xs us Q I r h
  obtain ⟨a, C, c, u, b, rfl, k, hx, T, e, q⟩ := h
  obtain ⟨u1, u2, rfl, r1, r2⟩ := vals2 r
  obtain rfl := k.eq r2
  obtain rfl : u1 = Value.ref a := r1
  obtain ⟨Pr, Z, pr⟩ := kit_ex I T hx
  exact PySem.W.kia_one Z I.kIn pr e (fun z => nomatch z) fun tk => ⟨.bl b, H, I.tok tk, rfl, q⟩
theorem call_isXT : CallR X (.builtin "isinstance") (fun xs H Q => ∃ (a C tp : Addr) (cs : List V) (us : List Value) (b : Bool), xs = [.ref a, .ref tp] ∧ H tp = some (.tup cs) ∧ Paired ClsV cs us ∧ ExThere H a C ∧ ExI X.K C ∧ PySem.W.kitAny X.K (.ref C) us = some b ∧ Q (.bl b) H) := by
  intro pins s σ H xs us Q I r h
  obtain ⟨a, C, tp, cs, ws, b, rfl, hT, k, hx, T, e, q⟩ := h
  obtain ⟨u1, u2, rfl, r1, r2⟩ := vals2 r
  obtain rfl : u1 = Value.ref a := r1
  obtain rfl : u2 = Value.ref tp := r2
  obtain ⟨Pr, Z, pr⟩ := kit_ex I T hx
  have ot : ObjOk X.prog X.w H s.heap tp (.tup cs) := I.hok tp _ hT
  obtain ⟨_, its, rv, o, h1, h2, n, h3⟩ := ot
  obtain rfl := ClsV.all k rv
  cases o with
  | mk oc od dt sl =>
    simp only at h2 h3
    subst h2 h3
    exact PySem.W.kia_tup Z I.kIn pr h1 e (fun z => nomatch z) fun tk => ⟨.bl b, H, I.tok tk, rfl, q⟩
end
end L2

/-! exceptions: raise C(..), try: .. except C as e: .., e.f, isinstance(e, ..) -/
namespace DL
open PySem PySem.Spec PyProof.Rows L2 Kit

/-! ### raise -/
/-- what a made exception with fields is, thrown -/
def tMkE (C : Addr) (ns : List Str) (t : TA) : L2.St → Hp → XK → Prop := fun σ H Q => t σ H fun vs H1 => vs.length = ns.length ∧ ∀ d, H1 d = none → Q (.ref C) (some d) (upd H1 d (.xd (ns.zip vs).reverse))
section
variable {X : Cx} {C : Addr} {k j : Nat} {x : Str} {p pos : Pos} {e : Expr} {es : List Expr} {t : TA} {ns ks : List Str} {pm : {α : Type} → List α → List α}
theorem spEx_raise {H : Hp} {Q : XK} {E : XK} {vs : List V} {a : Addr} (ha : H a = none) (hl : vs.length = ns.length) (h : ∀ d, H d = none → Q (.ref C) (some d) (upd H d (.xd (ns.zip vs).reverse))) :
    spEx C ns (.ref a :: vs) (upd H a (exo a C none)) (fun v H2 => v = .non ∧ ∃ (d : Addr) (fs : List (Str × V)), H2 a = some (exo a C (some d)) ∧ H2 d = some (exd d fs) ∧ H d = none ∧ Q (.ref C) (some d) (upd (del H2 a) d (.xd fs))) E := by
  refine ⟨a, vs, rfl, hl, upd_same, fun d H' hd hne e1 e2 e3 => ⟨rfl, d, _, e1, e2, ?_, ?_⟩⟩
  · rw [← hd, upd_ne hne]
  · have hn : H d = none := by rw [← hd, upd_ne hne]
    have e : upd (del H' a) d (.xd (ns.zip vs).reverse) = upd H d (.xd (ns.zip vs).reverse) := by
      funext b
      by_cases hb : b = d
      · rw [hb, upd_same, upd_same]
      · rw [upd_ne hb, upd_ne hb]
        by_cases ba : b = a
        · rw [ba, del_same, ha]
        · rw [del_ne ba, e3 b ba hb, upd_ne ba]
    rw [e]
    exact h d hn
theorem pmk_ex (M : ExMk X.prog X.w X.K X.mg X.base k x C ns ks pm) (ty : PySem.W.typeIn X.K (.ref C) = some (.type "type")) (hr : Room j X.A) (hk : k + 1 ≤ j) (hg : Gl X x) (ha : PA X (e :: es) t)
    (hdb : (x == ("__debug__" : Str)) = false := by decide) (he : starEach (e :: es) X.env = (false, eval e X.env) :: starEach es X.env := by rfl)
    (hpl : (backTo pos (starEach es X.env)).any (·.1) = false := by rfl) : PMk X (.Call (.Name x p) (e :: es) [] pos) (tMkE C ns t) := by
  obtain ⟨fI, fd, iC, tI, F, hb, _⟩ := M.init
  intro pins s σ H Q I h
  refine wpAny_Call_Name_kw (ld_glob I hg M.mgx (PySem.W.callWith_K (h₀ := X.base) I.ok.mod.kin M.ex.kC (thn (ha.run pos pins s σ H _ I h) fun us s1 ⟨vs, H1, I1, r1, hl, q1⟩ => ⟨I1.kIn, ?_⟩) he hpl) hdb)
  obtain ⟨B, S, newId, initId, bF, bmB, FB, _, hT, hin, _⟩ := M.ex.base
  obtain ⟨nm, N', qn, bs, bm, hdct, sn, sub, ab, col, dd, k0, k1, k2, k3, k5, hC, hbm⟩ := PySem.W.excInit_of I1.kIn hin
  have hT2 : bm.contains (.type B) = true ∧ bm.contains (.type "AttributeError") = false ∧ bm.contains (.type "NameError") = false :=
    ⟨(hbm _).trans hT.1, (hbm _).trans hT.2.1, (hbm _).trans hT.2.2⟩
  obtain ⟨hp, g, dr, tk, os⟩ := s1
  have big : hp.objs.size ≤ hp.objs.size + 1 := Nat.le_succ _
  have hn : H1 (hp.objs.size + 1) = none := I1.hok.fresh big
  have kp : ∀ b o, hp.get? b = some o → ((hp.push (PySem.W.kdv_tup us)).push (PySem.HandSPX.excO C hp.objs.size)).get? b = some o :=
    fun b o z => Heap.get?_push_of_some _ (Heap.get?_push_of_some _ z)
  have ge : ((hp.push (PySem.W.kdv_tup us)).push (PySem.HandSPX.excO C hp.objs.size)).get? (hp.objs.size + 1) = some (PySem.HandSPX.excO C hp.objs.size) := by heap_get
  have J := I1.laid (t' := tk) (a := hp.objs.size + 1) (o := exo (hp.objs.size + 1) C none) kp big (exo_ok ge)
  have rr : Vals (V.ref (hp.objs.size + 1) :: vs) (Value.ref (hp.objs.size + 1) :: us) := .cons rfl r1
  have hz : us.length ≤ sizeLine := by
    have := r1.length
    have := M.few
    rw [sizeLine_eq]
    omega
  have hq := spEx_raise (C := C) (E := fun _ _ _ => False) (Q := Q) hn hl q1
  refine wpAny_call (PySem.Ex4.call_kw FB hT2 hC hz (PySem.W.looks_findIn I1.kIn iC) (fun self => PySem.W.bind_fn I1.kIn self tI) (codeAny_mono (F.run _ X.stack _ _ ⟨Value.ref (hp.objs.size + 1) :: us, []⟩
    (Value.ref (hp.objs.size + 1) :: us) _ _ (fun _ _ _ => False) ((hr.mono hk).make C us []) (J.env0.make C us []) (hb.to _ _ [] J.kIn (by rw [← rr.length, List.length_cons, hl]) rfl) rr hq) ?_))
  intro r s' hq'
  cases r with
  | error er => exact hq'.elim
  | ok fl =>
    cases fl with
    | ret u =>
      obtain ⟨v, H2, os2, bare2, un2, hok2, rv, ev, d, fs, ea, ed, hd1, q2⟩ := hq'
      subst ev
      obtain ⟨h2, g2, d2, t2, os'⟩ := s'
      exact ⟨rv, mk_end (raises_own M.ex.xf.exC ty) I1 big kp un2 hok2 os2 bare2 ea ed hd1 q2⟩
    | next => exact hq'.elim
    | brk => exact hq'.elim
    | cont => exact hq'.elim
end
section
variable {K : PySem.W.Frag} {dk : DK} {S S' : Pl} {μ μ' : Mu} {H H' : Hp}
theorem RepA.rev {ds : List D} {vs : List V} (h : RepA K S μ H ds vs) : RepA K S μ H ds.reverse vs.reverse := by
  induction ds generalizing vs with
  | nil => cases h; exact .nil
  | cons d ds ih =>
    cases h with
    | cons h t =>
      rw [List.reverse_cons, List.reverse_cons]
      exact (ih t).app (.cons h .nil)
theorem map_fst {α β : Type} : ∀ {xs : List α} {ys : List β}, ys.length = xs.length → (xs.zip ys).map (·.1) = xs
  | [], _, _ => rfl
  | _ :: _, [], h => by cases h
  | x :: xs, y :: ys, h => by rw [List.zip_cons_cons, List.map_cons, map_fst (by simpa using h)]
theorem map_snd {α β : Type} : ∀ {xs : List α} {ys : List β}, ys.length = xs.length → (xs.zip ys).map (·.2) = ys
  | [], [], _ => rfl
  | [], _ :: _, h => by cases h
  | _ :: _, [], h => by cases h
  | x :: xs, y :: ys, h => by rw [List.zip_cons_cons, List.map_cons, map_snd (by simpa using h)]
theorem repF_of {ns : List Str} {ds : List D} {vs : List V} (r : RepA K S μ H ds vs) (hl : ds.length = ns.length) : RepF K S μ H (ns.zip ds).reverse (ns.zip vs).reverse := by
  have hv : vs.length = ns.length := r.len.symm.trans hl
  refine ⟨?_, ?_⟩
  · rw [List.map_reverse, List.map_reverse, map_fst hl, map_fst hv]
  · rw [List.map_reverse, List.map_reverse, map_snd hl, map_snd hv]
    exact r.rev
theorem RepF.ex (x : Ex S μ H S' μ' H') {fs : List (Str × D)} {vs : List (Str × V)} (h : RepF K S μ H fs vs) : RepF K S' μ' H' fs vs := ⟨h.1, h.2.ex x⟩
theorem RepF.get {n : Str} : ∀ {fs : List (Str × D)} {vs : List (Str × V)} {d : D}, RepF K S μ H fs vs → fs.lookup n = some d → ∃ v, vs.lookup n = some v ∧ Rep K S μ H d v
  | [], _, _, _, h => by cases h
  | (m, x) :: fs, [], _, ⟨h, _⟩, _ => by cases h
  | (m, x) :: fs, (m2, y) :: vs, d, ⟨h, r⟩, e => by
    obtain ⟨e1, e2⟩ := List.cons.inj (show m :: fs.map (·.1) = m2 :: vs.map (·.1) from h)
    subst e1
    cases (r : RepA K S μ H (x :: fs.map (·.2)) (y :: vs.map (·.2))) with
    | cons h1 h2 =>
      by_cases hm : n = m
      · subst hm
        rw [List.lookup_cons_self] at e ⊢
        cases e
        exact ⟨y, rfl, h1⟩
      · have hb : (n == m) = false := by simpa using hm
        rw [List.lookup_cons, hb] at e ⊢
        exact RepF.get ⟨e2, h2⟩ e
end
def sRaise (C : Addr) (ns : List Str) (fa : DS → W (List D)) : DS → W Fl := fun ε => W.bnd (fa ε) fun ds => W.chk (ds.length = ns.length) (W.exn ⟨C, (ns.zip ds).reverse, ε⟩)
/-- what a class that is raised must have -/
structure ExR (P : Program) (w : World) (K : PySem.W.Frag) (mg : Str → Option Value) (base : Heap) (k : Nat) (x : Str) (C : Addr) (ns : List Str) : Prop where
  mkx : ∃ (ks : List Str) (pm : {α : Type} → List α → List α), ExMk P w K mg base k x C ns ks pm
  ty : PySem.W.typeIn K (.ref C) = some (.type "type")
section
variable {X : Cx} {dk : DK} {c : LC X.K dk} {C : Addr} {k j : Nat} {x : Str} {p p' pos : Pos} {e : Expr} {es : List Expr} {ns : List Str} {fa : DS → W (List D)}
theorem ds_raise (M : ExR X.prog X.w X.K X.mg X.base k x C ns) (hc : X.calm = true) (tk : Takes X c.x) (hr : Room j X.A) (hk : k + 1 ≤ j) (hg : Gl X x) (ha : PA X (e :: es) (lowA X.K dk c fa))
    (hdb : (x == ("__debug__" : Str)) = false := by decide) (he : starEach (e :: es) X.env = (false, eval e X.env) :: starEach es X.env := by rfl)
    (hpl : (backTo pos (starEach es X.env)).any (·.1) = false := by rfl) : PS X (.Raise (some (.Call (.Name x p) (e :: es) [] pos)) none p') (lowS X.K dk c (sRaise C ns fa)) := by
  obtain ⟨⟨ks, pm, mk⟩, ty⟩ := M
  refine ps_w (ps_raise hc tk (pmk_ex mk ty hr hk hg ha hdb he hpl)) fun Dn σ H ⟨ε, S, μ, lk, ok, rs, run⟩ => ?_
  refine ⟨ε, S, μ, lk, ok, rs, W.up run fun ds μ1 run1 vs S1 H1 ex1 ok1 rep1 => ?_⟩
  obtain ⟨hl, q⟩ := run1
  refine ⟨rep1.len.symm.trans hl, fun d hd => ?_⟩
  have ex2 : Ex S1 μ1 H1 S1 μ1 (upd H1 d (.xd (ns.zip vs).reverse)) := new_ex ok1 hd
  exact c.xl (e := ⟨C, (ns.zip ds).reverse, ε⟩) (c.up lk ex1) q d _ S1 _ σ ex2 (new_ok ok1 hd) upd_same (ok1.dead hd) ((repF_of rep1 hl).ex ex2) ((rs.ex ex1).ex ex2)
end

/-! ### try: .. except C as e: .. -/
def unset (i : Nat) : Fl → Fl
  | .nx ε => .nx (ε.set i none)
  | .rt d => .rt d
  | .bk ε => .bk (ε.set i none)
  | .ct ε => .ct (ε.set i none)
/-- what the clause does of an exception -/
def catchW (i : Nat) (cat : Addr → Option Bool) (fu : Addr → Exn → DS → W Fl) (Q : Fl → Mu → Prop) (E : Exn → Mu → Prop) : Exn → Mu → Prop := fun x μ =>
  (cat x.C = some true ∧ ∀ a, (fu a x (x.sl.set i (some (.adr a)))).run (fun fl μ' => Q (unset i fl) μ') (fun _ _ => False) μ) ∨ (cat x.C = some false ∧ E x μ)
def sTry (i : Nat) (cat : Addr → Option Bool) (fb : DS → W Fl) (fu : Addr → Exn → DS → W Fl) : DS → W Fl := fun ε =>
  ⟨fun Q E μ => (fb ε).run Q (catchW i cat fu Q E) μ, fun h h2 q => (fb ε).mono h (fun x μ' z => z.elim
    (fun ⟨z1, z2⟩ => .inl ⟨z1, fun a => (fu a x _).mono (fun _ _ y => h _ _ y) (fun _ _ y => y) (z2 a)⟩) fun ⟨z1, z2⟩ => .inr ⟨z1, h2 _ _ z2⟩) q⟩
section
variable {X : Cx} {dk : DK} {c : LC X.K dk} {C : Addr} {i : Nat} {x n : Str} {body suite : List Stmt} {b₀ : Stmt} {np pos pos' : Pos} {fb : DS → W Fl} {fu : Addr → Exn → DS → W Fl} {cat : Addr → Option Bool}
/-- what is known in a suite -/
def XdAt (K : PySem.W.Frag) (dk : DK) (c : LC K dk) (d : Addr) (y : Exn) : Prop := ∀ S μ H, c.lk S μ H → ∃ vs, H d = some (.xd vs) ∧ ¬ live S μ d ∧ RepF K S μ H y.fs vs
/-- the letters of a suite -/
def cSu (K : PySem.W.Frag) (dk : DK) (S : Pl) (μ : Mu) (H : Hp) : LC K dk := ⟨fun _ _ => False, fun S' μ' H' => Ex S μ H S' μ' H', fun _ _ _ _ => False, fun a b => a.trans b, fun _ h => h.elim⟩
def tsD (X : Cx) (dk : DK) (cat : Addr → Option Bool) (fu : Addr → Exn → DS → W Fl) : Addr → Value → Option Addr → TS := fun a cls d D σ H =>
  ∃ (y : Exn) (dd : Addr) (c' : LC X.K dk), cls = .ref y.C ∧ d = some dd ∧ XdAt X.K dk c' dd y ∧ c'.x = (fun _ _ _ _ => False) ∧ cat y.C = some true ∧ lowS X.K dk c' (fu a y) D σ H
theorem ds_try (hs : X.stack = X.env :: X.outer) (hf : X.env.frame = some X.env.locals) (hN : X.N.Nodup) (hi : X.N[i]? = some n) (hln : X.env.kindOf n = some .local) (hc : Names X x (.ref C))
    (hm : ∀ C' b, cat C' = some b → PySem.W.exmOne X.K (.ref C') (.ref C) = some b) (tk : Takes X c.x)
    (hb : ∀ (c' : LC X.K dk) (pn : List (Addr × Obj)) (xe : Value → Shared → Prop), Takes (X.tr pn xe) c'.x → PSs (X.tr pn xe) body (lowS X.K dk c' fb))
    (hsu : ∀ (a : Addr) (oe : Obj) (d : Addr) (y : Exn) (c' : LC X.K dk) (pn : List (Addr × Obj)), Zc (.ref y.C) (some d) oe → (∃ vs, oe.data = .fields vs) → XdAt X.K dk c' d y → Takes (X.suite a ((a, oe) :: pn)) c'.x → cat y.C = some true →
      PSs (X.suite a ((a, oe) :: pn)) (b₀ :: suite) (lowS X.K dk c' (fu a y))) :
    PS X (.Try body [.ExceptHandler (some (.Name x np)) (some n) (b₀ :: suite) pos'] [] [] pos) (lowS X.K dk c (sTry i cat fb fu)) := by
  refine ps_w (ps_try_as (tb := fun w D σ H => ∃ c' : LC X.K dk, c'.x = w ∧ lowS X.K dk c' fb D σ H)
    (ts := tsD X dk cat fu)
    (Wout := c.x) hs hf hN hi hln hc tk (fun w pn xe tw _ => ⟨fun pins s σ H D I ⟨c', e, q⟩ => (hb c' pn xe (e ▸ tw)).run pins s σ H D I q⟩)
    (fun a oe cls d pn hz hd => ⟨fun pins s σ H D I ⟨y, dd, c', e1, e2, hx, ex, hcat, q⟩ => by
      subst e1 e2
      exact (hsu a oe dd y c' pn hz hd hx (ex ▸ takes_none5) hcat).run pins s σ H D I q⟩)) fun Dn σ H ⟨ε, S, μ, lk, ok, rs, run⟩ => ?_
  refine ⟨⟨catchW i cat fu (PostS X.K dk S μ H Dn) c.E, fun S' μ' H' => Ex S μ H S' μ' H', wAs X.K (.ref C) i (tsD X dk cat fu) c.x Dn, fun a b => a.trans b, ?_⟩, rfl, ε, S, μ, Ex.refl, ok, rs, run⟩
  intro S1 μ1 μ2 H1 y lk1 q d vs S' H' σ' ex ok' hd nl rf rs'
  rcases q with ⟨hcat, q⟩ | ⟨hcat, q⟩
  · refine ⟨true, hm _ _ hcat, fun _ a _ => ?_, fun z => by cases z⟩
    refine ⟨y, d, cSu X.K dk S' μ2 H', rfl, rfl, fun S2 μ3 H2 ex2 => ?_, rfl, hcat, ?_⟩
    · obtain ⟨h1, h2⟩ := ex2.keep d _ hd nl
      exact ⟨vs, h1, h2, rf.ex ex2⟩
    · refine ⟨y.sl.set i (some (.adr a)), S', μ2, Ex.refl, ok', rs'.set i (.adr a), (fu a y _).mono (fun fl μ3 q => ?_) (fun _ _ z => z) (q a)⟩
      cases fl with
      | nx ε2 => exact fun σ2 S2 H2 ex2 ok2 rs2 => q _ S2 H2 ((lk1.trans ex).trans ex2) ok2 (rs2.forget i)
      | rt v => exact fun v S2 H2 ex2 ok2 r2 => q v S2 H2 ((lk1.trans ex).trans ex2) ok2 r2
      | bk ε2 => exact fun σ2 S2 H2 ex2 ok2 rs2 => q _ S2 H2 ((lk1.trans ex).trans ex2) ok2 (rs2.forget i)
      | ct ε2 => exact fun σ2 S2 H2 ex2 ok2 rs2 => q _ S2 H2 ((lk1.trans ex).trans ex2) ok2 (rs2.forget i)
  · refine ⟨false, hm _ _ hcat, fun z => (by cases z), fun _ => ?_⟩
    exact c.xl (c.up lk lk1) q d vs S' H' σ' ex ok' hd nl rf rs'
end

/-! ### within a suite -/
section
variable {X : Cx} {dk : DK} {a d : Addr} {y : Exn} {oe : Obj} {pn : List (Addr × Obj)} {c : LC X.K dk} {n : Str} {e e2 : Expr} {f : DS → W D} {fs : DS → W (List D)} {p pos : Pos}
/-- e.f -/
def dXf (a : Addr) (y : Exn) (n : Str) (f : DS → W D) : DS → W D := fun ε => W.bnd (f ε) fun x => match x with
  | .adr b => W.chk (b = a) (W.opt (y.fs.lookup n))
  | _ => W.fail
theorem de_xf (T : XfC X.K y.C) (hno : PySem.W.findIn X.K (.ref y.C) n = some none) (hz : Zc (.ref y.C) (some d) oe) (hf : ∃ vs, oe.data = .fields vs) (hx : XdAt X.K dk c d y)
    (he : PE (X.suite a ((a, oe) :: pn)) e (lowE X.K dk c f)) (hb : attributeBase e n X.env (eval e X.env) = eval e X.env := by rfl) :
    PE (X.suite a ((a, oe) :: pn)) (.Attribute e n pos) (lowE X.K dk c (dXf a y n f)) :=
  pe_w (X := X.suite a ((a, oe) :: pn)) (pe_xf T hno hz hf he hb) fun σ H Q ⟨ε, S, μ, lk, ok, rs, run⟩ => by
    refine ⟨ε, S, μ, lk, ok, rs, W.up run fun dx μ1 run1 v S1 H1 ex1 ok1 rep1 => ?_⟩
    cases dx with
    | adr b =>
      cases rep1
      obtain ⟨e1, run1⟩ := (run1 : b = a ∧ (W.opt (y.fs.lookup n)).run (Post X.K dk S μ H Q) c.E μ1)
      subst e1
      obtain ⟨vs, h1, h2, h3⟩ := hx S1 μ1 H1 (c.up lk ex1)
      cases hl : y.fs.lookup n with
      | none => rw [hl] at run1; exact run1.elim
      | some dv =>
        rw [hl] at run1
        obtain ⟨w, l, r⟩ := h3.get hl
        exact ⟨rfl, rfl, d, vs, w, rfl, h1, l, run1 w S1 H1 ex1 ok1 r⟩
    | _ => exact run1.elim
theorem kit_pin {pins : List (Addr × Obj)} {σ : L2.St} {H : Hp} {s : Shared} {vs : List (Str × V)} (I : Inv (X.suite a ((a, oe) :: pn)) pins σ H s) (T : ExI X.K y.C) (hz : Zc (.ref y.C) (some d) oe) (hf : ∃ vs, oe.data = .fields vs)
    (ed : H d = some (.xd vs)) : ∃ Pr : Heap → Prop, PySem.W.KitX X.K (.ref a) (.ref y.C) Pr ∧ Pr s.heap := by
  obtain ⟨cd, hcl, _⟩ := PySem.W.any_some T.xf.hdC
  obtain ⟨ha, _⟩ := I.pin (a, oe) (List.mem_append_left _ List.mem_cons_self)
  obtain ⟨ws, hd⟩ := hf
  have hx : ObjOk X.prog X.w H s.heap d (.xd vs) := I.hok d _ ed
  obtain ⟨mA, hns, _⟩ := hx
  obtain ⟨od, ho, _⟩ := lookIn_ns hns
  exact ⟨_, PySem.W.kitx_exc (ox := oe) (od := some od) (by rw [hcl]; rfl) T.xf.ga T.xf.gg T.xf.exC T.ca T.cn T.ct T.cm, ha, hz.1, by unfold PySem.W.notCls; rw [hd] <;> rfl, by rw [hz.2]; exact ho⟩
/-- a class, as data -/
def clsD : D → Option Value
  | .ty n => some (.type n)
  | .adr C => some (.ref C)
  | _ => none
def clsDs : List D → Option (List Value)
  | [] => some []
  | x :: xs => (clsD x).bind fun u => (clsDs xs).map (u :: ·)
theorem cls_rep {K : PySem.W.Frag} {S : Pl} {μ : Mu} {H : Hp} {dx : D} {v : V} {u : Value} (r : Rep K S μ H dx v) (h : clsD dx = some u) : ClsV v u := by
  cases dx <;> first | (cases h; done) | skip
  · cases h; cases r; exact .ty _
  · cases h; cases r; exact .own _
theorem clss_rep {K : PySem.W.Frag} {S : Pl} {μ : Mu} {H : Hp} : ∀ {ds : List D} {vs : List V} {us : List Value}, RepA K S μ H ds vs → clsDs ds = some us → Paired ClsV vs us
  | [], _, _, .nil, h => by cases h; exact .nil
  | x :: xs, _, _, .cons r t, h => by
    rw [clsDs] at h
    obtain ⟨u, h1, h2⟩ := bind_inv h
    obtain ⟨us, h3, rfl⟩ := map_inv h2
    exact .cons (cls_rep r h1) (clss_rep t h3)
/-- isinstance(e, c), isinstance(e, (c, ..)), e the suite's exception -/
def gIsE (a : Addr) (is : D → Option Bool) : List D → W D
  | [.adr b, z] => W.chk (b = a) (W.bnd (W.opt (is z)) fun t => W.ret (.bl t))
  | _ => W.fail
/-- what is said of the exceptions of C is so -/
def IsOk (K : PySem.W.Frag) (C : Addr) (is : D → Option Bool) : Prop := ∀ z t, is z = some t → (∃ u, clsD z = some u ∧ PySem.W.kitOne K (.ref C) u = some t) ∨ ∃ cs us, z = .tup cs ∧ clsDs cs = some us ∧ PySem.W.kitAny K (.ref C) us = some t
theorem call_isE (T : ExI X.K y.C) (hz : Zc (.ref y.C) (some d) oe) (hf : ∃ vs, oe.data = .fields vs) : CallR (X.suite a ((a, oe) :: pn)) (.builtin "isinstance") (fun xs H Q => (∃ vs, H d = some (.xd vs)) ∧
    ((∃ (z : V) (u : Value) (b : Bool), xs = [.ref a, z] ∧ ClsV z u ∧ PySem.W.kitOne X.K (.ref y.C) u = some b ∧ Q (.bl b) H) ∨
     (∃ (tp : Addr) (cs : List V) (us : List Value) (b : Bool), xs = [.ref a, .ref tp] ∧ H tp = some (.tup cs) ∧ Paired ClsV cs us ∧ PySem.W.kitAny X.K (.ref y.C) us = some b ∧ Q (.bl b) H))) := by
  intro pins s σ H xs us Q I r ⟨⟨vs, ed⟩, h⟩
  obtain ⟨Pr, Z, pr⟩ := kit_pin I T hz hf ed
  rcases h with ⟨z, u, b, rfl, k, e, q⟩ | ⟨tp, cs, ws, b, rfl, hT, k, e, q⟩
  · obtain ⟨u1, u2, rfl, r1, r2⟩ := vals2 r
    obtain rfl := k.eq r2
    obtain rfl : u1 = Value.ref a := r1
    exact PySem.W.kia_one Z I.kIn pr e (fun z => nomatch z) fun tk => ⟨.bl b, H, I.tok tk, rfl, q⟩
  · obtain ⟨u1, u2, rfl, r1, r2⟩ := vals2 r
    obtain rfl : u1 = Value.ref a := r1
    obtain rfl : u2 = Value.ref tp := r2
    have ot : ObjOk X.prog X.w H s.heap tp (.tup cs) := I.hok tp _ hT
    obtain ⟨_, its, rv, o, h1, h2, n, h3⟩ := ot
    obtain rfl := ClsV.all k rv
    cases o with
    | mk oc od dt sl =>
      simp only at h2 h3
      subst h2 h3
      exact PySem.W.kia_tup Z I.kIn pr h1 e (fun z => nomatch z) fun tk => ⟨.bl b, H, I.tok tk, rfl, q⟩
theorem de_isE {is : D → Option Bool} (T : ExI X.K y.C ∧ IsOk X.K y.C is) (hz : Zc (.ref y.C) (some d) oe) (hf : ∃ vs, oe.data = .fields vs) (hx : XdAt X.K dk c d y) (hg : Gl (X.suite a ((a, oe) :: pn)) "isinstance") (hm : X.mg "isinstance" = none)
    (ha : PA (X.suite a ((a, oe) :: pn)) [e, e2] (lowA X.K dk c fs))
    (he : starEach [e, e2] X.env = (false, eval e X.env) :: starEach [e2] X.env := by rfl) (hpl : (backTo pos (starEach [e2] X.env)).any (·.1) = false := by rfl) :
    PE (X.suite a ((a, oe) :: pn)) (.Call (.Name "isinstance" p) [e, e2] [] pos) (lowE X.K dk c (dCall (gIsE a is) fs)) :=
  pe_w (X := X.suite a ((a, oe) :: pn)) (pe_callB (X := X.suite a ((a, oe) :: pn)) (call_isE T.1 hz hf) hg hm rfl ha (by decide) (by decide) he hpl) fun σ H Q ⟨ε, S, μ, lk, ok, rs, run⟩ => by
    refine ⟨ε, S, μ, lk, ok, rs, W.up run fun ds μ1 run1 xs S1 H1 ex1 ok1 rep1 => ?_⟩
    obtain ⟨vs, h1, h2, h3⟩ := hx S1 μ1 H1 (c.up lk ex1)
    refine ⟨⟨vs, h1⟩, ?_⟩
    have run1 : (gIsE a is ds).run (Post X.K dk S μ H Q) c.E μ1 := run1
    cases rep1 with
    | nil => exact run1.elim
    | @cons dx vx _ _ r1 t1 =>
      cases t1 with
      | nil => cases dx <;> exact run1.elim
      | @cons z vz _ _ r2 t2 =>
        cases t2 with
        | cons _ _ => cases dx <;> exact run1.elim
        | nil =>
          cases dx with
          | adr b =>
            cases r1
            obtain ⟨e1, run2⟩ := (run1 : b = a ∧ ((W.opt (is z)).bnd fun t => W.ret (D.bl t)).run (Post X.K dk S μ H Q) c.E μ1)
            subst e1
            cases hk : is z with
            | none => rw [hk] at run2; exact run2.elim
            | some t =>
              rw [hk] at run2
              have q := run2 _ S1 H1 ex1 ok1 (.bl t)
              rcases T.2 z t hk with ⟨u, k1, k2⟩ | ⟨cs, us, rfl, k1, k2⟩
              · exact .inl ⟨_, u, t, rfl, cls_rep r2 k1, k2, q⟩
              · rcases r2 with _ | _ | _ | _ | _ | _ | @⟨_, tp, ws, hT, rT⟩
                exact .inr ⟨tp, ws, us, t, rfl, hT.1, clss_rep rT k1, k2, q⟩
          | _ => exact run1.elim
end
/-- the clause takes the exceptions of the class at C; no others are raised -/
noncomputable def catN (C : Addr) : Addr → Option Bool := fun C' => if C' = C then some true else none
theorem catN_eq {C C' : Addr} (h : catN C C' = some true) : C' = C := by
  unfold catN at h
  split at h
  · assumption
  · cases h
theorem catN_ok {K : PySem.W.Frag} {C : Addr} (h : PySem.W.exmOne K (.ref C) (.ref C) = some true) : ∀ C' b, catN C C' = some b → PySem.W.exmOne K (.ref C') (.ref C) = some b := fun C' b e => by
  unfold catN at e
  split at e
  · next hc =>
    cases e
    rw [hc]
    exact h
  · cases e
end DL

/-! times, [::-1], chains as tests, startswith -/
namespace DL
open PySem PySem.Spec PyProof.Rows L2 Kit

section
variable {K : PySem.W.Frag} {dk : DK}
def gMul : D → D → W D
  | .int i, .int j => W.chk (IntMulOk i j) (W.ret (.int (i * j)))
  | .str z, .int k => W.chk (z.length ≤ 100 ∧ 0 ≤ k ∧ k ≤ 10000) (W.ret (.str (Txt.mul z k)))
  | .lst xs, .int k => W.chk (-(2 ^ 63) ≤ k ∧ k < 2 ^ 63 ∧ xs.length * k.toNat ≤ sizeLine) (W.ret (.lst (List.replicate k.toNat xs).flatten))
  | _, _ => W.fail
def rRepS2 : R2 := fun x y H Q => ∃ (z : Str) (k : Int), x = .str z ∧ y = .int k ∧ z.length ≤ 100 ∧ 0 ≤ k ∧ k ≤ 10000 ∧ Q (.str (Txt.mul z k)) H
theorem op_repS2 {X : Cx} : OpR X (binaryOp .Mult) rRepS2 := by
  intro pins s σ H x y v u Q I rx ry ⟨z, k, e1, e2, hz, h0, hk, q⟩
  subst e1 e2
  obtain ⟨t, rfl⟩ := rx
  obtain ⟨t', rfl⟩ := ry
  exact SB.mul (mulOk_of 100 10000 hz hk (by omega) (by decide) (by decide)) fun tk k => ⟨.str _, H, I.tok _, ⟨_, rfl⟩, q⟩
def rMulA : R2 := fun x y H Q => rI IntMulOk (fun i j => .int (i * j)) x y H Q ∨ rRepS2 x y H Q ∨ rRep x y H Q
theorem o_mul {X : Cx} : OpR X (binaryOp .Mult) rMulA := OpR.or op_mulB (OpR.or op_repS2 op_rep)
theorem RepA.flat {S : Pl} {μ : Mu} {H : Hp} {ds : List D} {vs : List V} (h : RepA K S μ H ds vs) : ∀ n : Nat, RepA K S μ H (List.replicate n ds).flatten (List.replicate n vs).flatten
  | 0 => .nil
  | n + 1 => by
    rw [List.replicate_succ, List.replicate_succ, List.flatten_cons, List.flatten_cons]
    exact h.app (RepA.flat h n)
theorem l_mul : LR2 K dk rMulA (s2 gMul) := LV2.up fun {x y dx dy S μ H Q E} ok rx ry q => by
  unfold gMul at q
  split at q
  · cases rx; cases ry
    exact .inl ⟨_, _, rfl, rfl, q.1, q.2 _ S H Ex.refl ok (.int _)⟩
  · cases rx; cases ry
    exact .inr (.inl ⟨_, _, rfl, rfl, q.1.1, q.1.2.1, q.1.2.2, q.2 _ S H Ex.refl ok (.str _)⟩)
  · obtain ⟨a, vs, rfl, hx, rx⟩ := rx
    cases ry
    refine .inr (.inr ⟨a, _, vs, rfl, rfl, hx, q.1.1, q.1.2.1, by rw [← rx.len]; exact q.1.2.2, fun p hp => ?_⟩)
    exact q.2 (.ref p) S _ (new_ex ok hp) (new_ok ok hp) (new_lst ok hp (rx.flat _))
  · exact q.elim
def gAddI := oI0 fun i j => .int (i + j)
theorem l_addI : LR2 K dk (ipI fun i j => i + j) gAddI := fun {x y dx dy S μ H Q E} ok rx ry q => by
  unfold gAddI oI0 at q
  split at q
  · cases rx; cases ry
    exact ⟨_, _, rfl, rfl, q _ S H Ex.refl ok (.int _)⟩
  · exact q.elim
end
/-! == of two texts, two whole numbers, and of any data -/
section
variable {K : PySem.W.Frag} {dk : DK}
def gE2 (neg : Bool) : D → D → W D
  | .str a, .str b => W.ret (.bl (if neg then !decide (a = b) else decide (a = b)))
  | .int a, .int b => W.ret (.bl (if neg then !decide (a = b) else decide (a = b)))
  | .lst xs, .lst [] => W.ret (.bl (if neg then !xs.isEmpty else xs.isEmpty))
  | x, y => gEq neg x y
theorem decS (a b : Str) : decide (V.str a = V.str b) = decide (a = b) := by
  by_cases h : a = b
  · rw [decide_eq_true h, h, decide_eq_true rfl]
  · rw [decide_eq_false h, decide_eq_false (fun z => h (by cases z; rfl))]
theorem decI (a b : Int) : decide (V.int a = V.int b) = decide (a = b) := by
  by_cases h : a = b
  · rw [decide_eq_true h, h, decide_eq_true rfl]
  · rw [decide_eq_false h, decide_eq_false (fun z => h (by cases z; rfl))]
def rEq2 (K : PySem.W.Frag) : R2 := fun x y H Q => rEq x y H Q ∨ rEqNil K x y H Q ∨ rEqD K x y H Q
def rNe2 (K : PySem.W.Frag) : R2 := fun x y H Q => rNe x y H Q ∨ rNeNil K x y H Q ∨ rNeD K x y H Q
theorem o_eq2 {X : Cx} (hu : X.A.units + 200 < cLine) : OpR X (compareOp .Eq) (rEq2 X.K) := OpR.or op_eq (OpR.or (op_eqNil hu) (op_eqD (by omega)))
theorem o_ne2 {X : Cx} (hu : X.A.units + 200 < cLine) : OpR X (compareOp .NotEq) (rNe2 X.K) := OpR.or op_ne (OpR.or (op_neNil hu) (op_neD (by omega)))
theorem l_eq2 : LR2 K dk (rEq2 K) (s2 (gE2 false)) := LV2.up fun {x y dx dy S μ H Q E} ok rx ry q => by
  unfold gE2 at q
  split at q
  · cases rx; cases ry
    exact .inl ⟨rfl, by rw [decS]; exact q _ S H Ex.refl ok (.bl _)⟩
  · cases rx; cases ry
    exact .inl ⟨rfl, by rw [decI]; exact q _ S H Ex.refl ok (.bl _)⟩
  · obtain ⟨a, vs, rfl, hx, rx⟩ := rx
    obtain ⟨b, ws, rfl, hy, ry⟩ := ry
    cases ry
    exact .inr (.inl ⟨a, b, vs, rfl, rfl, .inl (.inl hx), .inl (.inl hy), by rw [empty_rep rx]; exact q _ S H Ex.refl ok (.bl _)⟩)
  · refine .inr (.inr ?_)
    obtain ⟨p, h1, q⟩ := pyW_run (Q := fun p μ' => (W.bnd (pyW dy) fun q => W.chk (SeqAt.shaped p = true ∧ SeqAt.shaped q = true) (W.ret (D.bl (PyData.eqv p q)))).run (Post K dk S μ H Q) E μ') q
    obtain ⟨p2, h2, q⟩ := pyW_run (Q := fun q μ' => (W.chk (SeqAt.shaped p = true ∧ SeqAt.shaped q = true) (W.ret (D.bl (PyData.eqv p q)))).run (Post K dk S μ H Q) E μ') q
    exact ⟨p, p2, pyv_dp rx h1, pyv_dp ry h2, q.1.1, q.1.2, q.2 _ S H Ex.refl ok (.bl _)⟩
theorem l_ne2 : LR2 K dk (rNe2 K) (s2 (gE2 true)) := LV2.up fun {x y dx dy S μ H Q E} ok rx ry q => by
  unfold gE2 at q
  split at q
  · cases rx; cases ry
    exact .inl ⟨rfl, by rw [decS]; exact q _ S H Ex.refl ok (.bl _)⟩
  · cases rx; cases ry
    exact .inl ⟨rfl, by rw [decI]; exact q _ S H Ex.refl ok (.bl _)⟩
  · obtain ⟨a, vs, rfl, hx, rx⟩ := rx
    obtain ⟨b, ws, rfl, hy, ry⟩ := ry
    cases ry
    exact .inr (.inl ⟨a, b, vs, rfl, rfl, .inl (.inl hx), .inl (.inl hy), by rw [empty_rep rx]; exact q _ S H Ex.refl ok (.bl _)⟩)
  · refine .inr (.inr ?_)
    obtain ⟨p, h1, q⟩ := pyW_run (Q := fun p μ' => (W.bnd (pyW dy) fun q => W.chk (SeqAt.shaped p = true ∧ SeqAt.shaped q = true) (W.ret (D.bl (!PyData.eqv p q)))).run (Post K dk S μ H Q) E μ') q
    obtain ⟨p2, h2, q⟩ := pyW_run (Q := fun q μ' => (W.chk (SeqAt.shaped p = true ∧ SeqAt.shaped q = true) (W.ret (D.bl (!PyData.eqv p q)))).run (Post K dk S μ H Q) E μ') q
    exact ⟨p, p2, pyv_dp rx h1, pyv_dp ry h2, q.1.1, q.1.2, q.2 _ S H Ex.refl ok (.bl _)⟩
end
section
variable {X : Cx} {dk : DK} {c : LC X.K dk} {e o a b d : Expr} {f g h : DS → W D} {k : Nat} {p1 p2 p3 pos apos : Pos}
def rvT : D → W D
  | .tup xs => W.ret (.tup xs.reverse)
  | .ktp xs => W.ret (.tup xs.reverse)
  | _ => W.fail
def rvL : D → W D
  | .lst xs => W.ret (.lst xs.reverse)
  | _ => W.fail
theorem de_revT (he : PE X e (lowE X.K dk c f)) : PE X (.Subscript e (.Slice none none (some (.UnaryOp .USub (.Constant (.int 1) k p1) p2)) p3) pos) (lowE X.K dk c (dUn (s1 rvT) f)) := pe_w (X7.pe_revT he) fun σ H Q ⟨ε, S, μ, lk, ok, rs, run⟩ => by
  refine ⟨ε, S, μ, lk, ok, rs, W.up run fun dx μ1 run1 v S1 H1 ex1 ok1 rep1 => ?_⟩
  obtain ⟨d', vw, q⟩ := see_vw ok1 rep1 (Q := fun x μ' => (rvT x).run (Post X.K dk S μ H Q) c.E μ') run1
  cases d' with
  | tup xs =>
    rcases vw with _ | _ | _ | _ | _ | _ | @⟨_, a, vs, hx, rx⟩
    exact ⟨a, vs, rfl, hx.sq, fun p hp => q (.ref p) S1 _ (ex1.trans (new_ex ok1 hp)) (new_ok ok1 hp) (new_tup ok1 hp rx.rev)⟩
  | ktp xs =>
    rcases vw with _ | _ | _ | _ | _ | _ | _ | _ | @⟨_, a, vs, hx, rx⟩
    exact ⟨a, vs, rfl, kt_sq hx, fun p hp => q (.ref p) S1 _ (ex1.trans (new_ex ok1 hp)) (new_ok ok1 hp) (new_tup ok1 hp rx.rev)⟩
  | _ => exact q.elim
theorem de_revL (he : PE X e (lowE X.K dk c f)) : PE X (.Subscript e (.Slice none none (some (.UnaryOp .USub (.Constant (.int 1) k p1) p2)) p3) pos) (lowE X.K dk c (dUn (s1 rvL) f)) := pe_w (pe_revL he) fun σ H Q ⟨ε, S, μ, lk, ok, rs, run⟩ => by
  refine ⟨ε, S, μ, lk, ok, rs, W.up run fun dx μ1 run1 v S1 H1 ex1 ok1 rep1 => ?_⟩
  obtain ⟨d', vw, q⟩ := see_vw ok1 rep1 (Q := fun x μ' => (rvL x).run (Post X.K dk S μ H Q) c.E μ') run1
  cases d' with
  | lst xs =>
    obtain ⟨a, vs, rfl, hx, rx⟩ := vw
    exact ⟨a, vs, rfl, .inl (.inl hx), fun p hp => q (.ref p) S1 _ (ex1.trans (new_ex ok1 hp)) (new_ok ok1 hp) (new_lst ok1 hp rx.rev)⟩
  | _ => exact q.elim
theorem dt_chain {op op' : CmpOp} {r r' : R2} {k k' : D → D → W D} (ho : OpR X (compareOp op) r) (ho' : OpR X (compareOp op') r') (l : LR2 X.K dk r k) (l' : LR2 X.K dk r' k') (ha : PE X a (lowE X.K dk c f)) (hb : PE X b (lowE X.K dk c g)) (hd : PE X d (lowE X.K dk c h))
    (hm : lastMarks [op, op'] [b, d] = false := by with_unfolding_all rfl) : PT X (.Compare a [op, op'] [b, d] pos) (lowT X.K dk c (dB (dChain k k' f g h))) :=
  pt_w (pt_chain ho ho' ha hb hd hm) fun σ H Q ⟨ε, S, μ, lk, ok, rs, run⟩ => by
    have run : (dChain k k' f g h ε).run (fun dx μ' => (asB dx).run (PostB X.K dk S μ H Q) c.E μ') c.E μ := run
    have fin : ∀ (dx : D) (μ' : Mu), (asB dx).run (PostB X.K dk S μ H Q) c.E μ' → Post X.K dk S μ H (fun v H' => ∃ t, v = .bl t ∧ Q t H') dx μ' := fun dx μ' q v S' H' ex ok' rep => by
      cases dx with
      | bl t => cases rep; exact ⟨t, rfl, q S' H' ex ok'⟩
      | _ => exact q.elim
    refine ⟨ε, S, μ, lk, ok, rs, W.up (m := f ε) run fun dx μ1 run1 x S1 H1 ex1 ok1 rep1 => ?_⟩
    refine ⟨ε, S1, μ1, c.up lk ex1, ok1, rs.ex ex1, W.up (m := g ε) run1 fun dy μ2 run2 y S2 H2 ex2 ok2 rep2 => ?_⟩
    have x2 := ex1.trans ex2
    refine l ok2 (rep1.ex ex2) rep2 (W.up (m := k dx dy) run2 fun dz μ3 run3 z S3 H3 ex3 ok3 rep3 => ?_)
    have x3 := x2.trans ex3
    cases dz with
    | bl t =>
      cases rep3
      refine ⟨t, rfl, ?_⟩
      cases t with
      | false => exact ⟨false, rfl, run3 S3 H3 x3 ok3⟩
      | true => exact ⟨ε, S3, μ3, c.up lk x3, ok3, rs.ex x3, W.up (m := h ε) run3 fun dw μ4 run4 w S4 H4 ex4 ok4 rep4 => l' ok4 ((rep2.ex ex3).ex ex4) rep4 (W.up (m := k' dy dw) run4 fun dq μ5 q => (fin dq μ5 q).ex (x3.trans ex4))⟩
    | _ => exact run3.elim
def gStarts (z : Str) : D → W D
  | .str b => W.ret (.bl (Txt.startswith z b))
  | _ => W.fail
theorem de_starts (ho : PE X o (lowE X.K dk c f)) (he : PE X e (lowE X.K dk c g)) (hs : starEach [e] X.env = [(false, eval e X.env)] := by rfl) (hbase : attributeBase o "startswith" X.env (eval o X.env) = eval o X.env := by rfl) (hline : (apos.endLine == pos.line) = true := by rfl) :
    PE X (.Call (.Attribute o "startswith" apos) [e] [] pos) (lowE X.K dk c (dM1 gStarts f g)) := pe_w (pe_m1 PySem.F.slot_str_startswith PySem.F.type_str_startswith mt_startswith ho he hs hbase hline) fun _ _ _ q => low_m1 (fun {z y dy S μ H Q E} ok ry q => by
  unfold gStarts at q
  split at q
  · cases ry
    exact ⟨z, _, rfl, rfl, q _ S H Ex.refl ok (.bl _)⟩
  · exact q.elim) q
end
end DL

/-! the deck; the law -/
namespace DL
open PySem PySem.Spec PyProof.Rows L2 Kit
/-! ### the deck -/
abbrev big : Int := 170141183460469231731687303715884105727
def deckKv (c : Addr) (sd : Int) (t : Nat) : List (L2.Key × V) := [(.inr "cells", .ref c), (.inr "seed", .int sd), (.inr "at", .int (t : Int))]
structure Deck (H : Hp) (d c : Addr) (t : Nat) : Prop where
  ex : ∃ (cs : List Int) (sd : Int), H d = some (.dK (deckKv c sd t)) ∧ H c = some (.lst (cs.map V.int)) ∧ 0 ≤ sd ∧ sd < big ∧ cs.length ≤ 63 ∧
    ∀ z ∈ cs, Builtin.Int.intBits z ≤ 1048576


theorem put_at (c : Addr) (sd : Int) (t : Nat) (v : V) : putK (deckKv c sd t) (Sum.inr "at") v = [(.inr "cells", .ref c), (.inr "seed", .int sd), (.inr "at", v)] := by
  rfl
theorem get_at (c : Addr) (sd : Int) (t : Nat) : valV (deckKv c sd t) (Sum.inr "at") = some (.int (t : Int)) := rfl
theorem get_seed (c : Addr) (sd : Int) (t : Nat) : valV (deckKv c sd t) (Sum.inr "seed") = some (.int sd) := rfl
theorem get_cells (c : Addr) (sd : Int) (t : Nat) : valV (deckKv c sd t) (Sum.inr "cells") = some (.ref c) := rfl
theorem sl3 (c : Addr) (sd : Int) (t : Nat) : (deckKv c sd t).length < sizeLine := by
  show 3 < sizeLine
  decide

/-- what the draw makes of it is small again -/
theorem bits_lt {x : Int} {n : Nat} (h0 : 0 ≤ x) (h : x < 2 ^ n) : Builtin.Int.intBits x ≤ n := by
  refine PySem.intBits_le_iff.mpr ?_
  have e : ((2 ^ n : Nat) : Int) = (2 : Int) ^ n := by rw [Int.natCast_pow]; rfl
  have h2 : x < ((2 ^ n : Nat) : Int) := by rw [e]; exact h
  omega
theorem bits_add {x y : Int} {n : Nat} (hx : Builtin.Int.intBits x ≤ n) (hy : Builtin.Int.intBits y ≤ n) : Builtin.Int.intBits (x + y) ≤ n + 1 := by
  have h1 := PySem.intBits_le_iff.mp hx
  have h2 := PySem.intBits_le_iff.mp hy
  refine PySem.intBits_le_iff.mpr ?_
  have e : 2 ^ (n + 1) = 2 ^ n + 2 ^ n := by rw [Nat.pow_succ]; omega
  rw [e]
  omega

theorem snoc {α : Type} (cs : List α) : cs = [] ∨ ∃ l x, cs = l ++ [x] := by
  rcases List.eq_nil_or_concat cs with h | ⟨l, x, h⟩
  · exact .inl h
  · exact .inr ⟨l, x, by rw [h, List.concat_eq_append]⟩
theorem pos_big : (0 : Int) < 170141183460469231731687303715884105727 := by decide
theorem dp_ints {K : PySem.W.Frag} {H : Hp} : ∀ ns : List Int, DpAll K H (ns.map V.int) (ns.map PyData.int)
  | [] => .nil
  | n :: ns => .cons (.int n) (dp_ints ns)
def spDraw : Sp := fun vs H Q _ => ∃ (d c : Addr) (n : Int) (t : Nat), vs = [.ref d, .int n] ∧ 1 ≤ n ∧ n < 2000000000000 ∧ Deck H d c t ∧ t < 1000000000000 ∧
  ∀ (r : Int) (H' : Hp), 0 ≤ r → r < n → But d c H H' → Deck H' d c (t + 1) → Q (.int r) H'


def spDeck (K : PySem.W.Frag) : Sp := fun vs H Q _ => ∃ (a : Addr) (ns : List Int), vs = [.ref a] ∧ SqL K H a (ns.map V.int) ∧ ns.length ≤ 63 ∧
  (∀ z ∈ ns, Builtin.Int.intBits z ≤ 1048576) ∧ ∀ (d c : Addr) (H' : Hp), Same H H' → H d = none → H c = none → Deck H' d c 0 → Q (.ref d) H'
theorem Deck.ne2 {H : Hp} {d c : Addr} {t : Nat} (h : Deck H d c t) : d ≠ c := by
  obtain ⟨cs, sd, h1, h2, _⟩ := h.ex
  exact ne_of h1 h2 (by intro z; cases z)
theorem Deck.both {H : Hp} {d c : Addr} {t : Nat} (h : Deck H d c t) : H d ≠ none ∧ H c ≠ none := by
  obtain ⟨cs, sd, h1, h2, _⟩ := h.ex
  rw [h1, h2]
  exact ⟨fun z => (by cases z), fun z => (by cases z)⟩
/-- a deck stands as it stood -/
def dkD : DK := ⟨Deck, fun {H H' a c t} e1 e2 h => by
  obtain ⟨cs, sd, h1, h2, h3⟩ := h.ex
  exact ⟨cs, sd, e1.trans h1, e2.trans h2, h3⟩⟩
section
variable {P : Program} {w : World} {K : PySem.W.Frag} {mg : Str → Option Value} {base : Heap} {k : Nat} {x : Str} {ps : List Str} {sp sp' : Sp}
theorem FnG.cx {f : Addr} {fd : FuncData} (F : FnG P w K mg base L2.CX0 k f fd ps sp) : FnG P w K mg base (L2.CX P w) k f fd ps sp :=
  ⟨F.len, fun A outer s H args us vs Q E hq hr e0 hb r h => codeAny_mono (F.run A outer s H args us vs Q E hq hr e0 hb r h) fun o s' z => by
    cases o with
    | error e => exact (z : False).elim
    | ok fl => cases fl <;> exact z⟩
theorem FnG.imp {CX : CXT} {f : Addr} {fd : FuncData} (F : FnG P w K mg base CX k f fd ps sp) (h : ∀ vs H Q E, sp' vs H Q E → sp vs H Q E) : FnG P w K mg base CX k f fd ps sp' :=
  ⟨fun vs H Q E z => F.len vs H Q E (h _ _ _ _ z), fun A outer s H args us vs Q E hq hr e0 hb r z => F.run A outer s H args us vs Q E hq hr e0 hb r (h _ _ _ _ z)⟩
theorem Cal.cxD (c : Cal P w K mg base L2.CX0 k x ps sp) (h : ∀ vs H Q E, sp' vs H Q E → sp vs H Q E) : Cal P w K mg base (L2.CX P w) k x ps sp' := by
  obtain ⟨f, fd, F, r⟩ := c.ex
  exact ⟨f, fd, FnG.imp (FnG.cx F) h, r⟩
end
/-! a draw -/
def F_draw : List D → W D
  | [.ref n, .int k] => W.rd fun μ => match μ[n]? with
    | some (.deck t) => W.chk (1 ≤ k ∧ k < 2000000000000 ∧ t < 1000000000000) (W.any (fun r : Int => 0 ≤ r ∧ r < k) fun r => W.wr (fun μ => μ.set n (.deck (t + 1))) (W.ret (.int r)))
    | _ => W.fail
  | _ => W.fail
def F_deck : List D → W D
  | [.scr ns] => W.chk (ns.length ≤ 63 ∧ ∀ z ∈ ns, Builtin.Int.intBits z ≤ 1048576) (W.rd fun μ => W.wr (fun μ => μ ++ [.deck 0, .hid]) (W.ret (.ref μ.length)))
  | _ => W.fail
section
variable {K : PySem.W.Frag} {S : Pl} {μ : Mu} {H H' : Hp} {n t : Nat} {a c : Addr}
theorem nth_inj {L : List Addr} (h : L.Nodup) {i j : Nat} {x : Addr} (h1 : L[i]? = some x) (h2 : L[j]? = some x) : i = j := by
  induction L generalizing i j with
  | nil => cases h1
  | cons y L ih =>
    obtain ⟨n1, n2⟩ := List.nodup_cons.mp h
    cases i with
    | zero =>
      cases j with
      | zero => rfl
      | succ j =>
        cases h1
        exact absurd (List.mem_of_getElem? (show L[j]? = some _ from h2)) n1
    | succ i =>
      cases j with
      | zero =>
        cases h2
        exact absurd (List.mem_of_getElem? (show L[i]? = some _ from h1)) n1
      | succ j => exact congrArg _ (ih n2 h1 h2)
theorem draw_ex (ok : Ok K dkD.p S μ H) (ha : S.L[n]? = some a) (hc : S.L[n + 1]? = some c) (h0 : μ[n]? = some (.deck t)) (h1 : μ[n + 1]? = some .hid) (b : But a c H H') : Ex S μ H S (μ.set n (.deck (t + 1))) H' := by
  have la : live S μ a := .inr ⟨n, _, ha, h0, fun z => by cases z⟩
  have lc : live S μ c := .inr ⟨n + 1, _, hc, h1, fun z => by cases z⟩
  have na : ∀ x ∈ S.hid, x ≠ a ∧ x ≠ c := fun x hx => by
    have d := List.nodup_append.mp ok.nd
    exact ⟨fun z => d.2.2 a (List.mem_of_getElem? ha) x hx z.symm, fun z => d.2.2 c (List.mem_of_getElem? hc) x hx z.symm⟩
  refine ⟨⟨[], by rw [List.append_nil]⟩, rfl, fun x o h nl => ⟨b x o (fun z => nl (z ▸ la)) (fun z => nl (z ▸ lc)) h, fun z => nl (live_set h0 (fun z => by cases z) z)⟩, fun x hx => ?_⟩
  cases hh : H x with
  | none => exact absurd hh (ok.here x (List.mem_append_right _ hx))
  | some o => exact b x o (na x hx).1 (na x hx).2 hh
theorem draw_ok (ok : Ok K dkD.p S μ H) (ha : S.L[n]? = some a) (hc : S.L[n + 1]? = some c) (h0 : μ[n]? = some (.deck t)) (h1 : μ[n + 1]? = some .hid) (b : But a c H H') (d : Deck H' a c (t + 1)) : Ok K dkD.p S (μ.set n (.deck (t + 1))) H' := by
  have ex := draw_ex ok ha hc h0 h1 b
  have nd := (List.nodup_append.mp ok.nd).1
  have ln : n < μ.length := (List.getElem?_eq_some_iff.mp h0).1
  have st : ∀ m x, S.L[m]? = some x → m ≠ n → m ≠ n + 1 → H' x = H x := fun m x hx m1 m2 => by
    cases hh : H x with
    | none => exact absurd hh (ok.here x (List.mem_append_left _ (List.mem_of_getElem? hx)))
    | some o => exact b x o (fun z => m1 (nth_inj nd hx (z ▸ ha))) (fun z => m2 (nth_inj nd hx (z ▸ hc))) hh
  refine ⟨by rw [List.length_set]; exact ok.len, ok.nd, fun x hx => ?_, fun m mo x e1 e2 => ?_⟩
  · by_cases xa : x = a
    · rw [xa]; exact d.both.1
    · by_cases xc : x = c
      · rw [xc]; exact d.both.2
      · cases hh : H x with
        | none => exact absurd hh (ok.here x hx)
        | some o =>
          rw [b x o xa xc hh]
          exact fun z => by cases z
  · by_cases hm : m = n
    · subst hm
      rw [List.getElem?_set_self ln] at e1
      cases e1
      obtain rfl : x = a := Option.some.inj (e2.symm.trans ha)
      exact ⟨c, hc, by rw [List.getElem?_set_ne (by omega)]; exact h1, d⟩
    · rw [List.getElem?_set_ne (fun z => hm z.symm)] at e1
      by_cases hm1 : m = n + 1
      · subst hm1
        rw [h1] at e1
        cases e1
        exact True.intro
      · have k := ok.at_ m mo x e1 e2
        have e := st m x e2 hm hm1
        cases mo with
        | lst ds =>
          obtain ⟨vs, k1, k2⟩ := k
          exact ⟨vs, e.trans k1, k2.ex ex⟩
        | deck t2 =>
          obtain ⟨c2, k1, k2, k3⟩ := k
          have m2 : m + 1 ≠ n := fun z => by rw [z, h0] at k2; cases k2
          exact ⟨c2, k1, by rw [List.getElem?_set_ne (fun z => m2 z.symm)]; exact k2, dkD.st e (st (m + 1) c2 k1 m2 (by omega)) k3⟩
        | dct b ks =>
          cases b with
          | false =>
            obtain ⟨kvs, k1, k2⟩ := k
            exact ⟨kvs, e.trans k1, k2.ex ex⟩
          | true =>
            obtain ⟨kvs, k1, k2⟩ := k
            exact ⟨kvs, e.trans k1, k2.ex ex⟩
        | hid => exact True.intro
        | gone => exact True.intro
theorem draw_sp (vs : List V) (H : Hp) (Q : VK) (E : XK) (h : spX K dkD 2 F_draw vs H Q E) : spDraw vs H Q E := by
  obtain ⟨_, ds, S, μ, ok, rep, run⟩ := h
  unfold F_draw at run
  split at run
  · next n k =>
    have run : (match μ[n]? with
      | some (.deck t) => W.chk (1 ≤ k ∧ k < 2000000000000 ∧ t < 1000000000000) (W.any (fun r : Int => 0 ≤ r ∧ r < k) fun r => W.wr (fun μ => μ.set n (.deck (t + 1))) (W.ret (D.int r)))
      | _ => W.fail).run (Post K dkD S μ H Q) (PostX K dkD S μ H E) μ := run
    cases hm : μ[n]? with
    | none => rw [hm] at run; exact run.elim
    | some mo =>
      rw [hm] at run
      cases mo with
      | deck t =>
        obtain ⟨⟨k1, k2, k3⟩, run⟩ := run
        cases rep with
        | cons r1 t1 =>
          cases t1 with
          | cons r2 t2 =>
            cases t2
            cases r2
            cases r1 with
            | @ref _ a ha =>
              obtain ⟨c, hc, h1, d⟩ := ok.at_ n _ a hm ha
              refine ⟨a, c, k, t, rfl, k1, k2, d, k3, fun r H' r0 rk b d' => ?_⟩
              have ok' : Ok K dkD.p S (μ.set n (.deck (t + 1))) H' := draw_ok ok ha hc hm h1 b d'
              exact run r ⟨r0, rk⟩ _ S H' (draw_ex ok ha hc hm h1 b) ok' (.int r)
      | _ => exact run.elim
  · exact run.elim
theorem deck_sp (vs : List V) (H : Hp) (Q : VK) (E : XK) (h : spX K dkD 1 F_deck vs H Q E) : spDeck K vs H Q E := by
  obtain ⟨_, ds, S, μ, ok, rep, run⟩ := h
  unfold F_deck at run
  split at run
  · next ns =>
    obtain ⟨⟨k1, k2⟩, run⟩ := run
    cases rep with
    | cons r1 t1 =>
      cases t1
      cases r1 with
      | @scr _ a ha =>
        refine ⟨a, ns, rfl, ha.sq, k1, k2, fun d c H' sm hd hc dk => ?_⟩
        have fd := ok.fresh hd
        have fc := ok.fresh hc
        have ne := dk.ne2
        have lv : ∀ {x : Addr}, live ⟨S.L ++ [d, c], S.hid⟩ (μ ++ [.deck 0, .hid]) x → live S μ x ∨ x = d ∨ x = c := fun {x} z => by
          rcases z with z | ⟨m, mo, e1, e2, e3⟩
          · exact .inl (.inl z)
          · have e1 : (S.L ++ [d, c])[m]? = some x := e1
            by_cases hm : m < S.L.length
            · rw [List.getElem?_append_left hm] at e1
              rw [List.getElem?_append_left (by rw [← ok.len]; exact hm)] at e2
              exact .inl (.inr ⟨m, mo, e1, e2, e3⟩)
            · rw [List.getElem?_append_right (by omega)] at e1
              have := List.mem_of_getElem? e1
              simp at this
              exact .inr this
        have ex : Ex S μ H ⟨S.L ++ [d, c], S.hid⟩ (μ ++ [.deck 0, .hid]) H' := ⟨⟨[d, c], rfl⟩, rfl, fun x o h nl => ⟨sm x o h, fun z => by
            rcases lv z with z | z | z
            · exact nl z
            · rw [z, hd] at h; cases h
            · rw [z, hc] at h; cases h⟩, fun x hx => by
          cases hh : H x with
          | none => exact absurd hh (ok.here x (List.mem_append_right _ hx))
          | some o => exact sm x o hh⟩
        refine run (.ref d) ⟨S.L ++ [d, c], S.hid⟩ H' ex ⟨?_, ?_, fun x hx => ?_, fun m mo x e1 e2 => ?_⟩ (.ref ?_)
        · show (S.L ++ [d, c]).length = (μ ++ [MO.deck 0, MO.hid]).length
          rw [List.length_append, List.length_append, ok.len]
          rfl
        · show ((S.L ++ [d, c]) ++ S.hid).Nodup
          have nd := ok.nd
          rw [List.append_assoc]
          rw [List.nodup_append] at nd ⊢
          refine ⟨nd.1, ?_, fun x hx y hy z => ?_⟩
          · rw [List.nodup_append]
            refine ⟨by simp [ne], nd.2.1, fun x hx y hy z => ?_⟩
            subst z
            rcases List.mem_cons.mp hx with e | e
            · exact fd (e ▸ List.mem_append_right _ hy)
            · rw [List.mem_singleton] at e
              exact fc (e ▸ List.mem_append_right _ hy)
          · subst z
            rcases List.mem_append.mp hy with hy | hy
            · rcases List.mem_cons.mp hy with e | e
              · exact fd (e ▸ List.mem_append_left _ hx)
              · rw [List.mem_singleton] at e
                exact fc (e ▸ List.mem_append_left _ hx)
            · exact nd.2.2 x hx x hy rfl
        · have hx : x ∈ (S.L ++ [d, c]) ++ S.hid := hx
          have old : x ∈ S.L ++ S.hid → H' x ≠ none := fun z => by
            cases hh : H x with
            | none => exact absurd hh (ok.here x z)
            | some o => rw [sm x o hh]; exact fun z => by cases z
          rcases List.mem_append.mp hx with hx | hx
          · rcases List.mem_append.mp hx with hx | hx
            · exact old (List.mem_append_left _ hx)
            · rcases List.mem_cons.mp hx with e | e
              · rw [e]; exact dk.both.1
              · rw [List.mem_singleton] at e
                rw [e]; exact dk.both.2
          · exact old (List.mem_append_right _ hx)
        · have e2 : (S.L ++ [d, c])[m]? = some x := e2
          by_cases hm : m < S.L.length
          · rw [List.getElem?_append_left hm] at e2
            rw [List.getElem?_append_left (by rw [← ok.len]; exact hm)] at e1
            have st : ∀ j y, S.L[j]? = some y → H' y = H y := fun j y hy => by
              cases hh : H y with
              | none => exact absurd hh (ok.here y (List.mem_append_left _ (List.mem_of_getElem? hy)))
              | some o => exact sm y o hh
            have k := ok.at_ m mo x e1 e2
            have e := st m x e2
            cases mo with
            | lst ds =>
              obtain ⟨vs, k1, k2⟩ := k
              exact ⟨vs, e.trans k1, k2.ex ex⟩
            | deck t2 =>
              obtain ⟨c2, k1, k2, k3⟩ := k
              have l1 := (List.getElem?_eq_some_iff.mp k1).1
              refine ⟨c2, ?_, ?_, dkD.st e (st (m + 1) c2 k1) k3⟩
              · show (S.L ++ [d, c])[m + 1]? = _
                rw [List.getElem?_append_left l1]; exact k1
              · rw [List.getElem?_append_left (by rw [← ok.len]; exact l1)]; exact k2
            | dct b ks =>
              cases b with
              | false =>
                obtain ⟨kvs, k1, k2⟩ := k
                exact ⟨kvs, e.trans k1, k2.ex ex⟩
              | true =>
                obtain ⟨kvs, k1, k2⟩ := k
                exact ⟨kvs, e.trans k1, k2.ex ex⟩
            | hid => exact True.intro
            | gone => exact True.intro
          · have hl := ok.len
            rw [List.getElem?_append_right (by omega)] at e1 e2
            rw [← hl] at e1
            generalize hj : m - S.L.length = j at e1 e2
            match j, e1, e2 with
            | 0, e1, e2 =>
              cases e1
              cases e2
              have hm2 : m = S.L.length := by omega
              subst hm2
              refine ⟨c, ?_, ?_, dk⟩
              · show (S.L ++ [_, c])[S.L.length + 1]? = _
                rw [List.getElem?_append_right (by omega)]
                simp
              · rw [hl, List.getElem?_append_right (by omega)]
                simp
            | 1, e1, e2 =>
              cases e1
              exact True.intro
            | j + 2, e1, e2 => cases e1
        · show (S.L ++ [d, c])[μ.length]? = _
          rw [← ok.len, List.getElem?_append_right (by omega), Nat.sub_self]
          rfl
  · exact run.elim
end
/-- the law's promise, from what its data say -/
theorem law_sp {K : PySem.W.Frag} {F : List D → W D} {H : Hp} {a : Addr} {ns : List Int} (hO : Only H) (hS : SqL K H a (ns.map V.int))
    (run : (F [.scr ns]).run (fun d _ => d = .bl true) (fun _ _ => False) []) : spX K dkD 1 F [.ref a] H (fun v _ => v = .bl true) fun _ _ _ => False := by
  refine ⟨rfl, [.scr ns], ⟨[], []⟩, [], ⟨rfl, List.nodup_nil, fun x hx => (by simp at hx), fun m mo x e => (by simp at e)⟩, .cons (.scr ?_) .nil, (F [.scr ns]).mono (fun d μ' e v S' H' _ _ r => ?_) (fun _ _ z => z.elim) run⟩
  · rcases hS with h | h
    · refine .inl ⟨h, ?_⟩
      rintro (z | ⟨m, mo, e, _⟩)
      · simp at z
      · simp at e
    · exact .inr (.inr h)
  · subst e
    cases r
    rfl
end DL

/-! own: dict comprehensions, one clause or two, keys of both kinds, as a value and as name = {..} -/
namespace X22
open PySem PySem.Spec PyProof.Rows L2

/-- the new dict takes an item: by whichever kind of keys it has -/
theorem takes_item {X : Cx} {pins : List (Addr × Obj)} {σ : L2.St} {H H' : Hp} {s : Shared} {E : Value → Shared → Prop} {D : Addr} {y v : V} {u r : Value} {Q : Unit → Shared → Prop} (room : X.A.units + 1 < cLine)
    (I : Inv X pins σ H s) (g : DPut H D y v H') (ry : RelV y u) (rv : RelV v r) (q : ∀ t, Inv X pins σ H' t → Q () t) : wpAny (model X.prog X.w) X.A (dictSet D u r) Q E s := by
  rcases g with ⟨kv, k, e, rfl, l, rfl⟩ | ⟨kv, k, b, e, rfl, eb, l, rfl⟩
  · exact d_dictSet I e l ry rv q
  · cases (show u = Value.ref b from ry)
    obtain ⟨big, sys, its, pr, isd⟩ := dt_of I.hok e
    have small : its.length ≤ sizeLine := by rw [← Paired.length pr]; exact big
    have grow : (putK kv k v).length ≤ sizeLine := Nat.le_trans (length_putK kv k v) l
    refine wpAny_dictSet_heap (hsz := small) (show X.A.units < cLine by omega) (key_of I.hok eb) isd fun h2 isd2 same => q _ ?_
    obtain ⟨o2, es, ep, g2, x2, x3, x4, _, x5⟩ := isd2
    refine d_write I (by rw [e]; exact True.intro) same ⟨o2, g2⟩ ⟨grow, sys, _, (pr.put k eb rv).keeps fun c ys ec => ?_, o2, es, ep, g2, x2, x3, x4, x5⟩
    exact (upd_ne (ne_of ec e fun z => nomatch z)).trans ec

/-! ### the block's turns -/
section
variable {prog : Program} {w : World} {A : Around} {R : Result → Shared → Prop} {s : Shared} {kx vx t0 i0 t1 i1 : Expr} {ifs0 ifs1 : List Expr} {scope : Scope} {pos : Pos} {it : Value} {D : Addr} {env : Env}
abbrev two (kx vx t0 i0 t1 i1 : Expr) (ifs0 ifs1 : List Expr) (scope : Scope) (pos : Pos) : Expr := .DictComp kx vx [⟨t0, i0, ifs0, 0⟩, ⟨t1, i1, ifs1, 0⟩] scope pos
/-- all tests, one by one -/
abbrev tests (ifs : List Expr) (env : Env) : Sem Bool := forIn ifs true fun c r => if r = true then do let ok ← isTrue c env (eval c env); pure (ForInStep.yield ok) else pure (ForInStep.yield r)
theorem turn_outer (it acc : Value) : compTurn (two kx vx t0 i0 t1 i1 ifs0 ifs1 scope pos) 0 it acc env = (do
      standAt i0.pos
      match ← pyNext it with
      | none => pure (.done .next)
      | some v =>
        letOwnedTupleGo t0 it v
        assign t0 env v
        let ok ← tests ifs0 env
        if ok then
          let x ← eval i1 env
          standAt i1.pos
          let x ← foldedSetIterable i1 env x
          let _ ← runOwn (.compStart (two kx vx t0 i0 t1 i1 ifs0 ifs1 scope pos) 1 (← holding [x] (pyIter x)) acc env) env
        again (.compLoop (two kx vx t0 i0 t1 i1 ifs0 ifs1 scope pos) 0 it acc env)) := by rfl
theorem turn_inner (it : Value) (D : Addr) : compTurn (two kx vx t0 i0 t1 i1 ifs0 ifs1 scope pos) 1 it (.ref D) env = (do
      standAt i1.pos
      match ← pyNext it with
      | none => pure (.done .next)
      | some v =>
        letOwnedTupleGo t1 it v
        assign t1 env v
        let ok ← tests ifs1 env
        if ok then
          (do
            let kv ← eval kx env
            let vv ← holding [kv] (eval vx env)
            standAt { kx.pos with endLine := vx.pos.endLine, endCol := vx.pos.endCol }
            holding [kv, vv] (dictSet D kv vv))
        again (.compLoop (two kx vx t0 i0 t1 i1 ifs0 ifs1 scope pos) 1 it (.ref D) env)) := by rfl

/-- the rounds of the outer clause -/
theorem rounds_outer (plain : ∀ x, foldedSetIterable i1 env x = pure x) (G : Nat → Shared → Prop)
    (round : ∀ n s, G n s → wpAny (model prog w) A (pyNext it) (fun r s1 => match r with
      | none => R (.ok .next) s1
      | some v => wpAny (model prog w) A (letOwnedTupleGo t0 it v) (fun _ s2 => wpAny (model prog w) A (assign t0 env v) (fun _ s3 => wpAny (model prog w) A (tests ifs0 env) (fun ok s4 =>
          if ok = true then wpAny (model prog w) A (eval i1 env) (fun x s5 => wpAny (model prog w) A (pyIter x) (fun it1 s6 =>
            codeAny (model prog w) A (.compStart (two kx vx t0 i0 t1 i1 ifs0 ifs1 scope pos) 1 it1 (.ref D) env) (fun r s7 => match r with
              | .ok _ => ∃ m, m < n ∧ G m s7
              | .error _ => False) s6) (fun _ _ => False) s5) (fun _ _ => False) s4
          else ∃ m, m < n ∧ G m s4) (fun _ _ => False) s3) (fun _ _ => False) s2) (fun _ _ => False) s1) (fun _ _ => False) s)
    (n : Nat) (h : G n s) : codeAny (model prog w) A (.compLoop (two kx vx t0 i0 t1 i1 ifs0 ifs1 scope pos) 0 it (.ref D) env) R s := by
  refine codeAny_loop rfl G (fun n s hG => ?_) n h
  show wpAny _ A ((compTurn (two kx vx t0 i0 t1 i1 ifs0 ifs1 scope pos) 0 it (.ref D) env).onRaise (fun x => do noteFrame x env; theTreesLotGoes x)) _ _ s
  refine wpAny_noted ?_
  rw [turn_outer]
  refine wpAny_bind (wpAny_standAt (wpAny_bind (thnF (round n s hG) fun r s1 h1 => ?_)))
  cases r with
  | none => exact wpAny_pure h1
  | some v =>
    refine wpAny_bind (thnF h1 fun _ s2 h2 => wpAny_bind (thnF h2 fun _ s3 h3 => wpAny_bind (thnF h3 fun ok s4 h4 => ?_)))
    cases ok with
    | false => exact wpAny_pure ⟨rfl, h4⟩
    | true =>
      refine wpAny_bind (thnF h4 fun x s5 h5 => wpAny_bind (wpAny_standAt (wpAny_bind (wpAny_of_eq (plain x) (wpAny_bind (wpAny_holding (thnF h5 fun it1 s6 h6 => wpAny_bind (wpAny_runOwn ?_))))))))
      rw [Around.mark_none]
      refine codeAny_mono h6 fun r s7 hr => ?_
      cases r with
      | ok f => first | exact wpAny_pure ⟨rfl, hr⟩ | exact wpAny_bind (wpAny_pure (wpAny_pure ⟨rfl, hr⟩))
      | error e => exact hr.elim
/-- .. of the inner one -/
theorem rounds_inner (G : Nat → Shared → Prop)
    (round : ∀ n s, G n s → wpAny (model prog w) A (pyNext it) (fun r s1 => match r with
      | none => R (.ok .next) s1
      | some v => wpAny (model prog w) A (letOwnedTupleGo t1 it v) (fun _ s2 => wpAny (model prog w) A (assign t1 env v) (fun _ s3 => wpAny (model prog w) A (tests ifs1 env) (fun ok s4 =>
          if ok = true then wpAny (model prog w) A (eval kx env) (fun kv s5 => wpAny (model prog w) A (eval vx env) (fun vv s6 =>
            wpAny (model prog w) A (dictSet D kv vv) (fun _ s7 => ∃ m, m < n ∧ G m s7) (fun _ _ => False) s6) (fun _ _ => False) s5) (fun _ _ => False) s4
          else ∃ m, m < n ∧ G m s4) (fun _ _ => False) s3) (fun _ _ => False) s2) (fun _ _ => False) s1) (fun _ _ => False) s)
    (n : Nat) (h : G n s) : codeAny (model prog w) A (.compLoop (two kx vx t0 i0 t1 i1 ifs0 ifs1 scope pos) 1 it (.ref D) env) R s := by
  refine codeAny_loop rfl G (fun n s hG => ?_) n h
  show wpAny _ A ((compTurn (two kx vx t0 i0 t1 i1 ifs0 ifs1 scope pos) 1 it (.ref D) env).onRaise (fun x => do noteFrame x env; theTreesLotGoes x)) _ _ s
  refine wpAny_noted ?_
  rw [turn_inner]
  refine wpAny_bind (wpAny_standAt (wpAny_bind (thnF (round n s hG) fun r s1 h1 => ?_)))
  cases r with
  | none => exact wpAny_pure h1
  | some v =>
    refine wpAny_bind (thnF h1 fun _ s2 h2 => wpAny_bind (thnF h2 fun _ s3 h3 => wpAny_bind (thnF h3 fun ok s4 h4 => ?_)))
    cases ok with
    | false => exact wpAny_pure ⟨rfl, h4⟩
    | true =>
      exact wpAny_bind (wpAny_bind (thnF h4 fun kv s5 h5 => wpAny_bind (wpAny_holding (thnF h5 fun vv s6 h6 => wpAny_bind (wpAny_standAt (wpAny_holding (thnF h6 fun _ s7 h7 => wpAny_pure ⟨rfl, h7⟩)))))))
/-- the inner clause begins -/
theorem inner_begins {acc : Value} (h0 : codeAny (model prog w) A (.compLoop (two kx vx t0 i0 t1 i1 ifs0 ifs1 scope pos) 1 it acc env) R s)
    (h : wpAny (model prog w) A (pyIter it) (fun it2 s2 => codeAny (model prog w) A (.compLoop (two kx vx t0 i0 t1 i1 ifs0 ifs1 scope pos) 1 it2 acc env) R s2) (fun _ _ => False) s) :
    codeAny (model prog w) A (.compStart (two kx vx t0 i0 t1 i1 ifs0 ifs1 scope pos) 1 it acc env) R s := by
  refine codeAny_of_tree ?_
  show wpAny _ _ ((compStart (two kx vx t0 i0 t1 i1 ifs0 ifs1 scope pos) 1 it acc env).onRaise (fun x => do noteFrame x env; standAt theWindowsPlace)) _ _ s
  refine wpAny_notedAt ?_
  unfold compStart
  show wpAny _ _ (ask >>= _) _ _ s
  refine wpAny_bind (wpAny_askSetting (wpAny_ite ?_))
  split
  · first | exact wpAny_bind (wpAny_pure (wpAny_pure (And.intro rfl h0))) | exact wpAny_pure (And.intro rfl h0)
  · first
      | exact wpAny_bind (wpAny_rule (wpAny_bind (wpAny_standAt (wpAny_bind (thnF h fun it2 s2 h2 => wpAny_pure (And.intro rfl h2))))))
      | (refine wpAny_bind (wpAny_rule ?_); show wpAny _ _ (standAt i1.pos >>= _) _ _ s; exact wpAny_bind (wpAny_standAt (wpAny_bind (thnF h fun it2 s2 h2 => wpAny_pure (And.intro rfl h2)))))
end

/-! ### a block is opened for a new dict -/
section
variable {X : Cx}
/-- an empty dict, of either kind of keys -/
def nilO (b : Bool) : HO := if b = true then .dT [] else .dK []
theorem nil_ok {P : Program} {w : World} {H : Hp} (b : Bool) (h : Heap) (big : sysModules < h.objs.size) : ObjOk P w H (h.push { cls := .type "dict", data := .dict #[] }) h.objs.size (nilO b) := by
  cases b with
  | true => exact dt_empty h big
  | false => exact dk_empty h big
/-- what is known within -/
structure Within (X : Cx) (pins : List (Addr × Obj)) (σ : L2.St) (scope : Scope) (vs : List Nat) (fp : List Addr) (tn : Nat → Heap → Prop) (D : Addr) (s3 : Shared) (H3 : Hp) (ce : Env) (s4 : Shared) : Prop where
  out : Inv X pins σ H3 s3
  inn : Inv (X.blk s3 H3 scope ce fp) [] (wipe σ vs) H3 s4
  home : ce.locals = s3.heap.objs.size
  fps : ∀ b ∈ fp, FpOk X pins H3 b ∧ b < s3.heap.objs.size
  at0 : tn 0 s4.heap
  form : ∃ C cl, ce = compEnvC scope cl C X.env
theorem Within.still {pins : List (Addr × Obj)} {σ : L2.St} {scope : Scope} {vs : List Nat} {fp : List Addr} {tn : Nat → Heap → Prop} {D : Addr} {s3 s4 : Shared} {H3 : Hp} {ce : Env} (_ : Within X pins σ scope vs fp tn D s3 H3 ce s4)
    {σ' : L2.St} {H' : Hp} {s' : Shared} (J : Inv (X.blk s3 H3 scope ce fp) [] σ' H' s') (hn : ∀ b ∈ fp, H' b = none) : ∀ b ∈ fp, FpOk (X.blk s3 H3 scope ce fp) [] H' b := fun b hb =>
  ⟨hn b hb, (J.ok.exf b hb).1, J.ok.exfs b hb, .inl hb, fun x c e => (J.ok.exf b hb).2 x c e, fun p hp => absurd (show p ∈ ([] : List (Addr × Obj)) ++ [] from hp) (by simp)⟩
/-- back to the def -/
theorem Within.back {pins : List (Addr × Obj)} {σ : L2.St} {scope : Scope} {vs : List Nat} {fp : List Addr} {tn : Nat → Heap → Prop} {D : Addr} {s3 s4 : Shared} {H3 : Hp} {ce : Env} (B : Within X pins σ scope vs fp tn D s3 H3 ce s4)
    {σ' : L2.St} {H' : Hp} {s' : Shared} (J : Inv (X.blk s3 H3 scope ce fp) [] σ' H' s') : ∃ m, Inv X pins σ H' s' ∧ s'.heap.Ns s3.heap.objs.size m ∧ FpOk X pins H' s3.heap.objs.size := by
  have z : H' ce.locals = none := J.free
  obtain ⟨m, hn, _⟩ := J.loc
  have hn : s'.heap.Ns ce.locals m := hn
  rw [B.home] at z hn
  exact ⟨m, B.out.call' (ch := fp) J.os J.base J.hok J.bare fun b hb => ⟨(B.fps b hb).1.2.2.2.1, (B.fps b hb).1.2.1, (B.fps b hb).1.2.2.2.2.1, (B.fps b hb).1.2.2.2.2.2⟩, hn, B.out.fpOk (Nat.le_refl _) z⟩
theorem opens {pins : List (Addr × Obj)} {s : Shared} {σ : L2.St} {H : Hp} {ex tg iter : Expr} {ifs : List Expr} {more : List Comprehension} {scope : Scope} {own : List (Str × Nat)} {pos' : Pos} {wi : TI} {use : Option (Value → Sem Unit)} {Qf : Value → Shared → Prop} (kd : Bool)
    (he : clausesOf ex = ⟨tg, iter, ifs, 0⟩ :: more) (I : Inv X pins σ H s) (hi : PI X tg iter wi) (ok : BlkOk X.N X.env.scope scope own) (hN : X.N.Nodup) (plain : ∀ x, foldedSetIterable iter X.env x = pure x) {Rj : It → Hp → Prop} (h : wi σ H Rj)
    (body : ∀ (it : Addr) (fp : List Addr) (tn : Nat → Heap → Prop) (J : It) (H2 : Hp) (D : Addr) (s3 s4 : Shared) (ce : Env), Turn X.prog X.w X.K tg J fp it tn → Rj J H2 → H2 D = none → (∀ b ∈ fp, (upd H2 D (nilO kd)) b = none) →
      Within X pins σ scope (own.map (·.2)) fp tn D s3 (upd H2 D (nilO kd)) ce s4 → codeAny (model X.prog X.w) X.A (.compStart ex 0 (.ref it) (.ref D) ce) (compPost (model X.prog X.w) X.A X.xe use Qf (.ref D) s3.heap.objs.size) s4) :
    wpAny (model X.prog X.w) X.A (comprehension ex scope X.env pos' newDict false (eval iter X.env) use) Qf X.xe s := by
  have free : ∀ y ∈ scope.names, y.2 = .free → ∃ c, X.env.cells.lookup y.1 = some c := fun y hy e => I.ok.has _ ((ok.free y hy e).imp id id)
  refine wpAny_comprehension_free (use := use) he plain (closure_ok free) ok.kind (fun y hy e => by rw [ok.uniq y hy, e]) (thn (hi.run pins s σ H _ I h) fun xv s1 hx => thn hx fun itv s2 h2 => ?_)
  obtain ⟨it, fp, tn, J, H2, rfl, I2, T, st2, f2, q⟩ := h2
  refine wpAny_newObj_type (newEnv_comp ?_)
  have fresh : H2 s2.heap.objs.size = none := I2.hok.fresh (Nat.le_refl _)
  have young : ∀ b ∈ fp, b < s2.heap.objs.size := fun b hb => let ⟨_, e, _⟩ := T.obj _ _ st2 b hb; Heap.lt_size e
  have I3 : Inv X pins σ (upd H2 s2.heap.objs.size (nilO kd)) { s2 with heap := s2.heap.push { cls := .type "dict", data := .dict #[] } } :=
    I2.laid (t' := s2.toks) (fun b o e => Heap.get?_push_of_some _ e) (Nat.le_refl _) (nil_ok kd s2.heap I2.big)
  have f3 : ∀ b ∈ fp, FpOk X pins (upd H2 s2.heap.objs.size (nilO kd)) b ∧ b < (s2.heap.push { cls := .type "dict", data := .dict #[] }).objs.size := fun b hb =>
    ⟨⟨(upd_ne (Nat.ne_of_lt (young b hb))).trans (f2 b hb).1, (f2 b hb).2⟩, by rw [Heap.size_push]; exact Nat.lt_succ_of_lt (young b hb)⟩
  have st3 : tn 0 (s2.heap.push { cls := .type "dict", data := .dict #[] }) := T.keep _ _ _ st2 fun b _ o e => Heap.get?_push_of_some _ e
  exact body it fp tn J H2 s2.heap.objs.size _ _ _ T q fresh (fun b hb => (f3 b hb).1.1) ⟨I3, block_start I3 ok hN f3, rfl, f3, T.keep _ _ _ st3 fun b _ o e => pushCells_keeps _ _ _ _ (Heap.get?_push_of_some _ e), ⟨_, _, rfl⟩⟩

/-- {k: v for tg in iter if ..}: D the new dict -/
def tD1 (kd : Bool) (wi : TI) (g : TG) (tt : TT) (tk tv : TE) (vs : List Nat) : TE := fun σ H Q => wi σ H fun J H1 => ∀ D, H1 D = none → ∃ G : Nat → Nat → Hp → Prop, (∃ m, G 0 m (upd H1 D (nilO kd))) ∧ ∀ i m H, G i m H →
  (J.stop i H ∧ Q (.ref D) H) ∨ (J.go i H ∧ ∃ Nx : Hp → Prop, (∀ H', Nx H' → ∃ m', m' < m ∧ G (i + 1) m' H') ∧ ∀ x H', J.yld i H x H' → g x (wipe σ vs) H' fun σ2 H2 => wipe σ2 vs = wipe σ vs ∧ tt σ2 H2 fun b H3 =>
    if b = true then tk σ2 H3 fun y H4 => tv σ2 H4 fun z H5 => ∃ H6, DPut H5 D y z H6 ∧ Nx H6 else Nx H3)
/-- .. for tg in iter if .. for tg1 in iter1 if .. -/
def tD2 (kd : Bool) (wi : TI) (g : TG) (tt : TT) (wi1 : TI) (g1 : TG) (tt1 : TT) (tk tv : TE) (vs vs1 : List Nat) : TE := fun σ H Q => wi σ H fun J H1 => ∀ D, H1 D = none → ∃ G : Nat → Nat → Hp → Prop, (∃ m, G 0 m (upd H1 D (nilO kd))) ∧ ∀ i m H, G i m H →
  (J.stop i H ∧ Q (.ref D) H) ∨ (J.go i H ∧ ∃ Nx : Hp → Prop, (∀ H', Nx H' → ∃ m', m' < m ∧ G (i + 1) m' H') ∧ ∀ x H', J.yld i H x H' → g x (wipe σ vs) H' fun σ2 H2 => wipe σ2 vs = wipe σ vs ∧ tt σ2 H2 fun b H3 =>
    if b = true then wi1 σ2 H3 fun J1 H4 => ∃ G1 : Nat → Nat → Hp → Prop, (∃ m, G1 0 m H4) ∧ ∀ j k H, G1 j k H →
      (J1.stop j H ∧ Nx H) ∨ (J1.go j H ∧ ∃ Nx1 : Hp → Prop, (∀ H', Nx1 H' → ∃ k', k' < k ∧ G1 (j + 1) k' H') ∧ ∀ x H', J1.yld j H x H' → g1 x (wipe σ2 vs1) H' fun σ3 H5 => wipe σ3 vs1 = wipe σ2 vs1 ∧ tt1 σ3 H5 fun b H6 =>
        if b = true then tk σ3 H6 fun y H7 => tv σ3 H7 fun z H8 => ∃ H9, DPut H8 D y z H9 ∧ Nx1 H9 else Nx1 H6)
    else Nx H3)
section
variable {pins : List (Addr × Obj)} {s : Shared} {σ : L2.St} {H : Hp} {Q : VK} {kx vx tg iter tg1 iter1 : Expr} {ifs ifs1 : List Expr} {scope : Scope} {own : List (Str × Nat)} {vs1 : List Nat} {pos pos' : Pos} {wi wi1 : TI} {g g1 : TG} {tt tt1 : TT} {tk tv : TE} {use : Option (Value → Sem Unit)} {Qf : Value → Shared → Prop} {kd : Bool}
/-- a part's promise, in whatever block is opened -/
abbrev Part (X : Cx) (scope : Scope) (p : Cx → Prop) : Prop := ∀ (s : Shared) (H : Hp) (C : Addr) (cl : List (Str × Addr)) (fp : List Addr), p (X.blk s H scope (compEnvC scope cl C X.env) fp)
theorem Part.at {p : Cx → Prop} (h : Part X scope p) {vs : List Nat} {fp : List Addr} {tn : Nat → Heap → Prop} {D : Addr} {s3 s4 : Shared} {H3 : Hp} {ce : Env} (B : Within X pins σ scope vs fp tn D s3 H3 ce s4) : p (X.blk s3 H3 scope ce fp) := by
  obtain ⟨C, cl, e⟩ := B.form
  rw [e]
  exact h _ _ _ _ _
theorem core1 (room : X.A.units + 1 < cLine) (calm : X.calm = true) (hN : X.N.Nodup) (I : Inv X pins σ H s) (hi : PI X tg iter wi) (ok : BlkOk X.N X.env.scope scope own) (hg : Part X scope fun Y => PG Y tg g) (ht : Part X scope fun Y => PTs Y ifs tt)
    (hk : Part X scope fun Y => PE Y kx tk) (hv : Part X scope fun Y => PE Y vx tv) (plain : ∀ x, foldedSetIterable iter X.env x = pure x) (h : tD1 kd wi g tt tk tv (own.map (·.2)) σ H Q)
    (fin : ∀ D C s' m H', Inv X pins σ H' s' → Q (.ref D) H' → s'.heap.Ns C m → FpOk X pins H' C → compPost (model X.prog X.w) X.A X.xe use Qf (.ref D) C (.ok .next) s') :
    wpAny (model X.prog X.w) X.A (comprehension (.DictComp kx vx [⟨tg, iter, ifs, 0⟩] scope pos) scope X.env pos' newDict false (eval iter X.env) use) Qf X.xe s := by
  refine opens kd rfl I hi ok hN plain h fun it fp tn J H2 D s3 s4 ce T q fresh nofp B => ?_
  obtain ⟨G, ⟨m0, g0⟩, round⟩ := q D fresh
  have pg := Part.at hg B
  have pt := Part.at ht B
  have pk := Part.at hk B
  have pv := Part.at hv B
  have loop : codeAny (model X.prog X.w) X.A (.compLoop (.DictComp kx vx [⟨tg, iter, ifs, 0⟩] scope pos) 0 (.ref it) (.ref D) ce) (compPost (model X.prog X.w) X.A X.xe use Qf (.ref D) s3.heap.objs.size) s4 := by
    refine compLoop_anyD (fun n t => ∃ i H', Inv (X.blk s3 (upd H2 D (nilO kd)) scope ce fp) [] (wipe σ (own.map (·.2))) H' t ∧ tn i t.heap ∧ (∀ b ∈ fp, H' b = none) ∧ G i n H') ?_ m0 ⟨0, _, B.inn, B.at0, nofp, g0⟩
    rintro n s5 ⟨i, H5, I5, t5, n5, g5⟩
    rcases round i n H5 g5 with ⟨stop, qq⟩ | ⟨go, Nx, next, step⟩
    · refine thnF (T.done (X.blk s3 (upd H2 D (nilO kd)) scope ce fp) rfl rfl rfl calm i [] s5 _ H5 (fun _ _ => False) I5 (B.still I5 n5) t5 stop) fun r s6 ⟨hr, I6⟩ => ?_
      subst hr
      obtain ⟨m, I7, ns, f⟩ := B.back I6
      exact fin D _ s6 m H5 I7 qq ns f
    · refine thnF (T.item (X.blk s3 (upd H2 D (nilO kd)) scope ce fp) rfl rfl rfl calm i [] s5 _ H5 (fun _ _ => False) I5 (B.still I5 n5) t5 go) fun r s6 ⟨u, hr, h6⟩ => ?_
      subst hr
      refine thnF h6 fun _ s7 ⟨x, H7, I7, r7, y7, t7, n7⟩ => ?_
      refine thnF (pg.run _ s7 _ H7 x u _ (I7.pinned (B.still I7 n7) (T.obj _ _ t7)) r7 (step x H7 y7)) fun _ s8 ⟨σ8, H8, I8, w8, q8⟩ => ?_
      refine thnF (pt.run _ s8 σ8 H8 _ I8 q8) fun b s9 ⟨H9, I9, q9⟩ => ?_
      have done : ∀ {t : Shared} {H' : Hp}, Inv (X.blk s3 (upd H2 D (nilO kd)) scope ce fp) ([] ++ pinsAt fp s7.heap) σ8 H' t → Nx H' → ∃ m, m < n ∧ ∃ i H', Inv (X.blk s3 (upd H2 D (nilO kd)) scope ce fp) [] (wipe σ (own.map (·.2))) H' t ∧ tn i t.heap ∧ (∀ b ∈ fp, H' b = none) ∧ G i m H' := fun {t H'} J' nx => by
        obtain ⟨m', lt, g'⟩ := next H' nx
        have held : ∀ b ∈ fp, ∀ o, s7.heap.get? b = some o → t.heap.get? b = some o ∧ H' b = none := fun b hb o e => (fun z => ⟨z.1, z.2.1⟩) (J'.pin (b, o) (List.mem_append_right _ (List.mem_append_right _ (mem_pinsAt hb e))))
        refine ⟨m', lt, i + 1, H', (J'.unpinned (pins := [])).weak (by rw [← wipe_length σ8 (own.map (·.2)), w8]) (fun j v e => (wipe_some (w8.symm ▸ e)).1), T.keep _ _ _ t7 fun b hb o e => (held b hb o e).1, fun b hb => ?_, g'⟩
        obtain ⟨o, e, _⟩ := T.obj _ _ t7 b hb
        exact (held b hb o e).2
      cases b with
      | false => exact done I9 q9
      | true =>
        refine thnF (pk.run _ s9 σ8 H9 _ I9 q9) fun z s10 ⟨yk, H10, I10, r10, q10⟩ => thnF (pv.run _ s10 σ8 H10 _ I10 q10) fun z2 s11 ⟨yv, H11, I11, r11, H12, put, nx⟩ => ?_
        exact takes_item (X := X.blk s3 (upd H2 D (nilO kd)) scope ce fp) room I11 put r10 r11 fun s12 I12 => done I12 nx
  exact codeAny_compStart_dict loop (T.self X.A 0 _ _ _ B.at0 loop)
theorem core2 (room : X.A.units + 1 < cLine) (calm : X.calm = true) (hN : X.N.Nodup) (I : Inv X pins σ H s) (hi : PI X tg iter wi) (ok : BlkOk X.N X.env.scope scope own) (sub : ∀ i ∈ vs1, i ∈ own.map (·.2)) (hg : Part X scope fun Y => PG Y tg g) (ht : Part X scope fun Y => PTs Y ifs tt)
    (hi1 : Part X scope fun Y => PI Y tg1 iter1 wi1) (hg1 : Part X scope fun Y => PG Y tg1 g1) (ht1 : Part X scope fun Y => PTs Y ifs1 tt1)
    (hk : Part X scope fun Y => PE Y kx tk) (hv : Part X scope fun Y => PE Y vx tv) (plain : ∀ x, foldedSetIterable iter X.env x = pure x) (plain1 : ∀ env x, foldedSetIterable iter1 env x = pure x) (h : tD2 kd wi g tt wi1 g1 tt1 tk tv (own.map (·.2)) vs1 σ H Q)
    (fin : ∀ D C s' m H', Inv X pins σ H' s' → Q (.ref D) H' → s'.heap.Ns C m → FpOk X pins H' C → compPost (model X.prog X.w) X.A X.xe use Qf (.ref D) C (.ok .next) s') :
    wpAny (model X.prog X.w) X.A (comprehension (two kx vx tg iter tg1 iter1 ifs ifs1 scope pos) scope X.env pos' newDict false (eval iter X.env) use) Qf X.xe s := by
  refine opens kd rfl I hi ok hN plain h fun it fp tn J H2 D s3 s4 ce T q fresh nofp B => ?_
  obtain ⟨G, ⟨m0, g0⟩, round⟩ := q D fresh
  have pg := Part.at hg B
  have pt := Part.at ht B
  have pk := Part.at hk B
  have pv := Part.at hv B
  have pi1 := Part.at hi1 B
  have pg1 := Part.at hg1 B
  have pt1 := Part.at ht1 B
  generalize eH3 : upd H2 D (nilO kd) = H3 at *
  have loop : codeAny (model X.prog X.w) X.A (.compLoop (two kx vx tg iter tg1 iter1 ifs ifs1 scope pos) 0 (.ref it) (.ref D) ce) (compPost (model X.prog X.w) X.A X.xe use Qf (.ref D) s3.heap.objs.size) s4 := by
    refine rounds_outer (plain1 ce) (fun n t => ∃ i H', Inv (X.blk s3 H3 scope ce fp) [] (wipe σ (own.map (·.2))) H' t ∧ tn i t.heap ∧ (∀ b ∈ fp, H' b = none) ∧ G i n H') ?_ m0 ⟨0, _, B.inn, B.at0, nofp, g0⟩
    rintro n s5 ⟨i, H5, I5, t5, n5, g5⟩
    rcases round i n H5 g5 with ⟨stop, qq⟩ | ⟨go, Nx, next, step⟩
    · refine thnF (T.done (X.blk s3 H3 scope ce fp) rfl rfl rfl calm i [] s5 _ H5 (fun _ _ => False) I5 (B.still I5 n5) t5 stop) fun r s6 ⟨hr, I6⟩ => ?_
      subst hr
      obtain ⟨m, I7, ns, f⟩ := B.back I6
      exact fin D _ s6 m H5 I7 qq ns f
    · refine thnF (T.item (X.blk s3 H3 scope ce fp) rfl rfl rfl calm i [] s5 _ H5 (fun _ _ => False) I5 (B.still I5 n5) t5 go) fun r s6 ⟨u, hr, h6⟩ => ?_
      subst hr
      refine thnF h6 fun _ s7 ⟨x, H7, I7, r7, y7, t7, n7⟩ => ?_
      refine thnF (pg.run _ s7 _ H7 x u _ (I7.pinned (B.still I7 n7) (T.obj _ _ t7)) r7 (step x H7 y7)) fun _ s8 ⟨σ8, H8, I8, w8, q8⟩ => ?_
      refine thnF (pt.run _ s8 σ8 H8 _ I8 q8) fun b s9 ⟨H9, I9, q9⟩ => ?_
      -- the round's end, from slots that know at least what the block knew
      have done : ∀ {σ9 : L2.St} {t : Shared} {H' : Hp}, Inv (X.blk s3 H3 scope ce fp) ([] ++ pinsAt fp s7.heap) σ9 H' t → (wipe σ (own.map (·.2))).length = σ9.length → (∀ (j : Nat) v, (wipe σ (own.map (·.2)))[j]? = some (some v) → σ9[j]? = some (some v)) → Nx H' →
          ∃ m, m < n ∧ ∃ i H', Inv (X.blk s3 H3 scope ce fp) [] (wipe σ (own.map (·.2))) H' t ∧ tn i t.heap ∧ (∀ b ∈ fp, H' b = none) ∧ G i m H' := fun {σ9 t H'} J' ln kn nx => by
        obtain ⟨m', lt, g'⟩ := next H' nx
        have held : ∀ b ∈ fp, ∀ o, s7.heap.get? b = some o → t.heap.get? b = some o ∧ H' b = none := fun b hb o e => (fun z => ⟨z.1, z.2.1⟩) (J'.pin (b, o) (List.mem_append_right _ (List.mem_append_right _ (mem_pinsAt hb e))))
        refine ⟨m', lt, i + 1, H', (J'.unpinned (pins := [])).weak ln kn, T.keep _ _ _ t7 fun b hb o e => (held b hb o e).1, fun b hb => ?_, g'⟩
        obtain ⟨o, e, _⟩ := T.obj _ _ t7 b hb
        exact (held b hb o e).2
      have l8 : (wipe σ (own.map (·.2))).length = σ8.length := by rw [← w8, wipe_length]
      have k8 : ∀ (j : Nat) v, (wipe σ (own.map (·.2)))[j]? = some (some v) → σ8[j]? = some (some v) := fun j v e => (wipe_some (w8.symm ▸ e)).1
      have k9 : ∀ (j : Nat) v, (wipe σ (own.map (·.2)))[j]? = some (some v) → (wipe σ8 vs1)[j]? = some (some v) := fun j v e => by
        obtain ⟨e1, e2⟩ := wipe_some (w8.symm ▸ e)
        exact (wipe_out fun z => e2 (sub j z)).trans e1
      cases b with
      | false => exact done I9 l8 k8 q9
      | true =>
        refine thnF (pi1.run _ s9 σ8 H9 _ I9 q9) fun xv s10 hx => thnF hx fun itv s11 h11 => ?_
        obtain ⟨it1, fp1, tn1, J1, H11, rfl, I11, T1, t11, f11, G1, ⟨m1, g1⟩, round1⟩ := h11
        have still1 : ∀ {H' : Hp}, (∀ b ∈ fp1, H' b = none) → ∀ b ∈ fp1, FpOk (X.blk s3 H3 scope ce fp) ([] ++ pinsAt fp s7.heap) H' b := fun hn b hb => ⟨hn b hb, (f11 b hb).2⟩
        have loop1 : codeAny (model X.prog X.w) X.A (.compLoop (two kx vx tg iter tg1 iter1 ifs ifs1 scope pos) 1 (.ref it1) (.ref D) ce)
            (fun r t => match r with
              | .ok _ => ∃ m, m < n ∧ ∃ i H', Inv (X.blk s3 H3 scope ce fp) [] (wipe σ (own.map (·.2))) H' t ∧ tn i t.heap ∧ (∀ b ∈ fp, H' b = none) ∧ G i m H'
              | .error _ => False) s11 := by
          refine rounds_inner (fun k t => ∃ j H', Inv (X.blk s3 H3 scope ce fp) ([] ++ pinsAt fp s7.heap) (wipe σ8 vs1) H' t ∧ tn1 j t.heap ∧ (∀ b ∈ fp1, H' b = none) ∧ G1 j k H') ?_ m1 ⟨0, H11, I11.weak (wipe_length _ _) (fun j v e => (wipe_some e).1), t11, fun b hb => (f11 b hb).1, g1⟩
          rintro k s12 ⟨j, H12, I12, t12, n12, g12⟩
          rcases round1 j k H12 g12 with ⟨stop1, nx1⟩ | ⟨go1, Nx1, next1, step1⟩
          · refine thnF (T1.done (X.blk s3 H3 scope ce fp) rfl rfl rfl calm j _ s12 (wipe σ8 vs1) H12 (fun _ _ => False) I12 (still1 n12) t12 stop1) fun r s13 ⟨hr, I13⟩ => ?_
            subst hr
            exact done I13 (l8.trans (wipe_length σ8 vs1).symm) k9 nx1
          · refine thnF (T1.item (X.blk s3 H3 scope ce fp) rfl rfl rfl calm j _ s12 (wipe σ8 vs1) H12 (fun _ _ => False) I12 (still1 n12) t12 go1) fun r s13 ⟨u1, hr, h13⟩ => ?_
            subst hr
            refine thnF h13 fun _ s14 ⟨x1, H14, I14, r14, y14, t14, n14⟩ => ?_
            refine thnF (pg1.run _ s14 (wipe σ8 vs1) H14 x1 u1 _ (I14.pinned (still1 n14) (T1.obj _ _ t14)) r14 (step1 x1 H14 y14)) fun _ s15 ⟨σ15, H15, I15, w15, q15⟩ => ?_
            refine thnF (pt1.run _ s15 σ15 H15 _ I15 q15) fun b1 s16 ⟨H16, I16, q16⟩ => ?_
            have done1 : ∀ {t : Shared} {H' : Hp}, Inv (X.blk s3 H3 scope ce fp) (([] ++ pinsAt fp s7.heap) ++ pinsAt fp1 s14.heap) σ15 H' t → Nx1 H' → ∃ m, m < k ∧ ∃ j H', Inv (X.blk s3 H3 scope ce fp) ([] ++ pinsAt fp s7.heap) (wipe σ8 vs1) H' t ∧ tn1 j t.heap ∧ (∀ b ∈ fp1, H' b = none) ∧ G1 j m H' := fun {t H'} J' nx => by
              obtain ⟨m', lt, g'⟩ := next1 H' nx
              have held : ∀ b ∈ fp1, ∀ o, s14.heap.get? b = some o → t.heap.get? b = some o ∧ H' b = none := fun b hb o e => (fun z => ⟨z.1, z.2.1⟩) (J'.pin (b, o) (List.mem_append_right _ (List.mem_append_right _ (mem_pinsAt hb e))))
              refine ⟨m', lt, j + 1, H', J'.unpinned.weak (by rw [← w15, wipe_length]) (fun j v e => (wipe_some (w15.symm ▸ e)).1), T1.keep _ _ _ t14 fun b hb o e => (held b hb o e).1, fun b hb => ?_, g'⟩
              obtain ⟨o, e, _⟩ := T1.obj _ _ t14 b hb
              exact (held b hb o e).2
            cases b1 with
            | false => exact done1 I16 q16
            | true =>
              refine thnF (pk.run _ s16 σ15 H16 _ I16 q16) fun z s17 ⟨yk, H17, I17, r17, q17⟩ => thnF (pv.run _ s17 σ15 H17 _ I17 q17) fun z2 s18 ⟨yv, H18, I18, r18, H19, put, nx⟩ => ?_
              exact takes_item (X := X.blk s3 H3 scope ce fp) room I18 put r17 r18 fun s19 I19 => done1 I19 nx
        exact inner_begins loop1 (T1.self X.A 0 _ _ _ t11 loop1)
  exact codeAny_compStart_dict loop (T.self X.A 0 _ _ _ B.at0 loop)
/-- the block is let go, the dict is the value -/
theorem as_value {D C : Addr} {s' : Shared} {m : Str → Option Value} {H' : Hp} (J : Inv X pins σ H' s') (q : Q (.ref D) H') (ns : s'.heap.Ns C m) (f : FpOk X pins H' C) : compPost (model X.prog X.w) X.A X.xe none (EP X pins σ Q) (.ref D) C (.ok .next) s' := by
  obtain ⟨f0, f1, f2, f3, f4, f5⟩ := f
  exact ⟨m, ns, fun h2 same => ⟨.ref D, H', J.turned (t' := s'.toks) (fun b o hb e => (same.2 b hb).trans e) f0 f1 f3 f4 f5, rfl, q⟩⟩
/-- .. goes to a name first -/
theorem as_name {i : Nat} {y : Str} {py : Pos} (hN : X.N.Nodup) (hy : X.N[i]? = some y) (loc : X.env.scope.names.lookup y = some .local) {Dn : Ends} {D C : Addr} {s' : Shared} {m : Str → Option Value} {H' : Hp} (J : Inv X pins σ H' s') (q : gName i (.ref D) σ H' Dn.nx) (ns : s'.heap.Ns C m) (f : FpOk X pins H' C) :
    compPost (model X.prog X.w) X.A X.xe (some (assign (.Name y py) X.env)) (fun _ s' => SP X pins Dn .next s') (.ref D) C (.ok .next) s' := by
  show wpAny _ _ (assign (.Name y py) X.env (.ref D)) _ _ _
  refine wpAny_assign_Name (store_ok2 (v := V.ref D) J hN hy (.inl loc) rfl (fun s2 I2 ⟨a, same, ha⟩ => ?_) (.inr loc))
  obtain ⟨f0, f1, f2, f3, f4, f5⟩ := f
  have apart : C ≠ a := ha.elim (fun z => z ▸ f1) fun z e => f4 y a z e.symm
  exact ⟨m, ns.sameBut same apart, fun h3 same3 => ⟨_, H', I2.turned (t' := s2.toks) (fun b o hb e => (same3.2 b hb).trans e) f0 f1 f3 f4 f5, q⟩⟩
theorem pe_d1 (room : X.A.units + 1 < cLine) (calm : X.calm = true) (hN : X.N.Nodup) (hi : PI X tg iter wi) (ok : BlkOk X.N X.env.scope scope own) (hg : Part X scope fun Y => PG Y tg g) (ht : Part X scope fun Y => PTs Y ifs tt)
    (hk : Part X scope fun Y => PE Y kx tk) (hv : Part X scope fun Y => PE Y vx tv) (plain : ∀ x, foldedSetIterable iter X.env x = pure x := by intro _; rfl) : PE X (.DictComp kx vx [⟨tg, iter, ifs, 0⟩] scope pos) (tD1 kd wi g tt tk tv (own.map (·.2))) :=
  ⟨fun pins s σ H Q I h => by rw [arm_eval_DictComp]; exact core1 room calm hN I hi ok hg ht hk hv plain h fun D C s' m H' J q ns f => as_value J q ns f⟩
theorem pe_d2 (room : X.A.units + 1 < cLine) (calm : X.calm = true) (hN : X.N.Nodup) (hi : PI X tg iter wi) (ok : BlkOk X.N X.env.scope scope own) (sub : ∀ i ∈ vs1, i ∈ own.map (·.2)) (hg : Part X scope fun Y => PG Y tg g) (ht : Part X scope fun Y => PTs Y ifs tt)
    (hi1 : Part X scope fun Y => PI Y tg1 iter1 wi1) (hg1 : Part X scope fun Y => PG Y tg1 g1) (ht1 : Part X scope fun Y => PTs Y ifs1 tt1)
    (hk : Part X scope fun Y => PE Y kx tk) (hv : Part X scope fun Y => PE Y vx tv) (plain : ∀ x, foldedSetIterable iter X.env x = pure x := by intro _; rfl) (plain1 : ∀ env x, foldedSetIterable iter1 env x = pure x := by intro _ _; rfl) :
    PE X (two kx vx tg iter tg1 iter1 ifs ifs1 scope pos) (tD2 kd wi g tt wi1 g1 tt1 tk tv (own.map (·.2)) vs1) :=
  ⟨fun pins s σ H Q I h => by rw [arm_eval_DictComp]; exact core2 room calm hN I hi ok sub hg ht hi1 hg1 ht1 hk hv plain plain1 h fun D C s' m H' J q ns f => as_value J q ns f⟩
theorem ps_setD1 {i : Nat} {y : Str} {py spos : Pos} (room : X.A.units + 1 < cLine) (calm : X.calm = true) (hN : X.N.Nodup) (hy : X.N[i]? = some y) (loc : X.env.scope.names.lookup y = some .local)
    (sw : swapsWith (.DictComp kx vx [⟨tg, iter, ifs, 0⟩] scope pos) (some (.Name y py)) spos.line X.env = pure true) (hi : PI X tg iter wi) (ok : BlkOk X.N X.env.scope scope own) (hg : Part X scope fun Y => PG Y tg g) (ht : Part X scope fun Y => PTs Y ifs tt)
    (hk : Part X scope fun Y => PE Y kx tk) (hv : Part X scope fun Y => PE Y vx tv) (plain : ∀ x, foldedSetIterable iter X.env x = pure x := by intro _; rfl) :
    PS X (.Assign [.Name y py] (.DictComp kx vx [⟨tg, iter, ifs, 0⟩] scope pos) spos) (tAsg (tD1 kd wi g tt tk tv (own.map (·.2))) (gName i)) := ⟨fun pins s σ H Dn I h => by
  rw [exec_Assign_Name_used _ _ _ _ sw]
  refine wpAny_bind (wpAny_standAt (wpAny_bind ?_))
  show wpAny _ X.A (do let _ ← comprehension (.DictComp kx vx [⟨tg, iter, ifs, 0⟩] scope pos) scope X.env (firstIterPos [⟨tg, iter, ifs, 0⟩] pos) newDict false (eval iter X.env) (some (assign (.Name y py) X.env))) _ _ s
  refine wpAny_bind (thn (core1 (kd := kd) (Q := fun x H1 => gName i x σ H1 Dn.nx) (Qf := fun _ s' => SP X pins Dn .next s') room calm hN I hi ok hg ht hk hv plain h fun D C s' m H' J q ns f => as_name hN hy loc J q ns f) fun _ s' hq => wpAny_pure (wpAny_pure hq))⟩
theorem ps_setD2 {i : Nat} {y : Str} {py spos : Pos} (room : X.A.units + 1 < cLine) (calm : X.calm = true) (hN : X.N.Nodup) (hy : X.N[i]? = some y) (loc : X.env.scope.names.lookup y = some .local)
    (sw : swapsWith (two kx vx tg iter tg1 iter1 ifs ifs1 scope pos) (some (.Name y py)) spos.line X.env = pure true) (hi : PI X tg iter wi) (ok : BlkOk X.N X.env.scope scope own) (sub : ∀ i ∈ vs1, i ∈ own.map (·.2)) (hg : Part X scope fun Y => PG Y tg g) (ht : Part X scope fun Y => PTs Y ifs tt)
    (hi1 : Part X scope fun Y => PI Y tg1 iter1 wi1) (hg1 : Part X scope fun Y => PG Y tg1 g1) (ht1 : Part X scope fun Y => PTs Y ifs1 tt1)
    (hk : Part X scope fun Y => PE Y kx tk) (hv : Part X scope fun Y => PE Y vx tv) (plain : ∀ x, foldedSetIterable iter X.env x = pure x := by intro _; rfl) (plain1 : ∀ env x, foldedSetIterable iter1 env x = pure x := by intro _ _; rfl) :
    PS X (.Assign [.Name y py] (two kx vx tg iter tg1 iter1 ifs ifs1 scope pos) spos) (tAsg (tD2 kd wi g tt wi1 g1 tt1 tk tv (own.map (·.2)) vs1) (gName i)) := ⟨fun pins s σ H Dn I h => by
  rw [exec_Assign_Name_used _ _ _ _ sw]
  refine wpAny_bind (wpAny_standAt (wpAny_bind ?_))
  show wpAny _ X.A (do let _ ← comprehension (two kx vx tg iter tg1 iter1 ifs ifs1 scope pos) scope X.env (firstIterPos [⟨tg, iter, ifs, 0⟩, ⟨tg1, iter1, ifs1, 0⟩] pos) newDict false (eval iter X.env) (some (assign (.Name y py) X.env))) _ _ s
  refine wpAny_bind (thn (core2 (kd := kd) (Q := fun x H1 => gName i x σ H1 Dn.nx) (Qf := fun _ s' => SP X pins Dn .next s') room calm hN I hi ok sub hg ht hi1 hg1 ht1 hk hv plain plain1 h fun D C s' m H' J q ns f => as_name hN hy loc J q ns f) fun _ s' hq => wpAny_pure (wpAny_pure hq))⟩
theorem sw_dict {gs : List Comprehension} {py : Pos} {y : Str} {l : Nat} {env : Env} (hk : env.scope.kind = .function) (hy : env.scope.names.lookup y = some .local) (hl : (py.line == pos.line) = true)
    (ha : (scope.names.any fun (n, k) => n == y && (k == .local || k == .cell)) = false) : swapsWith (.DictComp kx vx gs scope pos) (some (.Name y py)) l env = pure true := by
  have ky : env.kindOf y = some .local := hy
  have kb : env.blockKind = .function := by unfold Env.blockKind; rw [hk]; rfl
  unfold swapsWith
  simp only [kb, ky, ha, Expr.pos, hl]
  rfl
end
end
end X22

namespace DL
open PySem PySem.Spec PyProof.Rows L2 Kit X22

/-! ### dict comprehensions -/
/-- the rounds of {k: v for target in .. if ..}: acc what is held so far -/
noncomputable def dcW (t : Bool) (dg : D → DS → Option DS) (ft : DS → W Bool) (fk fv : DS → W D) (ε : DS) (p : Mu → Prop) : List D → List (D × D) → W (List (D × D))
  | [], acc => gd p (W.ret acc)
  | x :: xs, acc => gd p (W.bnd (W.opt (dg x ε)) fun ε1 => W.bnd (ft ε1) fun b => if b = true then W.bnd (fk ε1) fun k => W.bnd (fv ε1) fun v => W.chk (okKey t k = true ∧ acc.length < sizeLine) (dcW t dg ft fk fv ε p xs (dputL acc k v)) else dcW t dg ft fk fv ε p xs acc)
/-- .. of two clauses -/
noncomputable def dc2W (t : Bool) (dg : D → DS → Option DS) (ft : DS → W Bool) (vs1 : List Nat) (fi1 : DS → W Itm) (dg1 : D → DS → Option DS) (ft1 : DS → W Bool) (fk fv : DS → W D) (ε : DS) (p : Mu → Prop) : List D → List (D × D) → W (List (D × D))
  | [], acc => gd p (W.ret acc)
  | x :: xs, acc => gd p (W.bnd (W.opt (dg x ε)) fun ε1 => W.bnd (ft ε1) fun b => if b = true then W.bnd (fi1 ε1) fun u => W.bnd (dcW t dg1 ft1 fk fv (wipeD ε1 vs1) u.inv u.xs acc) fun acc1 => dc2W t dg ft vs1 fi1 dg1 ft1 fk fv ε p xs acc1 else dc2W t dg ft vs1 fi1 dg1 ft1 fk fv ε p xs acc)
/-- the dict, one that no one changes (m = false) or one of the store -/
def gMkD (m t : Bool) (ks : List (D × D)) : W D := if m = true then alloc (.dct t ks) else W.ret (.dct t ks)
noncomputable def dDc (m t : Bool) (vs : List Nat) (fi : DS → W Itm) (dg : D → DS → Option DS) (ft : DS → W Bool) (fk fv : DS → W D) : DS → W D := fun ε => W.bnd (fi ε) fun u => W.bnd (W.nox (dcW t dg ft fk fv (wipeD ε vs) u.inv u.xs [])) (gMkD m t)
noncomputable def dDc2 (m t : Bool) (vs : List Nat) (fi : DS → W Itm) (dg : D → DS → Option DS) (ft : DS → W Bool) (vs1 : List Nat) (fi1 : DS → W Itm) (dg1 : D → DS → Option DS) (ft1 : DS → W Bool) (fk fv : DS → W D) : DS → W D := fun ε =>
  W.bnd (fi ε) fun u => W.bnd (W.nox (dc2W t dg ft vs1 fi1 dg1 ft1 fk fv (wipeD ε vs) u.inv u.xs [])) (gMkD m t)
section
variable (K : PySem.W.Frag) (dk : DK)
/-- the dict at A holds acc -/
def HeldD (S : Pl) (μ : Mu) (H : Hp) (A : Addr) (acc : List (D × D)) : Bool → Prop
  | false => ∃ kvs, H A = some (.dK kvs) ∧ RepK K S μ H acc kvs
  | true => ∃ kvs, H A = some (.dT kvs) ∧ RepT K S μ H acc kvs
/-- a dict is being made at A, unseen by all else -/
structure Mk (S1 : Pl) (μ1 : Mu) (H1 : Hp) (A : Addr) (t : Bool) (acc : List (D × D)) (S2 : Pl) (μ2 : Mu) (H2 : Hp) : Prop where
  hid : S2.hid = S1.hid
  ux : Ux S1 μ1 H1 (S2.plus A) μ2 H2
  hk : ∀ a ∈ S1.hid, H2 a = H1 a
  new : A ∉ S1.hid
  ok : Ok K dk.p (S2.plus A) μ2 H2
  held : HeldD K (S2.plus A) μ2 H2 A acc t
end
section
variable {K : PySem.W.Frag} {dk : DK} {S1 S2 S3 : Pl} {μ1 μ2 μ3 : Mu} {H1 H2 H3 : Hp} {A : Addr} {t : Bool} {acc : List (D × D)}
theorem HeldD.len (h : HeldD K S1 μ1 H1 A acc t) : True := True.intro
theorem Mk.mem (M : Mk K dk S1 μ1 H1 A t acc S2 μ2 H2) : A ∈ (S2.plus A).hid := List.mem_append_right _ List.mem_cons_self
theorem Mk.on (M : Mk K dk S1 μ1 H1 A t acc S2 μ2 H2) (ex : Ex (S2.plus A) μ2 H2 S3 μ3 H3) (ok : Ok K dk.p S3 μ3 H3) : ∃ S4 : Pl, S3 = S4.plus A ∧ Mk K dk S1 μ1 H1 A t acc S4 μ3 H3 := by
  have e : S3 = Pl.plus ⟨S3.L, S1.hid⟩ A := by
    have h : S3.hid = S2.hid ++ [A] := ex.hid
    rw [M.hid] at h
    obtain ⟨l, hd⟩ := S3
    show Pl.mk l hd = Pl.mk l (S1.hid ++ [A])
    rw [← h]
  refine ⟨⟨S3.L, S1.hid⟩, e, ?_⟩
  rw [e] at ex ok
  refine ⟨rfl, M.ux.trans ex.ux, fun a ha => (ex.hk a (List.mem_append_left _ (by rw [M.hid]; exact ha))).trans (M.hk a ha), M.new, ok, ?_⟩
  have eA := ex.hk A M.mem
  cases t with
  | false =>
    obtain ⟨kvs, h1, h2⟩ := M.held
    exact ⟨kvs, eA.trans h1, h2.ex ex⟩
  | true =>
    obtain ⟨kvs, h1, h2⟩ := M.held
    exact ⟨kvs, eA.trans h1, h2.ex ex⟩
theorem Mk.put (M : Mk K dk S1 μ1 H1 A t acc S2 μ2 H2) {k v : D} {y z : V} (hk : okKey t k = true) (hl : acc.length < sizeLine) (ry : Rep K (S2.plus A) μ2 H2 k y) (rz : Rep K (S2.plus A) μ2 H2 v z) : ∃ H', DPut H2 A y z H' ∧ Mk K dk S1 μ1 H1 A t (dputL acc k v) S2 μ2 H' ∧ Ux (S2.plus A) μ2 H2 (S2.plus A) μ2 H' := by
  have keepH : ∀ o, ∀ a ∈ S1.hid, upd H2 A o a = H1 a := fun o a ha => by
    rw [upd_ne]
    · exact M.hk a ha
    · rintro rfl
      exact M.new ha
  cases t with
  | false =>
    obtain ⟨kvs, h1, h2⟩ := M.held
    obtain ⟨w, hw⟩ := Option.isSome_iff_exists.mp hk
    have ux : Ux (S2.plus A) μ2 H2 (S2.plus A) μ2 (upd H2 A (.dK (putK kvs w z))) := hid_ux M.mem
    exact ⟨_, .inl ⟨kvs, w, h1, key_rep ry hw, by rw [← repK_len h2]; exact hl, rfl⟩, ⟨M.hid, M.ux.trans ux, keepH _, M.new, hid_ok M.ok M.mem, ⟨_, upd_same, repK_put hw (rz.ux ux) (h2.ux ux)⟩⟩, ux⟩
  | true =>
    obtain ⟨kvs, h1, h2⟩ := M.held
    obtain ⟨w, hw⟩ := Option.isSome_iff_exists.mp hk
    obtain ⟨b, rfl, hb⟩ := keyT_rep ry hw
    have ux : Ux (S2.plus A) μ2 H2 (S2.plus A) μ2 (upd H2 A (.dT (putK kvs w z))) := hid_ux M.mem
    exact ⟨_, .inr ⟨kvs, w, b, h1, rfl, hb, by rw [← repT_len h2]; exact hl, rfl⟩, ⟨M.hid, M.ux.trans ux, keepH _, M.new, hid_ok M.ok M.mem, ⟨_, upd_same, repT_put hw (rz.ux ux) (h2.ux ux)⟩⟩, ux⟩
theorem Mk.start (ok : Ok K dk.p S1 μ1 H1) (hA : H1 A = none) (t : Bool) : Mk K dk S1 μ1 H1 A t [] S1 μ1 (upd H1 A (nilO t)) := by
  have nA : A ∉ S1.hid := fun h => ok.fresh hA (List.mem_append_right _ h)
  refine ⟨rfl, hide_ux ok hA, fun a ha => upd_ne (fun e => nA (e ▸ ha)), nA, hide_ok ok hA, ?_⟩
  cases t with
  | false => exact ⟨[], upd_same, .nil⟩
  | true => exact ⟨[], upd_same, .nil⟩
/-- it is there, for all to see -/
theorem Mk.done (M : Mk K dk S1 μ1 H1 A t acc S2 μ2 H2) : Ex S1 μ1 H1 S2 μ2 H2 ∧ Ok K dk.p S2 μ2 H2 ∧ Rep K S2 μ2 H2 (.dct t acc) (.ref A) := by
  refine ⟨⟨M.ux.L, M.hid, fun a o h n => ?_, M.hk⟩, M.ok.drop, ?_⟩
  · obtain ⟨h1, n1⟩ := M.ux.keep a o h n
    exact ⟨h1, fun z => n1 (live_plus z)⟩
  · cases t with
    | false =>
      obtain ⟨kvs, h1, h2⟩ := M.held
      exact .dcK ⟨h1, dead_plus M.ok⟩ (h2.ux ux_drop)
    | true =>
      obtain ⟨kvs, h1, h2⟩ := M.held
      exact .dcT ⟨h1, dead_plus M.ok⟩ (h2.ux ux_drop)
/-- .. what was hidden comes into the store -/
theorem show_ux {S : Pl} {μ : Mu} {H : Hp} {m : MO} (ok : Ok K dk.p (S.plus A) μ H) : Ux (S.plus A) μ H (S.add A) (μ ++ [m]) H :=
  ⟨⟨[A], rfl⟩, fun a o h n => ⟨h, fun z => n ((live_add (by exact ok.len) z).elim live_plus fun e => .inl (by rw [e]; exact List.mem_append_right _ List.mem_cons_self))⟩⟩
theorem show_ok {S : Pl} {μ : Mu} {H : Hp} {m : MO} (ok : Ok K dk.p (S.plus A) μ H) (new : MoOk K dk.p (S.add A) (μ ++ [m]) H μ.length A m) : Ok K dk.p (S.add A) (μ ++ [m]) H := by
  have len : S.L.length = μ.length := ok.len
  have perm : (S.L ++ (S.hid ++ [A])).Perm ((S.L ++ [A]) ++ S.hid) := by
    rw [List.append_assoc]
    exact List.Perm.append_left _ List.perm_append_comm
  refine ⟨?_, perm.nodup_iff.mp ok.nd, fun a ha => ok.here a (perm.mem_iff.mpr ha), fun n mo a e1 e2 => ?_⟩
  · show (S.L ++ [A]).length = _
    rw [List.length_append, List.length_append, len]
    rfl
  · have e2 : (S.L ++ [A])[n]? = some a := e2
    by_cases hn : n < μ.length
    · rw [List.getElem?_append_left hn] at e1
      rw [List.getElem?_append_left (by omega)] at e2
      refine mo_ux (ok.at_ n mo a e1 e2) (show_ux ok) rfl (fun _ _ => rfl) fun z => ?_
      rw [List.getElem?_append_left (List.getElem?_eq_some_iff.mp z).1]
      exact z
    · have lt := (List.getElem?_eq_some_iff.mp e1).1
      rw [List.length_append] at lt
      obtain rfl : n = μ.length := by
        have : lt = lt := rfl
        simp only [List.length_cons, List.length_nil] at lt
        omega
      rw [List.getElem?_append_right (Nat.le_refl _), Nat.sub_self] at e1
      rw [← len, List.getElem?_append_right (Nat.le_refl _), Nat.sub_self] at e2
      cases e1
      cases e2
      exact new
theorem Mk.doneM (M : Mk K dk S1 μ1 H1 A t acc S2 μ2 H2) : Ex S1 μ1 H1 (S2.add A) (μ2 ++ [.dct t acc]) H2 ∧ Ok K dk.p (S2.add A) (μ2 ++ [.dct t acc]) H2 ∧ Rep K (S2.add A) (μ2 ++ [.dct t acc]) H2 (.ref μ2.length) (.ref A) := by
  have ux := show_ux (m := .dct t acc) M.ok
  have len : S2.L.length = μ2.length := M.ok.len
  refine ⟨⟨(M.ux.trans ux).L, M.hid, (M.ux.trans ux).keep, M.hk⟩, show_ok M.ok ?_, .ref ?_⟩
  · cases t with
    | false =>
      obtain ⟨kvs, h1, h2⟩ := M.held
      exact ⟨kvs, h1, h2.ux ux⟩
    | true =>
      obtain ⟨kvs, h1, h2⟩ := M.held
      exact ⟨kvs, h1, h2.ux ux⟩
  · show (S2.L ++ [A])[μ2.length]? = _
    rw [← len, List.getElem?_append_right (Nat.le_refl _), Nat.sub_self]
    rfl
theorem Mk.fin {m : Bool} {S : Pl} {μ : Mu} {H : Hp} {Q : VK} {E : Exn → Mu → Prop} (M : Mk K dk S1 μ1 H1 A t acc S2 μ2 H2) (ex : Ex S μ H S1 μ1 H1) (run : (gMkD m t acc).run (Post K dk S μ H Q) E μ2) : Q (.ref A) H2 := by
  unfold gMkD at run
  cases m with
  | true =>
    obtain ⟨x, ok, r⟩ := M.doneM
    exact run (.ref A) _ _ (ex.trans x) ok r
  | false =>
    obtain ⟨x, ok, r⟩ := M.done
    exact run (.ref A) _ _ (ex.trans x) ok r
section
variable {J : L2.It} {ε : DS} {σ : L2.St} {vs : List Nat} {gg : TG} {dg : D → DS → Option DS} {ft : DS → W Bool} {fk fv : DS → W D} {Sb : Pl} {μb : Mu} {Hb : Hp} {xs : List D} {inv : Mu → Prop}
/-- a clause's rounds, from whatever is held to whatever is then held -/
theorem rounds (lg : LG K gg vs dg) {R : List (D × D) → Mu → Prop} {Exit : Hp → Prop} (itd : ItD K dk J Sb μb Hb ⟨xs, inv⟩) (rs : RS K Sb μb Hb ε σ) (M0 : Mk K dk S1 μ1 H1 A t acc S2 μ2 H2) (u0 : Ux Sb μb Hb (S2.plus A) μ2 H2)
    (run : (dcW t dg ft fk fv (wipeD ε vs) inv xs acc).run R (fun _ _ => False) μ2)
    (exit : ∀ S3 μ3 H3 acc, Mk K dk S1 μ1 H1 A t acc S3 μ3 H3 → Ux Sb μb Hb (S3.plus A) μ3 H3 → R acc μ3 → Exit H3) :
    ∃ G : Nat → Nat → Hp → Prop, (∃ m, G 0 m H2) ∧ ∀ i m H, G i m H → (J.stop i H ∧ Exit H) ∨ (J.go i H ∧ ∃ Nx : Hp → Prop, (∀ H', Nx H' → ∃ m', m' < m ∧ G (i + 1) m' H') ∧ ∀ x H', J.yld i H x H' → gg x (wipe σ vs) H' fun σ2 H2 => wipe σ2 vs = wipe σ vs ∧ lowT K dk (cF K dk) ft σ2 H2 fun b H3 =>
      if b = true then lowE K dk (cF K dk) fk σ2 H3 fun y H4 => lowE K dk (cF K dk) fv σ2 H4 fun z H5 => ∃ H6, DPut H5 A y z H6 ∧ Nx H6 else Nx H3) := by
  refine ⟨fun i m H => m = xs.length - i ∧ i ≤ xs.length ∧ ∃ (S3 : Pl) (μ3 : Mu) (acc : List (D × D)), Mk K dk S1 μ1 H1 A t acc S3 μ3 H ∧ Ux Sb μb Hb (S3.plus A) μ3 H ∧ (dcW t dg ft fk fv (wipeD ε vs) inv (xs.drop i) acc).run R (fun _ _ => False) μ3,
    ⟨xs.length, (Nat.sub_zero _).symm, Nat.zero_le _, S2, μ2, acc, M0, u0, run⟩, ?_⟩
  rintro i m H ⟨rfl, hi, S3, μ3, ac, M, u, run⟩
  by_cases lt : i < xs.length
  · rw [List.drop_eq_getElem_cons lt] at run
    obtain ⟨hv, run⟩ := (run : inv μ3 ∧ ((W.opt (dg xs[i] (wipeD ε vs))).bnd fun ε1 => W.bnd (ft ε1) fun b => if b = true then W.bnd (fk ε1) fun k => W.bnd (fv ε1) fun v => W.chk (okKey t k = true ∧ ac.length < sizeLine) (dcW t dg ft fk fv (wipeD ε vs) inv (xs.drop (i + 1)) (dputL ac k v)) else dcW t dg ft fk fv (wipeD ε vs) inv (xs.drop (i + 1)) ac).run R (fun _ _ => False) μ3)
    refine .inr ⟨itd.go u M.ok hv lt, fun H4 => ∃ (S4 : Pl) (μ4 : Mu) (ac : List (D × D)), Mk K dk S1 μ1 H1 A t ac S4 μ4 H4 ∧ Ux Sb μb Hb (S4.plus A) μ4 H4 ∧ (dcW t dg ft fk fv (wipeD ε vs) inv (xs.drop (i + 1)) ac).run R (fun _ _ => False) μ4,
      fun H' h => ⟨xs.length - (i + 1), by omega, rfl, lt, h⟩, fun x H' hy => ?_⟩
    obtain ⟨exy, oky, repy⟩ := itd.yld u M.ok hv (List.getElem?_eq_getElem lt) hy
    cases hd : dg xs[i] (wipeD ε vs) with
    | none => rw [hd] at run; exact run.elim
    | some ε' =>
      rw [hd] at run
      refine lg repy ((rs.ux (u.trans exy.ux)).wipe vs) hd fun σ3 rs3 w3 => ⟨w3.trans wipe_wipe, ε', S3.plus A, μ3, True.intro, oky, rs3, W.up (m := ft ε') run fun b μ4 run4 S4 H4 ex4 ok4 => ?_⟩
      have x4 := exy.trans ex4
      cases b with
      | false =>
        obtain ⟨S5, rfl, M5⟩ := M.on x4 ok4
        exact ⟨S5, μ4, ac, M5, u.trans x4.ux, run4⟩
      | true =>
        refine ⟨ε', S4, μ4, True.intro, ok4, rs3.ex ex4, W.up (m := fk ε') run4 fun k μ5 run5 y S5 H5 ex5 ok5 rep5 => ?_⟩
        refine ⟨ε', S5, μ5, True.intro, ok5, (rs3.ex ex4).ex ex5, W.up (m := fv ε') run5 fun v μ6 run6 z S6 H6 ex6 ok6 rep6 => ?_⟩
        have x6 := (x4.trans ex5).trans ex6
        obtain ⟨S7, rfl, M7⟩ := M.on x6 ok6
        obtain ⟨⟨hk, hl⟩, run6⟩ := run6
        obtain ⟨H8, put, M8, u8⟩ := M7.put hk hl (rep5.ex ex6) rep6
        exact ⟨H8, put, S7, μ6, _, M8, (u.trans x6.ux).trans u8, run6⟩
  · rw [List.drop_eq_nil_of_le (by omega)] at run
    exact .inl ⟨itd.stop u M.ok run.1 (Nat.le_antisymm hi (Nat.le_of_not_lt lt)), exit _ _ _ _ M u run.2⟩
theorem low_d1 {c : LC K dk} {fi : DS → W Itm} {m : Bool} (lg : LG K gg vs dg) {H : Hp} {Q : VK} (q : lowE K dk c (dDc m t vs fi dg ft fk fv) σ H Q) : tD1 t (lowI K dk c fi) gg (lowT K dk (cF K dk) ft) (lowE K dk (cF K dk) fk) (lowE K dk (cF K dk) fv) vs σ H Q := by
  obtain ⟨ε, S, μ, lk, ok, rs, run⟩ := q
  refine ⟨ε, S, μ, lk, ok, rs, W.up run fun u μ1 run1 J S1 H1 ex1 ok1 itd A hA => ?_⟩
  have M0 := Mk.start ok1 hA t
  exact rounds lg itd (rs.ex ex1) M0 M0.ux run1 fun S3 μ3 H3 acc M _ r => M.fin ex1 r
theorem low_d2 {c : LC K dk} {fi : DS → W Itm} {m : Bool} {vs1 : List Nat} {fi1 : DS → W Itm} {gg1 : TG} {dg1 : D → DS → Option DS} {ft1 : DS → W Bool} (lg : LG K gg vs dg) (lg1 : LG K gg1 vs1 dg1) {H : Hp} {Q : VK} (q : lowE K dk c (dDc2 m t vs fi dg ft vs1 fi1 dg1 ft1 fk fv) σ H Q) :
    tD2 t (lowI K dk c fi) gg (lowT K dk (cF K dk) ft) (lowI K dk (cF K dk) fi1) gg1 (lowT K dk (cF K dk) ft1) (lowE K dk (cF K dk) fk) (lowE K dk (cF K dk) fv) vs vs1 σ H Q := by
  obtain ⟨ε, S, μ, lk, ok, rs, run⟩ := q
  refine ⟨ε, S, μ, lk, ok, rs, W.up run fun u μ1 run1 J S1 H1 ex1 ok1 itd A hA => ?_⟩
  obtain ⟨xs, inv⟩ := u
  have M0 := Mk.start ok1 hA t
  have rs := rs.ex ex1
  have run1 : (dc2W t dg ft vs1 fi1 dg1 ft1 fk fv (wipeD ε vs) inv xs []).run (fun ks μ' => (gMkD m t ks).run (Post K dk S μ H Q) c.E μ') (fun _ _ => False) μ1 := run1
  obtain ⟨R, eR⟩ : ∃ R : List (D × D) → Mu → Prop, R = fun ks μ' => (gMkD m t ks).run (Post K dk S μ H Q) c.E μ' := ⟨_, rfl⟩
  rw [← eR] at run1
  have fin : ∀ {S3 : Pl} {μ3 : Mu} {H3 : Hp} {acc : List (D × D)}, Mk K dk S1 μ1 H1 A t acc S3 μ3 H3 → R acc μ3 → Q (.ref A) H3 := fun M r => M.fin ex1 (by rw [eR] at r; exact r)
  refine ⟨fun i m H => m = xs.length - i ∧ i ≤ xs.length ∧ ∃ (S3 : Pl) (μ3 : Mu) (acc : List (D × D)), Mk K dk S1 μ1 H1 A t acc S3 μ3 H ∧ (dc2W t dg ft vs1 fi1 dg1 ft1 fk fv (wipeD ε vs) inv (xs.drop i) acc).run R (fun _ _ => False) μ3,
    ⟨xs.length, (Nat.sub_zero _).symm, Nat.zero_le _, S1, μ1, [], M0, run1⟩, ?_⟩
  rintro i n H3 ⟨rfl, hi, S3, μ3, ac, M, run⟩
  by_cases lt : i < xs.length
  · rw [List.drop_eq_getElem_cons lt] at run
    obtain ⟨hv, run⟩ := (run : inv μ3 ∧ ((W.opt (dg xs[i] (wipeD ε vs))).bnd fun ε1 => W.bnd (ft ε1) fun b => if b = true then W.bnd (fi1 ε1) fun u => W.bnd (dcW t dg1 ft1 fk fv (wipeD ε1 vs1) u.inv u.xs ac) fun acc1 => dc2W t dg ft vs1 fi1 dg1 ft1 fk fv (wipeD ε vs) inv (xs.drop (i + 1)) acc1 else dc2W t dg ft vs1 fi1 dg1 ft1 fk fv (wipeD ε vs) inv (xs.drop (i + 1)) ac).run R (fun _ _ => False) μ3)
    refine .inr ⟨itd.go M.ux M.ok hv lt, fun H4 => ∃ (S4 : Pl) (μ4 : Mu) (ac : List (D × D)), Mk K dk S1 μ1 H1 A t ac S4 μ4 H4 ∧ (dc2W t dg ft vs1 fi1 dg1 ft1 fk fv (wipeD ε vs) inv (xs.drop (i + 1)) ac).run R (fun _ _ => False) μ4,
      fun H' h => ⟨xs.length - (i + 1), by omega, rfl, lt, h⟩, fun x H' hy => ?_⟩
    obtain ⟨exy, oky, repy⟩ := itd.yld M.ux M.ok hv (List.getElem?_eq_getElem lt) hy
    cases hd : dg xs[i] (wipeD ε vs) with
    | none => rw [hd] at run; exact run.elim
    | some ε' =>
      rw [hd] at run
      refine lg repy ((rs.ux (M.ux.trans exy.ux)).wipe vs) hd fun σ3 rs3 w3 => ⟨w3.trans wipe_wipe, ε', S3.plus A, μ3, True.intro, oky, rs3, W.up (m := ft ε') run fun b μ4 run4 S4 H4 ex4 ok4 => ?_⟩
      have x4 := exy.trans ex4
      cases b with
      | false =>
        obtain ⟨S5, rfl, M5⟩ := M.on x4 ok4
        exact ⟨S5, μ4, ac, M5, run4⟩
      | true =>
        refine ⟨ε', S4, μ4, True.intro, ok4, rs3.ex ex4, W.up (m := fi1 ε') run4 fun u μ5 run5 J1 S5 H5 ex5 ok5 itd1 => ?_⟩
        obtain ⟨S6, rfl, M6⟩ := M.on (x4.trans ex5) ok5
        refine rounds lg1 itd1 ((rs3.ex ex4).ex ex5) M6 Ex.refl.ux (W.up (m := dcW t dg1 ft1 fk fv (wipeD ε' vs1) u.inv u.xs ac) (Q' := fun acc1 μ' => (dc2W t dg ft vs1 fi1 dg1 ft1 fk fv (wipeD ε vs) inv (xs.drop (i + 1)) acc1).run R (fun _ _ => False) μ') run5 fun _ _ z => z) fun S7 μ7 H7 acc7 M7 _ r => ⟨S7, μ7, acc7, M7, r⟩
  · rw [List.drop_eq_nil_of_le (by omega)] at run
    exact .inl ⟨itd.stop M.ux M.ok run.1 (Nat.le_antisymm hi (Nat.le_of_not_lt lt)), fin M run.2⟩
end
end
section
variable {X : Cx} {dk : DK} {c : LC X.K dk} {kx vx tg iter tg1 iter1 : Expr} {ifs ifs1 : List Expr} {scope : Scope} {own : List (Str × Nat)} {pos : Pos} {fi fi1 : DS → W Itm} {gg gg1 : TG} {dg dg1 : D → DS → Option DS} {ft ft1 : DS → W Bool} {fk fv : DS → W D} {vs1 : List Nat} {m t : Bool}
theorem de_dc (room : X.A.units + 1 < cLine) (calm : X.calm = true) (hN : X.N.Nodup) (hi : PI X tg iter (lowI X.K dk c fi)) (ok : BlkOk X.N X.env.scope scope own) (hg : Part X scope fun Y => PG Y tg gg) (lg : LG X.K gg (own.map (·.2)) dg)
    (ht : Part X scope fun Y => PTs Y ifs (lowT X.K dk (cF X.K dk) ft)) (hk : Part X scope fun Y => PE Y kx (lowE X.K dk (cF X.K dk) fk)) (hv : Part X scope fun Y => PE Y vx (lowE X.K dk (cF X.K dk) fv)) (plain : ∀ x, foldedSetIterable iter X.env x = pure x := by intro _; rfl) :
    PE X (.DictComp kx vx [⟨tg, iter, ifs, 0⟩] scope pos) (lowE X.K dk c (dDc m t (own.map (·.2)) fi dg ft fk fv)) := pe_w (pe_d1 (kd := t) room calm hN hi ok hg ht hk hv plain) fun _ _ _ q => low_d1 lg q
theorem de_dc2 (room : X.A.units + 1 < cLine) (calm : X.calm = true) (hN : X.N.Nodup) (hi : PI X tg iter (lowI X.K dk c fi)) (ok : BlkOk X.N X.env.scope scope own) (sub : ∀ i ∈ vs1, i ∈ own.map (·.2)) (hg : Part X scope fun Y => PG Y tg gg) (lg : LG X.K gg (own.map (·.2)) dg)
    (ht : Part X scope fun Y => PTs Y ifs (lowT X.K dk (cF X.K dk) ft)) (hi1 : Part X scope fun Y => PI Y tg1 iter1 (lowI X.K dk (cF X.K dk) fi1)) (hg1 : Part X scope fun Y => PG Y tg1 gg1) (lg1 : LG X.K gg1 vs1 dg1) (ht1 : Part X scope fun Y => PTs Y ifs1 (lowT X.K dk (cF X.K dk) ft1))
    (hk : Part X scope fun Y => PE Y kx (lowE X.K dk (cF X.K dk) fk)) (hv : Part X scope fun Y => PE Y vx (lowE X.K dk (cF X.K dk) fv)) (plain : ∀ x, foldedSetIterable iter X.env x = pure x := by intro _; rfl) (plain1 : ∀ env x, foldedSetIterable iter1 env x = pure x := by intro _ _; rfl) :
    PE X (X22.two kx vx tg iter tg1 iter1 ifs ifs1 scope pos) (lowE X.K dk c (dDc2 m t (own.map (·.2)) fi dg ft vs1 fi1 dg1 ft1 fk fv)) := pe_w (pe_d2 (kd := t) room calm hN hi ok sub hg ht hi1 hg1 ht1 hk hv plain plain1) fun _ _ _ q => low_d2 lg lg1 q
theorem ds_setDc {i : Nat} {y : Str} {py spos : Pos} (room : X.A.units + 1 < cLine) (calm : X.calm = true) (hN : X.N.Nodup) (hy : X.N[i]? = some y) (loc : X.env.scope.names.lookup y = some .local)
    (sw : swapsWith (.DictComp kx vx [⟨tg, iter, ifs, 0⟩] scope pos) (some (.Name y py)) spos.line X.env = pure true) (hi : PI X tg iter (lowI X.K dk c fi)) (ok : BlkOk X.N X.env.scope scope own) (hg : Part X scope fun Y => PG Y tg gg) (lg : LG X.K gg (own.map (·.2)) dg)
    (ht : Part X scope fun Y => PTs Y ifs (lowT X.K dk (cF X.K dk) ft)) (hk : Part X scope fun Y => PE Y kx (lowE X.K dk (cF X.K dk) fk)) (hv : Part X scope fun Y => PE Y vx (lowE X.K dk (cF X.K dk) fv)) (plain : ∀ x, foldedSetIterable iter X.env x = pure x := by intro _; rfl) :
    PS X (.Assign [.Name y py] (.DictComp kx vx [⟨tg, iter, ifs, 0⟩] scope pos) spos) (lowS X.K dk c (sSet i (dDc m t (own.map (·.2)) fi dg ft fk fv))) :=
  ps_w (ps_setD1 (kd := t) room calm hN hy loc sw hi ok hg ht hk hv plain) fun Dn σ H ⟨ε, S, μ, lk, ok, rs, run⟩ => by
    have run : (dDc m t (own.map (·.2)) fi dg ft fk fv ε).run (fun d μ' => PostS X.K dk S μ H Dn (.nx (ε.set i (some d))) μ') c.E μ := run
    exact low_d1 lg ⟨ε, S, μ, lk, ok, rs, W.up run fun d μ1 run1 v S1 H1 ex1 ok1 rep1 => run1 _ S1 H1 ex1 ok1 ((rs.ex ex1).set i rep1)⟩
theorem ds_setDc2 {i : Nat} {y : Str} {py spos : Pos} (room : X.A.units + 1 < cLine) (calm : X.calm = true) (hN : X.N.Nodup) (hy : X.N[i]? = some y) (loc : X.env.scope.names.lookup y = some .local)
    (sw : swapsWith (X22.two kx vx tg iter tg1 iter1 ifs ifs1 scope pos) (some (.Name y py)) spos.line X.env = pure true) (hi : PI X tg iter (lowI X.K dk c fi)) (ok : BlkOk X.N X.env.scope scope own) (sub : ∀ i ∈ vs1, i ∈ own.map (·.2)) (hg : Part X scope fun Y => PG Y tg gg) (lg : LG X.K gg (own.map (·.2)) dg)
    (ht : Part X scope fun Y => PTs Y ifs (lowT X.K dk (cF X.K dk) ft)) (hi1 : Part X scope fun Y => PI Y tg1 iter1 (lowI X.K dk (cF X.K dk) fi1)) (hg1 : Part X scope fun Y => PG Y tg1 gg1) (lg1 : LG X.K gg1 vs1 dg1) (ht1 : Part X scope fun Y => PTs Y ifs1 (lowT X.K dk (cF X.K dk) ft1))
    (hk : Part X scope fun Y => PE Y kx (lowE X.K dk (cF X.K dk) fk)) (hv : Part X scope fun Y => PE Y vx (lowE X.K dk (cF X.K dk) fv)) (plain : ∀ x, foldedSetIterable iter X.env x = pure x := by intro _; rfl) (plain1 : ∀ env x, foldedSetIterable iter1 env x = pure x := by intro _ _; rfl) :
    PS X (.Assign [.Name y py] (X22.two kx vx tg iter tg1 iter1 ifs ifs1 scope pos) spos) (lowS X.K dk c (sSet i (dDc2 m t (own.map (·.2)) fi dg ft vs1 fi1 dg1 ft1 fk fv))) :=
  ps_w (ps_setD2 (kd := t) room calm hN hy loc sw hi ok sub hg ht hi1 hg1 ht1 hk hv plain plain1) fun Dn σ H ⟨ε, S, μ, lk, ok, rs, run⟩ => by
    have run : (dDc2 m t (own.map (·.2)) fi dg ft vs1 fi1 dg1 ft1 fk fv ε).run (fun d μ' => PostS X.K dk S μ H Dn (.nx (ε.set i (some d))) μ') c.E μ := run
    exact low_d2 lg lg1 ⟨ε, S, μ, lk, ok, rs, W.up run fun d μ1 run1 v S1 H1 ex1 ok1 rep1 => run1 _ S1 H1 ex1 ok1 ((rs.ex ex1).set i rep1)⟩
end
end DL

namespace DL
open PySem PySem.Spec PyProof.Rows L2 Kit X22

/-! ### a new list: one that no one changes (m = false) or one of the store -/
def gMkL (m : Bool) (xs : List D) : W D := if m = true then alloc (.lst xs) else W.ret (.lst xs)
section
variable {K : PySem.W.Frag} {dk : DK} {S S1 S2 S3 : Pl} {μ μ1 μ2 μ3 : Mu} {H H1 H2 H3 : Hp} {A : Addr}
theorem mkl_run {m : Bool} {xs : List D} {vs : List V} {Q : VK} {E : Exn → Mu → Prop} (ok : Ok K dk.p S μ H) (r : RepA K S μ H xs vs) (run : (gMkL m xs).run (Post K dk S μ H Q) E μ) : ∀ l, H l = none → Q (.ref l) (upd H l (.lst vs)) := fun l hl => by
  unfold gMkL at run
  cases m with
  | false => exact run (.ref l) S _ (new_ex ok hl) (new_ok ok hl) (new_lst ok hl r)
  | true =>
    have ex := add_ex (o := .lst vs) (m := .lst xs) ok hl
    refine run (.ref l) (S.add l) _ ex (add_ok ok hl ⟨vs, upd_same, r.ex ex⟩) (.ref ?_)
    show (S.L ++ [l])[μ.length]? = _
    rw [← ok.len, List.getElem?_append_right (Nat.le_refl _), Nat.sub_self]
    rfl

/-! ### list comprehensions, what is held said -/
def laW (dg : D → DS → Option DS) (ft : DS → W Bool) (fe : DS → W D) (ε : DS) (p : Mu → Prop) : List D → List D → W (List D)
  | [], acc => gd p (W.ret acc)
  | x :: xs, acc => gd p (W.bnd (W.opt (dg x ε)) fun ε1 => W.bnd (ft ε1) fun b => if b = true then W.bnd (fe ε1) fun y => W.chk (acc.length < sizeLine) (laW dg ft fe ε p xs (acc ++ [y])) else laW dg ft fe ε p xs acc)
def la2W (dg : D → DS → Option DS) (ft : DS → W Bool) (vs1 : List Nat) (fi1 : DS → W Itm) (dg1 : D → DS → Option DS) (ft1 : DS → W Bool) (fe : DS → W D) (ε : DS) (p : Mu → Prop) : List D → List D → W (List D)
  | [], acc => gd p (W.ret acc)
  | x :: xs, acc => gd p (W.bnd (W.opt (dg x ε)) fun ε1 => W.bnd (ft ε1) fun b => if b = true then W.bnd (fi1 ε1) fun u => W.bnd (laW dg1 ft1 fe (wipeD ε1 vs1) u.inv u.xs acc) fun acc1 => la2W dg ft vs1 fi1 dg1 ft1 fe ε p xs acc1 else la2W dg ft vs1 fi1 dg1 ft1 fe ε p xs acc)
def dLa (m : Bool) (vs : List Nat) (fi : DS → W Itm) (dg : D → DS → Option DS) (ft : DS → W Bool) (fe : DS → W D) : DS → W D := fun ε => W.bnd (fi ε) fun u => W.bnd (W.nox (laW dg ft fe (wipeD ε vs) u.inv u.xs [])) (gMkL m)
def dLa2 (m : Bool) (vs : List Nat) (fi : DS → W Itm) (dg : D → DS → Option DS) (ft : DS → W Bool) (vs1 : List Nat) (fi1 : DS → W Itm) (dg1 : D → DS → Option DS) (ft1 : DS → W Bool) (fe : DS → W D) : DS → W D := fun ε =>
  W.bnd (fi ε) fun u => W.bnd (W.nox (la2W dg ft vs1 fi1 dg1 ft1 fe (wipeD ε vs) u.inv u.xs [])) (gMkL m)
end
section
variable (K : PySem.W.Frag) (dk : DK)
/-- a list is being made at A, unseen by all else -/
structure Ml (S1 : Pl) (μ1 : Mu) (H1 : Hp) (A : Addr) (acc : List D) (S2 : Pl) (μ2 : Mu) (H2 : Hp) : Prop where
  hid : S2.hid = S1.hid
  ux : Ux S1 μ1 H1 (S2.plus A) μ2 H2
  hk : ∀ a ∈ S1.hid, H2 a = H1 a
  new : A ∉ S1.hid
  ok : Ok K dk.p (S2.plus A) μ2 H2
  held : ∃ vs, H2 A = some (.lst vs) ∧ RepA K (S2.plus A) μ2 H2 acc vs
end
section
variable {K : PySem.W.Frag} {dk : DK} {S1 S2 S3 : Pl} {μ1 μ2 μ3 : Mu} {H1 H2 H3 : Hp} {A : Addr} {acc : List D}
theorem Ml.mem (M : Ml K dk S1 μ1 H1 A acc S2 μ2 H2) : A ∈ (S2.plus A).hid := List.mem_append_right _ List.mem_cons_self
theorem Ml.on (M : Ml K dk S1 μ1 H1 A acc S2 μ2 H2) (ex : Ex (S2.plus A) μ2 H2 S3 μ3 H3) (ok : Ok K dk.p S3 μ3 H3) : ∃ S4 : Pl, S3 = S4.plus A ∧ Ml K dk S1 μ1 H1 A acc S4 μ3 H3 := by
  have e : S3 = Pl.plus ⟨S3.L, S1.hid⟩ A := by
    have h : S3.hid = S2.hid ++ [A] := ex.hid
    rw [M.hid] at h
    obtain ⟨l, hd⟩ := S3
    show Pl.mk l hd = Pl.mk l (S1.hid ++ [A])
    rw [← h]
  refine ⟨⟨S3.L, S1.hid⟩, e, ?_⟩
  rw [e] at ex ok
  obtain ⟨kvs, h1, h2⟩ := M.held
  exact ⟨rfl, M.ux.trans ex.ux, fun a ha => (ex.hk a (List.mem_append_left _ (by rw [M.hid]; exact ha))).trans (M.hk a ha), M.new, ok, kvs, (ex.hk A M.mem).trans h1, h2.ex ex⟩
theorem Ml.put (M : Ml K dk S1 μ1 H1 A acc S2 μ2 H2) {v : D} {z : V} (hl : acc.length < sizeLine) (rz : Rep K (S2.plus A) μ2 H2 v z) : ∃ vs, H2 A = some (.lst vs) ∧ vs.length < sizeLine ∧ Ml K dk S1 μ1 H1 A (acc ++ [v]) S2 μ2 (upd H2 A (.lst (vs ++ [z]))) ∧ Ux (S2.plus A) μ2 H2 (S2.plus A) μ2 (upd H2 A (.lst (vs ++ [z]))) := by
  obtain ⟨vs, h1, h2⟩ := M.held
  have ux : Ux (S2.plus A) μ2 H2 (S2.plus A) μ2 (upd H2 A (.lst (vs ++ [z]))) := hid_ux M.mem
  refine ⟨vs, h1, by rw [← h2.len]; exact hl, ⟨M.hid, M.ux.trans ux, fun a ha => ?_, M.new, hid_ok M.ok M.mem, _, upd_same, (h2.app (.cons rz .nil)).ux ux⟩, ux⟩
  rw [upd_ne]
  · exact M.hk a ha
  · rintro rfl
    exact M.new ha
theorem Ml.start (ok : Ok K dk.p S1 μ1 H1) (hA : H1 A = none) : Ml K dk S1 μ1 H1 A [] S1 μ1 (upd H1 A (.lst [])) := by
  have nA : A ∉ S1.hid := fun h => ok.fresh hA (List.mem_append_right _ h)
  exact ⟨rfl, hide_ux ok hA, fun a ha => upd_ne (fun e => nA (e ▸ ha)), nA, hide_ok ok hA, [], upd_same, .nil⟩
theorem Ml.fin {m : Bool} {S : Pl} {μ : Mu} {H : Hp} {Q : VK} {E : Exn → Mu → Prop} (M : Ml K dk S1 μ1 H1 A acc S2 μ2 H2) (ex : Ex S μ H S1 μ1 H1) (run : (gMkL m acc).run (Post K dk S μ H Q) E μ2) : Q (.ref A) H2 := by
  obtain ⟨vs, h1, h2⟩ := M.held
  unfold gMkL at run
  cases m with
  | true =>
    have ux := show_ux (m := .lst acc) M.ok
    have len : S2.L.length = μ2.length := M.ok.len
    refine run (.ref A) _ H2 (ex.trans ⟨(M.ux.trans ux).L, M.hid, (M.ux.trans ux).keep, M.hk⟩) (show_ok M.ok ⟨vs, h1, h2.ux ux⟩) (.ref ?_)
    show (S2.L ++ [A])[μ2.length]? = _
    rw [← len, List.getElem?_append_right (Nat.le_refl _), Nat.sub_self]
    rfl
  | false =>
    refine run (.ref A) S2 H2 (ex.trans ⟨M.ux.L, M.hid, fun a o h n => ?_, M.hk⟩) M.ok.drop (.lst ⟨h1, dead_plus M.ok⟩ (h2.ux ux_drop))
    obtain ⟨h1, n1⟩ := M.ux.keep a o h n
    exact ⟨h1, fun z => n1 (live_plus z)⟩
section
variable {J : L2.It} {ε : DS} {σ : L2.St} {vs : List Nat} {gg : TG} {dg : D → DS → Option DS} {ft : DS → W Bool} {fe : DS → W D} {Sb : Pl} {μb : Mu} {Hb : Hp} {xs : List D} {inv : Mu → Prop}
theorem roundsL (lg : LG K gg vs dg) {R : List D → Mu → Prop} {Exit : Hp → Prop} (itd : ItD K dk J Sb μb Hb ⟨xs, inv⟩) (rs : RS K Sb μb Hb ε σ) (M0 : Ml K dk S1 μ1 H1 A acc S2 μ2 H2) (u0 : Ux Sb μb Hb (S2.plus A) μ2 H2)
    (run : (laW dg ft fe (wipeD ε vs) inv xs acc).run R (fun _ _ => False) μ2)
    (exit : ∀ S3 μ3 H3 acc, Ml K dk S1 μ1 H1 A acc S3 μ3 H3 → Ux Sb μb Hb (S3.plus A) μ3 H3 → R acc μ3 → Exit H3) :
    ∃ G : Nat → Nat → Hp → Prop, (∃ m, G 0 m H2) ∧ ∀ i m H, G i m H → (J.stop i H ∧ Exit H) ∨ (J.go i H ∧ ∃ Nx : Hp → Prop, (∀ H', Nx H' → ∃ m', m' < m ∧ G (i + 1) m' H') ∧ ∀ x H', J.yld i H x H' → gg x (wipe σ vs) H' fun σ2 H2 => wipe σ2 vs = wipe σ vs ∧ lowT K dk (cF K dk) ft σ2 H2 fun b H3 =>
      if b = true then lowE K dk (cF K dk) fe σ2 H3 fun y H4 => ∃ vs, H4 A = some (.lst vs) ∧ vs.length < sizeLine ∧ Nx (upd H4 A (.lst (vs ++ [y]))) else Nx H3) := by
  refine ⟨fun i m H => m = xs.length - i ∧ i ≤ xs.length ∧ ∃ (S3 : Pl) (μ3 : Mu) (acc : List D), Ml K dk S1 μ1 H1 A acc S3 μ3 H ∧ Ux Sb μb Hb (S3.plus A) μ3 H ∧ (laW dg ft fe (wipeD ε vs) inv (xs.drop i) acc).run R (fun _ _ => False) μ3,
    ⟨xs.length, (Nat.sub_zero _).symm, Nat.zero_le _, S2, μ2, acc, M0, u0, run⟩, ?_⟩
  rintro i m H ⟨rfl, hi, S3, μ3, ac, M, u, run⟩
  by_cases lt : i < xs.length
  · rw [List.drop_eq_getElem_cons lt] at run
    obtain ⟨hv, run⟩ := (run : inv μ3 ∧ ((W.opt (dg xs[i] (wipeD ε vs))).bnd fun ε1 => W.bnd (ft ε1) fun b => if b = true then W.bnd (fe ε1) fun y => W.chk (ac.length < sizeLine) (laW dg ft fe (wipeD ε vs) inv (xs.drop (i + 1)) (ac ++ [y])) else laW dg ft fe (wipeD ε vs) inv (xs.drop (i + 1)) ac).run R (fun _ _ => False) μ3)
    refine .inr ⟨itd.go u M.ok hv lt, fun H4 => ∃ (S4 : Pl) (μ4 : Mu) (ac : List D), Ml K dk S1 μ1 H1 A ac S4 μ4 H4 ∧ Ux Sb μb Hb (S4.plus A) μ4 H4 ∧ (laW dg ft fe (wipeD ε vs) inv (xs.drop (i + 1)) ac).run R (fun _ _ => False) μ4,
      fun H' h => ⟨xs.length - (i + 1), by omega, rfl, lt, h⟩, fun x H' hy => ?_⟩
    obtain ⟨exy, oky, repy⟩ := itd.yld u M.ok hv (List.getElem?_eq_getElem lt) hy
    cases hd : dg xs[i] (wipeD ε vs) with
    | none => rw [hd] at run; exact run.elim
    | some ε' =>
      rw [hd] at run
      refine lg repy ((rs.ux (u.trans exy.ux)).wipe vs) hd fun σ3 rs3 w3 => ⟨w3.trans wipe_wipe, ε', S3.plus A, μ3, True.intro, oky, rs3, W.up (m := ft ε') run fun b μ4 run4 S4 H4 ex4 ok4 => ?_⟩
      have x4 := exy.trans ex4
      cases b with
      | false =>
        obtain ⟨S5, rfl, M5⟩ := M.on x4 ok4
        exact ⟨S5, μ4, ac, M5, u.trans x4.ux, run4⟩
      | true =>
        refine ⟨ε', S4, μ4, True.intro, ok4, rs3.ex ex4, W.up (m := fe ε') run4 fun v μ6 run6 z S6 H6 ex6 ok6 rep6 => ?_⟩
        have x6 := x4.trans ex6
        obtain ⟨S7, rfl, M7⟩ := M.on x6 ok6
        obtain ⟨hl, run6⟩ := run6
        obtain ⟨ws, e1, e2, M8, u8⟩ := M7.put hl rep6
        exact ⟨ws, e1, e2, S7, μ6, _, M8, (u.trans x6.ux).trans u8, run6⟩
  · rw [List.drop_eq_nil_of_le (by omega)] at run
    exact .inl ⟨itd.stop u M.ok run.1 (Nat.le_antisymm hi (Nat.le_of_not_lt lt)), exit _ _ _ _ M u run.2⟩
theorem low_la {c : LC K dk} {fi : DS → W Itm} {m : Bool} (lg : LG K gg vs dg) {H : Hp} {Q : VK} (q : lowE K dk c (dLa m vs fi dg ft fe) σ H Q) : tLc (lowI K dk c fi) gg (lowT K dk (cF K dk) ft) (lowE K dk (cF K dk) fe) vs σ H Q := by
  obtain ⟨ε, S, μ, lk, ok, rs, run⟩ := q
  refine ⟨ε, S, μ, lk, ok, rs, W.up run fun u μ1 run1 J S1 H1 ex1 ok1 itd A hA => ?_⟩
  have M0 := Ml.start ok1 hA
  exact roundsL lg itd (rs.ex ex1) M0 M0.ux run1 fun S3 μ3 H3 acc M _ r => M.fin ex1 r
theorem low_la2 {c : LC K dk} {fi : DS → W Itm} {m : Bool} {vs1 : List Nat} {fi1 : DS → W Itm} {gg1 : TG} {dg1 : D → DS → Option DS} {ft1 : DS → W Bool} (lg : LG K gg vs dg) (lg1 : LG K gg1 vs1 dg1) {H : Hp} {Q : VK} (q : lowE K dk c (dLa2 m vs fi dg ft vs1 fi1 dg1 ft1 fe) σ H Q) :
    tLc2 (lowI K dk c fi) gg (lowT K dk (cF K dk) ft) (lowI K dk (cF K dk) fi1) gg1 (lowT K dk (cF K dk) ft1) (lowE K dk (cF K dk) fe) vs vs1 σ H Q := by
  obtain ⟨ε, S, μ, lk, ok, rs, run⟩ := q
  refine ⟨ε, S, μ, lk, ok, rs, W.up run fun u μ1 run1 J S1 H1 ex1 ok1 itd A hA => ?_⟩
  obtain ⟨xs, inv⟩ := u
  have M0 := Ml.start ok1 hA
  have rs := rs.ex ex1
  have run1 : (la2W dg ft vs1 fi1 dg1 ft1 fe (wipeD ε vs) inv xs []).run (fun ks μ' => (gMkL m ks).run (Post K dk S μ H Q) c.E μ') (fun _ _ => False) μ1 := run1
  obtain ⟨R, eR⟩ : ∃ R : List D → Mu → Prop, R = fun ks μ' => (gMkL m ks).run (Post K dk S μ H Q) c.E μ' := ⟨_, rfl⟩
  rw [← eR] at run1
  have fin : ∀ {S3 : Pl} {μ3 : Mu} {H3 : Hp} {acc : List D}, Ml K dk S1 μ1 H1 A acc S3 μ3 H3 → R acc μ3 → Q (.ref A) H3 := fun M r => M.fin ex1 (by rw [eR] at r; exact r)
  refine ⟨fun i m H => m = xs.length - i ∧ i ≤ xs.length ∧ ∃ (S3 : Pl) (μ3 : Mu) (acc : List D), Ml K dk S1 μ1 H1 A acc S3 μ3 H ∧ (la2W dg ft vs1 fi1 dg1 ft1 fe (wipeD ε vs) inv (xs.drop i) acc).run R (fun _ _ => False) μ3,
    ⟨xs.length, (Nat.sub_zero _).symm, Nat.zero_le _, S1, μ1, [], M0, run1⟩, ?_⟩
  rintro i n H3 ⟨rfl, hi, S3, μ3, ac, M, run⟩
  by_cases lt : i < xs.length
  · rw [List.drop_eq_getElem_cons lt] at run
    obtain ⟨hv, run⟩ := (run : inv μ3 ∧ ((W.opt (dg xs[i] (wipeD ε vs))).bnd fun ε1 => W.bnd (ft ε1) fun b => if b = true then W.bnd (fi1 ε1) fun u => W.bnd (laW dg1 ft1 fe (wipeD ε1 vs1) u.inv u.xs ac) fun acc1 => la2W dg ft vs1 fi1 dg1 ft1 fe (wipeD ε vs) inv (xs.drop (i + 1)) acc1 else la2W dg ft vs1 fi1 dg1 ft1 fe (wipeD ε vs) inv (xs.drop (i + 1)) ac).run R (fun _ _ => False) μ3)
    refine .inr ⟨itd.go M.ux M.ok hv lt, fun H4 => ∃ (S4 : Pl) (μ4 : Mu) (ac : List D), Ml K dk S1 μ1 H1 A ac S4 μ4 H4 ∧ (la2W dg ft vs1 fi1 dg1 ft1 fe (wipeD ε vs) inv (xs.drop (i + 1)) ac).run R (fun _ _ => False) μ4,
      fun H' h => ⟨xs.length - (i + 1), by omega, rfl, lt, h⟩, fun x H' hy => ?_⟩
    obtain ⟨exy, oky, repy⟩ := itd.yld M.ux M.ok hv (List.getElem?_eq_getElem lt) hy
    cases hd : dg xs[i] (wipeD ε vs) with
    | none => rw [hd] at run; exact run.elim
    | some ε' =>
      rw [hd] at run
      refine lg repy ((rs.ux (M.ux.trans exy.ux)).wipe vs) hd fun σ3 rs3 w3 => ⟨w3.trans wipe_wipe, ε', S3.plus A, μ3, True.intro, oky, rs3, W.up (m := ft ε') run fun b μ4 run4 S4 H4 ex4 ok4 => ?_⟩
      have x4 := exy.trans ex4
      cases b with
      | false =>
        obtain ⟨S5, rfl, M5⟩ := M.on x4 ok4
        exact ⟨S5, μ4, ac, M5, run4⟩
      | true =>
        refine ⟨ε', S4, μ4, True.intro, ok4, rs3.ex ex4, W.up (m := fi1 ε') run4 fun u μ5 run5 J1 S5 H5 ex5 ok5 itd1 => ?_⟩
        obtain ⟨S6, rfl, M6⟩ := M.on (x4.trans ex5) ok5
        refine roundsL lg1 itd1 ((rs3.ex ex4).ex ex5) M6 Ex.refl.ux (W.up (m := laW dg1 ft1 fe (wipeD ε' vs1) u.inv u.xs ac) (Q' := fun acc1 μ' => (la2W dg ft vs1 fi1 dg1 ft1 fe (wipeD ε vs) inv (xs.drop (i + 1)) acc1).run R (fun _ _ => False) μ') run5 fun _ _ z => z) fun S7 μ7 H7 acc7 M7 _ r => ⟨S7, μ7, acc7, M7, r⟩
  · rw [List.drop_eq_nil_of_le (by omega)] at run
    exact .inl ⟨itd.stop M.ux M.ok run.1 (Nat.le_antisymm hi (Nat.le_of_not_lt lt)), fin M run.2⟩
end
end
end DL

/-! own: zip whose tuples are kept by others; list(zip(a, b)) of lists, tuples, texts -/
namespace X23
open PySem PySem.Spec PyProof.Rows L2 PySem.W X16
section
variable {prog : Program} {w : World} {A : Around} {E : Value → Shared → Prop} {s : Shared} {z TI TO T i1 i2 : Addr} {fp1 fp2 : List Addr} {n1 n2 i : Nat} {P1 P2 : Nat → Value → Prop} {St1 St2 : Nat → Heap → Prop} {f : Bool} {oT : Obj}
theorem kept_item {Q : Value → Shared → Prop} (S : ZipSep2 z TI TO i1 i2 fp1 fp2) (D1 : Draws prog w A i1 fp1 n1 P1 St1) (D2 : Draws prog w A i2 fp2 n2 P2 St2) (ne : i1 ≠ i2)
    (hz : IsZipHeld s.heap z TI TO T f) (hT : s.heap.get? T = some oT) (hTI : IsTupOf2 s.heap TI (.ref i1) (.ref i2)) (st1 : St1 i s.heap) (st2 : St2 i s.heap) (lt1 : i < n1) (lt2 : i < n2)
    (hQ : ∀ x1 x2 h' tk, P1 i x1 → P2 i x2 → IsZipHeld h' z TI TO T true → St1 (i + 1) h' → St2 (i + 1) h' → IsTupOf2 h' s.heap.objs.size x1 x2 → h'.objs.size = s.heap.objs.size + 1 →
      (∀ c o, c ≠ z → c ≠ i1 → c ≠ i2 → s.heap.get? c = some o → h'.get? c = some o) → Q (.ref s.heap.objs.size) { s with heap := h', toks := tk }) :
    wpAny (model prog w) A (Builtin.«zip.__next__» ⟨[.ref z], []⟩) (fun fin s' => ∃ v, fin = .done (.ret v) ∧ Q v s') E s := by
  obtain ⟨hp, g, d, tk0, os⟩ := s
  show wpAny _ _ (field (.ref z) 2 >>= _) _ _ _
  refine wpAny_bind (wpAny_field hz rfl (x := .bool false) rfl ?_)
  show wpAny _ _ (field (.ref z) 3 >>= _) _ _ _
  refine wpAny_bind (wpAny_field hz rfl (x := .ref TI) rfl (wpAny_bind (wpAny_seqItems hTI rfl ?_)))
  show wpAny _ _ (Builtin.SmallTypes.ownedTupleIsFree (.ref z) >>= _) _ _ _
  refine wpAny_bind (wpAny_tupleHeld_zip hz hT fun g0 hz0 hs0 => ?_)
  replace hs0 : Heap.SameBut z hp g0 := hs0
  simp only [Bool.false_eq_true, if_false]
  refine wpAny_bind ?_
  rw [← Array.forIn_toList]
  simp only [List.forIn_cons, List.forIn_nil]
  refine wpAny_bind (wpAny_bind (wpAny_holding ?_))
  show wpAny _ _ (Builtin.SmallTypes.nextOf (.ref i1) >>= _) _ _ ⟨g0, g, d, tk0, os⟩
  refine wpAny_bind (D1.item i _ _ _ lt1 (D1.over st1 hs0 S.zf1) fun x1 p1 tk1 hx1 sn1 hp1 => wpAny_pure (wpAny_pure ?_))
  replace hp1 : Heap.SameBut i1 g0 p1 := hp1
  refine wpAny_bind (wpAny_bind (wpAny_holding ?_))
  show wpAny _ _ (Builtin.SmallTypes.nextOf (.ref i2) >>= _) _ _ ⟨p1, g, d, tk1, os⟩
  refine wpAny_bind (D2.item i _ _ _ lt2 (D2.over (D2.over st2 hs0 S.zf2) hp1 S.sep1_2) fun x2 p2 tk2 hx2 sn2 hp2 => wpAny_pure (wpAny_pure (wpAny_pure ?_)))
  replace hp2 : Heap.SameBut i2 p1 p2 := hp2
  show wpAny _ _ (newTuple [x1, x2] >>= _) _ _ _
  refine wpAny_bind (wpAny_newTuple ?_)
  have size : p2.objs.size = hp.objs.size := by rw [hp2.1, hp1.1, hs0.1]
  have hz2 : IsZipHeld p2 z TI TO T true := hp2.extBut _ _ S.zi2 (hp1.extBut _ _ S.zi1 hz0)
  have keep : ∀ c o, c ≠ z → c ≠ i1 → c ≠ i2 → hp.get? c = some o → p2.get? c = some o := fun c o c1 c2 c3 e => hp2.extBut _ _ c3 (hp1.extBut _ _ c2 (hs0.extBut _ _ c1 e))
  have new : IsTupOf2 (p2.push { cls := .type "tuple", data := .seq #[x1, x2] }) p2.objs.size x1 x2 := Heap.get?_push_size _ rfl
  have one : (p2.push { cls := .type "tuple", data := .seq #[x1, x2] }).objs.size = p2.objs.size + 1 := Heap.size_push ..
  refine wpAny_pure ⟨_, rfl, ?_⟩
  show Q (.ref p2.objs.size) ⟨p2.push { cls := .type "tuple", data := .seq #[x1, x2] }, g, d, tk2, os⟩
  rw [size] at new one ⊢
  refine hQ x1 x2 _ tk2 hx1 hx2 (Heap.get?_push_of_some _ hz2) (D1.frame _ _ _ (D1.over sn1 hp2 S.sep2_1) fun b _ o e => Heap.get?_push_of_some _ e) (D2.frame _ _ _ sn2 fun b _ o e => Heap.get?_push_of_some _ e) new one fun c o c1 c2 c3 e => Heap.get?_push_of_some _ (keep c o c1 c2 c3 e)
theorem kept_end {Q : Fin → Shared → Prop} (S : ZipSep2 z TI TO i1 i2 fp1 fp2) (D1 : Draws prog w A i1 fp1 n1 P1 St1) (D2 : Draws prog w A i2 fp2 n2 P2 St2)
    (hz : IsZipHeld s.heap z TI TO T f) (hT : s.heap.get? T = some oT) (hTI : IsTupOf2 s.heap TI (.ref i1) (.ref i2)) (st1 : St1 i s.heap) (st2 : St2 i s.heap) (le1 : i ≤ n1) (le2 : i ≤ n2) (stop : i = n1 ∨ i = n2)
    (hE : ∀ h' tk e, (∀ c o, c ≠ z → c ≠ i1 → c ≠ i2 → s.heap.get? c = some o → h'.get? c = some o) → (∃ o, h'.get? e = some o ∧ o.cls = .type "StopIteration") → E (.ref e) { s with heap := h', toks := tk }) :
    wpAny (model prog w) A (Builtin.«zip.__next__» ⟨[.ref z], []⟩) Q E s := by
  obtain ⟨hp, g, d, tk0, os⟩ := s
  show wpAny _ _ (field (.ref z) 2 >>= _) _ _ _
  refine wpAny_bind (wpAny_field hz rfl (x := .bool false) rfl ?_)
  show wpAny _ _ (field (.ref z) 3 >>= _) _ _ _
  refine wpAny_bind (wpAny_field hz rfl (x := .ref TI) rfl (wpAny_bind (wpAny_seqItems hTI rfl ?_)))
  show wpAny _ _ (Builtin.SmallTypes.ownedTupleIsFree (.ref z) >>= _) _ _ _
  refine wpAny_bind (wpAny_tupleHeld_zip hz hT fun g0 hz0 hs0 => ?_)
  replace hs0 : Heap.SameBut z hp g0 := hs0
  simp only [Bool.false_eq_true, if_false]
  refine wpAny_bind ?_
  rw [← Array.forIn_toList]
  simp only [List.forIn_cons, List.forIn_nil]
  refine wpAny_bind (wpAny_bind (wpAny_holding ?_))
  show wpAny _ _ (Builtin.SmallTypes.nextOf (.ref i1) >>= _) _ _ ⟨g0, g, d, tk0, os⟩
  by_cases lt1 : i < n1
  · have e2 : i = n2 := by omega
    refine wpAny_bind (D1.item i _ _ _ lt1 (D1.over st1 hs0 S.zf1) fun x1 p1 tk1 hx1 sn1 hp1 => wpAny_pure (wpAny_pure ?_))
    replace hp1 : Heap.SameBut i1 g0 p1 := hp1
    refine wpAny_bind (wpAny_bind (wpAny_holding ?_))
    show wpAny _ _ (Builtin.SmallTypes.nextOf (.ref i2) >>= _) _ _ ⟨p1, g, d, tk1, os⟩
    refine wpAny_bind (D2.done ⟨p1, g, d, tk1, os⟩ _ _ (by rw [← e2]; exact D2.over (D2.over st2 hs0 S.zf2) hp1 S.sep1_2) fun q e hq he => ?_)
    exact hE q tk1 e (fun c o c1 c2 c3 x => hq _ _ c3 (hp1.extBut _ _ c2 (hs0.extBut _ _ c1 x))) he
  · have e1 : i = n1 := by omega
    refine wpAny_bind (D1.done ⟨g0, g, d, tk0, os⟩ _ _ (by rw [← e1]; exact D1.over st1 hs0 S.zf1) fun q e hq he => ?_)
    exact hE q tk0 e (fun c o c1 c2 _ x => hq _ _ c2 (hs0.extBut _ _ c1 x)) he
end
section
variable {prog : Program} {w : World} {A : Around} {E : Value → Shared → Prop} {s : Shared} {z TI TO i1 i2 : Addr} {fp1 fp2 : List Addr} {n1 n2 i : Nat} {P1 P2 : Nat → Value → Prop} {St1 St2 : Nat → Heap → Prop}
/-- a zip as it stands between two turns -/
def Zt (h : Heap) (z TI TO i1 i2 : Addr) : Prop := IsTupOf2 h TI (.ref i1) (.ref i2) ∧ ((IsZip h z TI TO .none ∧ ∃ a b, IsTupOf2 h TO a b) ∨ ∃ T f o, IsZipHeld h z TI TO T f ∧ h.get? T = some o ∧ T ≠ z ∧ T ≠ TO ∧ T ≠ i1 ∧ T ≠ i2 ∧ ∃ a b, IsTupOf2 h TO a b)
theorem Zt.on {h h' : Heap} (t : Zt h z TI TO i1 i2) (k : ∀ c o, h.get? c = some o → h'.get? c = some o) : Zt h' z TI TO i1 i2 := by
  obtain ⟨a, b⟩ := t
  refine ⟨k _ _ a, b.imp (fun ⟨x, p, q, y⟩ => ⟨k _ _ x, p, q, k _ _ y⟩) fun ⟨T, f, o, x, y, n1, n2, n3, n4, p, q, r⟩ => ⟨T, f, o, k _ _ x, k _ _ y, n1, n2, n3, n4, p, q, k _ _ r⟩⟩
theorem next_item {Q : Option Value → Shared → Prop} (S : ZipSep2 z TI TO i1 i2 fp1 fp2) (D1 : Draws prog w A.in1 i1 fp1 n1 P1 St1) (D2 : Draws prog w A.in1 i2 fp2 n2 P2 St2) (ne : i1 ≠ i2)
    (hz : Zt s.heap z TI TO i1 i2) (st1 : St1 i s.heap) (st2 : St2 i s.heap) (lt1 : i < n1) (lt2 : i < n2)
    (hQ : ∀ x1 x2 h' tk, P1 i x1 → P2 i x2 → Zt h' z TI TO i1 i2 → St1 (i + 1) h' → St2 (i + 1) h' → IsTupOf2 h' s.heap.objs.size x1 x2 → h'.objs.size = s.heap.objs.size + 1 →
      (∀ c o, c ≠ z → c ≠ TO → c ≠ i1 → c ≠ i2 → s.heap.get? c = some o → h'.get? c = some o) → Q (some (.ref s.heap.objs.size)) { s with heap := h', toks := tk }) :
    wpAny (model prog w) A (pyNext (.ref z)) Q E s := by
  obtain ⟨hTI, ⟨hz, a, b, hTO⟩ | ⟨T, f, o, hz, hT, t1, t2, t3, t4, a, b, hTO⟩⟩ := hz
  · refine wpAny_pyNext_zipD2_item S D1 D2 hz hTI hTO st1 st2 lt1 lt2 fun x1 x2 h' tk p1 p2 hz' TO' s1 s2 new one keep => ?_
    have lz : z < s.heap.objs.size := Heap.lt_size hz
    have lT : TO < s.heap.objs.size := Heap.lt_size hTO
    have l1 : i1 < s.heap.objs.size := let ⟨_, e⟩ := D1.live i _ st1; Heap.lt_size e
    have l2 : i2 < s.heap.objs.size := let ⟨_, e⟩ := D2.live i _ st2; Heap.lt_size e
    refine hQ x1 x2 h' tk p1 p2 ⟨keep _ _ S.TIz S.TITO S.TIi1 S.TIi2 hTI, .inr ⟨s.heap.objs.size, false, _, hz', new, Nat.ne_of_gt lz, Nat.ne_of_gt lT, Nat.ne_of_gt l1, Nat.ne_of_gt l2, _, _, TO'⟩⟩ s1 s2 new one keep
  · have ty : s.TypeIs (.ref z) "zip" := ⟨_, hz, rfl⟩
    unfold pyNext
    refine wpAny_bind (wpAny_attempt (wpAny_callSpecial?_slot (name := Str.ofString "__next__") ty F.slot_zip_next (wpAny_call_entry F.slot_zip_next ty F.entry_zip_next
      (kept_item S D1 D2 ne hz hT hTI st1 st2 lt1 lt2 fun x1 x2 h' tk p1 p2 hz' s1 s2 new one keep => wpAny_pure ?_) (F.args_zip_next_1 _))))
    exact hQ x1 x2 h' tk p1 p2 ⟨keep _ _ S.TIz S.TIi1 S.TIi2 hTI, .inr ⟨T, true, o, hz', keep _ _ t1 t3 t4 hT, t1, t2, t3, t4, a, b, keep _ _ S.TOz S.Ti1 S.Ti2 hTO⟩⟩ s1 s2 new one fun c o c1 _ c2 c3 e => keep c o c1 c2 c3 e
theorem next_end {Q : Option Value → Shared → Prop} (S : ZipSep2 z TI TO i1 i2 fp1 fp2) (D1 : Draws prog w A.in1 i1 fp1 n1 P1 St1) (D2 : Draws prog w A.in1 i2 fp2 n2 P2 St2)
    (hz : Zt s.heap z TI TO i1 i2) (st1 : St1 i s.heap) (st2 : St2 i s.heap) (le1 : i ≤ n1) (le2 : i ≤ n2) (stop : i = n1 ∨ i = n2)
    (hQ : ∀ h' tk, (∀ c o, c ≠ z → c ≠ TO → c ≠ i1 → c ≠ i2 → s.heap.get? c = some o → h'.get? c = some o) → Q none { s with heap := h', toks := tk }) : wpAny (model prog w) A (pyNext (.ref z)) Q E s := by
  obtain ⟨hTI, ⟨hz, a, b, hTO⟩ | ⟨T, f, o, hz, hT, t1, t2, t3, t4, a, b, hTO⟩⟩ := hz
  · exact wpAny_pyNext_zipD2_end S D1 D2 hz hTI hTO st1 st2 le1 le2 stop hQ
  · have ty : s.TypeIs (.ref z) "zip" := ⟨_, hz, rfl⟩
    unfold pyNext
    refine wpAny_bind (wpAny_attempt (wpAny_callSpecial?_slot (name := Str.ofString "__next__") ty F.slot_zip_next (wpAny_call_entry F.slot_zip_next ty F.entry_zip_next
      (kept_end S D1 D2 hz hT hTI st1 st2 le1 le2 stop fun h' tk e hk he => ?_) (F.args_zip_next_1 _))))
    obtain ⟨o, ho, hc⟩ := he
    refine wpAny_bind (wpAny_isInstance (T := "StopIteration") (b := true) ⟨o, ho, hc⟩ isSubtype_stop ?_)
    exact wpAny_pure (hQ _ _ fun c o c1 _ c2 c3 e => hk c o c1 c2 c3 e)
end

/-! ### list(it), turn by turn -/
abbrev lstO (acc : Array Value) (c : Nat) : Obj := { cls := .type "list", dict := none, data := .seq acc c, slots := #[] }
section
variable {prog : Program} {w : World} {A : Around} {R : Result → Shared → Prop} {S z : Addr} {res : Value} {n : Nat} {G : Nat → Array Value → Shared → Prop}
/-- what the turns keep: S holds what came so far -/
structure Fills (prog : Program) (w : World) (A : Around) (R : Result → Shared → Prop) (S z : Addr) (res : Value) (n : Nat) (G : Nat → Array Value → Shared → Prop) : Prop where
  few : n ≤ sizeLine
  size : ∀ i acc s, G i acc s → acc.size = i
  turn : ∀ i acc s, i < n → G i acc s → ∀ E, wpAny (model prog w) A.in1 (pyNext (.ref z)) (fun r s1 => ∃ v c, r = some v ∧ s1.heap.get? S = some (lstO acc c) ∧ ∀ h' c', h'.get? S = some (lstO (acc.push v) c') → Heap.SameBut S s1.heap h' → G (i + 1) (acc.push v) { s1 with heap := h' }) E s
  stop : ∀ acc s, G n acc s → ∀ E, wpAny (model prog w) A.in1 (pyNext (.ref z)) (fun r s1 => r = none ∧ R (.ok (.ret res)) s1) E s
theorem Fills.loop (F0 : Fills prog w A R S z res n G) : ∀ (k i : Nat) (s : Shared) (acc : Array Value), n - i = k → i ≤ n → G i acc s → codeAny (model prog w) A (.builtin "list.extend.loop" ⟨[.ref S, .ref z, res], []⟩) R s := by
  intro k
  induction k with
  | zero =>
    intro i s acc hk hi g
    obtain rfl : i = n := by omega
    refine codeAny_builtin F.entry_extend_loop ?_
    rw [Around.under_plainId F.plain_extend_loop _]
    show wpAny _ A.in1 (pyNext (.ref z) >>= _) _ _ s
    refine wpAny_bind (wpAny_mono (F0.stop acc s g _) (fun r s1 ⟨e, h⟩ => ?_) fun _ _ h => h)
    subst e
    exact wpAny_pure h
  | succ k ih =>
    intro i s acc hk hi g
    have lt : i < n := by omega
    have few := F0.few
    refine codeAny_builtin F.entry_extend_loop ?_
    rw [Around.under_plainId F.plain_extend_loop _]
    show wpAny _ A.in1 (pyNext (.ref z) >>= _) _ _ s
    refine wpAny_bind (wpAny_mono (F0.turn i acc s lt g _) (fun r s1 ⟨v, c, e, eS, next⟩ => ?_) fun _ _ h => h)
    subst e
    show wpAny _ A.in1 (updateSeq S (·.push v) >>= _) _ _ _
    have sz := F0.size i acc s g
    refine wpAny_bind (wpAny_updateSeq eS rfl (wpAny_pure ⟨plainId_quiet F.plain_extend_loop _, ih (i + 1) _ (acc.push v) (by omega) lt (next _ _ (Heap.get?_update_self _ eS rfl) (Heap.SameBut.update ..))⟩) (by rw [sz]; omega) (by show (acc.push v).size ≤ sizeLine + 1; rw [Array.size_push, sz]; omega))
theorem nolen_zip : typeLookup (.type "zip") "__len__" = pure none := by rw [typeLookup_type, builtinLookup_eq_fast]; kernel_rfl
theorem nohint_zip : typeLookup (.type "zip") "__length_hint__" = pure none := by rw [typeLookup_type, builtinLookup_eq_fast]; kernel_rfl
end
section
variable {prog : Program} {w : World} {A : Around} {E : Value → Shared → Prop} {s : Shared} {z TI TO : Addr} {n : Nat} {G : Nat → Array Value → Shared → Prop}
/-- list(z), z a zip of which nothing was taken: the new list stands at the heap's end -/
theorem call_list_zip {Q : Value → Shared → Prop} (hz : IsZip s.heap z TI TO .none) (few : n ≤ sizeLine) (size : ∀ i acc s, G i acc s → acc.size = i)
    (start : ∀ h' c, h'.get? s.heap.objs.size = some (lstO #[] c) → (∀ b o, s.heap.get? b = some o → h'.get? b = some o) → h'.objs.size = s.heap.objs.size + 1 → G 0 #[] { s with heap := h' })
    (turn : ∀ i acc s1, i < n → G i acc s1 → ∀ E, wpAny (model prog w) A.in1.in1 (pyNext (.ref z)) (fun r s2 => ∃ v c, r = some v ∧ s2.heap.get? s.heap.objs.size = some (lstO acc c) ∧ ∀ h' c', h'.get? s.heap.objs.size = some (lstO (acc.push v) c') → Heap.SameBut s.heap.objs.size s2.heap h' → G (i + 1) (acc.push v) { s2 with heap := h' }) E s1)
    (stop : ∀ acc s1, G n acc s1 → ∀ E, wpAny (model prog w) A.in1.in1 (pyNext (.ref z)) (fun r s2 => r = none ∧ Q (.ref s.heap.objs.size) s2) E s1) :
    wpAny (model prog w) A (call (.type "list") [.ref z]) Q E s := by
  have ne : s.heap.objs.size ≠ z := Nat.ne_of_gt (Heap.lt_size hz)
  refine callType_codes (Q₁ := fun obj s₁ => obj = .ref s.heap.objs.size ∧ s₁ = { s with heap := s.heap.push { cls := .type "list", data := .seq #[] } }) F.called_list (F.typeCall_list_1 _) F.entry_list_init (code_list_new _ ⟨rfl, rfl⟩) fun obj s₁ h₁ => ?_
  obtain ⟨rfl, rfl⟩ := h₁
  have hS : (s.heap.push { cls := .type "list", data := .seq #[] }).get? s.heap.objs.size = some { cls := .type "list", data := .seq #[] } := Heap.get?_push_size _ rfl
  refine ⟨⟨_, hS, rfl⟩, F.args_list_init_2 _ _, ?_⟩
  show wpAny _ A.in1.in1 (do let old ← Builtin.List.listItems (.ref s.heap.objs.size); Builtin.List.listUpdate (.ref s.heap.objs.size) (fun _ => #[]); letGo old.toList.reverse; Builtin.List.listExtendWith (.ref s.heap.objs.size) (.ref z) .none) _ _ _
  refine wpAny_bind ?_
  unfold Builtin.List.listItems
  refine wpAny_bind (wpAny_seqItems hS rfl (wpAny_pure ?_))
  show wpAny _ A.in1.in1 (updateSeq s.heap.objs.size (fun _ => #[]) >>= fun _ => letGo (#[] : Array Value).toList.reverse >>= fun _ => Builtin.List.listExtendWith (.ref s.heap.objs.size) (.ref z) .none) _ _ _
  refine wpAny_bind (wpAny_updateSeq hS rfl (wpAny_bind (wpAny_letGo ?_)))
  have h2 := Heap.get?_update_self (Obj.mapSeq (fun _ => (#[] : Array Value))) hS rfl
  have s2 := Heap.SameBut.update (s.heap.push { cls := .type "list", data := .seq #[] }) s.heap.objs.size (Obj.mapSeq (fun _ => (#[] : Array Value)))
  have kz2 : ((s.heap.push { cls := .type "list", data := .seq #[] }).update s.heap.objs.size (Obj.mapSeq fun _ => (#[] : Array Value))).get? z = _ := (s2.2 z ne.symm).trans (Heap.get?_push_of_some _ hz)
  generalize hg2 : (s.heap.push { cls := .type "list", data := .seq #[] }).update s.heap.objs.size (Obj.mapSeq fun _ => (#[] : Array Value)) = g2 at h2 s2 kz2
  have ty : ({ s with heap := g2 } : Shared).TypeIs (.ref z) "zip" := ⟨_, kz2, rfl⟩
  unfold Builtin.List.listExtendWith
  refine wpAny_bind (wpAny_typeOf (s := { s with heap := g2 }) ty ?_)
  have b1 : Builtin.List.listSameRef (.ref s.heap.objs.size) (.ref z) = false := by simp [Builtin.List.listSameRef, ne]
  have b2 : (Value.type "zip" == Value.type "list") = false := by decide
  have b3 : (Value.type "zip" == Value.type "tuple") = false := by decide
  simp only [b1, b2, b3, Bool.or_false, Bool.false_eq_true, if_false]
  refine wpAny_bind (wpAny_pyIter_zip (s := { s with heap := g2 }) kz2 (wpAny_bind (wpAny_holding ?_)))
  unfold Builtin.List.listLengthHint
  refine wpAny_bind (wpAny_specialOf (s := { s with heap := g2 }) ty nolen_zip ?_)
  show wpAny _ A.in1.in1 (specialOf (Value.ref z) (Str.ofString "__length_hint__") >>= _) _ _ _
  refine wpAny_bind (wpAny_specialOf (s := { s with heap := g2 }) ty nohint_zip (wpAny_pure ?_))
  show wpAny _ A.in1.in1 (rule "list.extend.makes-room" >>= fun _ => Builtin.List.listTouch (.ref s.heap.objs.size) >>= fun _ => again (.builtin "list.extend.loop" ⟨[.ref s.heap.objs.size, .ref z, .none], []⟩)) _ _ _
  refine wpAny_bind (wpAny_rule (wpAny_bind ?_))
  show wpAny _ A.in1.in1 (updateSeq s.heap.objs.size (·.push .none) >>= fun _ => updateSeq s.heap.objs.size (·.pop)) _ _ _
  refine wpAny_bind (wpAny_updateSeq (s := { s with heap := g2 }) h2 rfl ?_)
  have h3 := Heap.get?_update_self (Obj.mapSeq (·.push Value.none)) h2 rfl
  refine wpAny_updateSeq (hz := by seq_fits) h3 rfl ?_
  have h4 := Heap.get?_update_self (Obj.mapSeq (·.pop)) h3 rfl
  have s3 := Heap.SameBut.update g2 s.heap.objs.size (Obj.mapSeq (·.push Value.none))
  have s4 := Heap.SameBut.update (g2.update s.heap.objs.size (Obj.mapSeq (·.push Value.none))) s.heap.objs.size (Obj.mapSeq (·.pop))
  have F0 : Fills prog w A.in1 (wants (fun r s₂ => r = .none ∧ Q (.ref s.heap.objs.size) s₂) E) s.heap.objs.size z .none n G := ⟨few, size, fun i acc s1 lt g E' => turn i acc s1 lt g E', fun acc s1 g E' => wpAny_mono (stop acc s1 g E') (fun r s2 ⟨e, q⟩ => ⟨e, rfl, q⟩) fun _ _ h => h⟩
  refine wpAny_pure ⟨plainId_quiet F.plain_extend_loop _, F0.loop n 0 _ #[] rfl (Nat.zero_le _) (start _ _ h4 (fun b o e => ?_) ?_)⟩
  · have nb : b ≠ s.heap.objs.size := Nat.ne_of_lt (Heap.lt_size e)
    exact (s4.2 b nb).trans ((s3.2 b nb).trans ((s2.2 b nb).trans (Heap.get?_push_of_some _ e)))
  · rw [s4.1, s3.1, s2.1, Heap.size_push]
end

/-! ### over the layer -/
theorem sqk_grow {K : PySem.W.Frag} {H H' : Hp} (g : ∀ b o, H b = some o → H' b = some o) {k : Kd} {v : V} {xs : List V} (h : SqK K H k v xs) : SqK K H' k v xs := by
  have rd : ∀ {a : Addr} {u : HO}, Rd H a u → Rd H' a u := fun {a u} h => h.imp (g a u) fun ⟨o, e⟩ => ⟨o, g a _ e⟩
  cases k with
  | L =>
    obtain ⟨a, e, h⟩ := h
    exact ⟨a, e, h.imp rd id⟩
  | T =>
    obtain ⟨a, e, h⟩ := h
    exact ⟨a, e, h.imp rd id⟩
  | S => exact h
/-- list(zip(a, b)): ps the new tuples, S the new list -/
def tLZ (K : PySem.W.Frag) (k1 k2 : Kd) (ta : TA) : TE := fun σ H Q => ta σ H fun vs H1 => ∃ va vb xs ys, vs = [va, vb] ∧ SqK K H1 k1 va xs ∧ SqK K H1 k2 vb ys ∧ min xs.length ys.length ≤ sizeLine ∧
  ∀ (H2 : Hp) (S : Addr) (ps : List Addr), (∀ b o, H1 b = some o → H2 b = some o) → H1 S = none → H2 S = none → ps.length = min xs.length ys.length → (∀ (j : Nat) q x y, ps[j]? = some q → xs[j]? = some x → ys[j]? = some y → H1 q = none ∧ H2 q = some (.tup [x, y])) → Q (.ref S) (upd H2 S (.lst (ps.map V.ref)))
theorem vals_refs : ∀ ps : List Addr, Vals (ps.map V.ref) (ps.map Value.ref)
  | [] => .nil
  | _ :: ps => .cons rfl (vals_refs ps)
theorem pe_listZip {X : Cx} {k1 k2 : Kd} {e e2 : Expr} {ta : TA} {p p2 pos pos2 : Pos} (hc : X.calm = true) (hgl : Gl X "list") (hml : X.mg "list" = none) (hg : Gl X "zip") (hm : X.mg "zip" = none) (ha : PA X [e, e2] ta)
    (hs : starEach [e, e2] X.env = (false, eval e X.env) :: starEach [e2] X.env := by rfl) (hpl : (backTo pos2 (starEach [e2] X.env)).any (·.1) = false := by rfl)
    (nl : starEach [.Call (.Name "zip" p2) [e, e2] [] pos2] X.env = (false, eval (.Call (.Name "zip" p2) [e, e2] [] pos2) X.env) :: starEach [] X.env := by rfl) :
    PE X (.Call (.Name "list" p) [.Call (.Name "zip" p2) [e, e2] [] pos2] [] pos) (tLZ X.K k1 k2 ta) := by
  refine ⟨fun pins s σ H Q I h => ?_⟩
  refine Call_ (ld_blt I hgl hml boot_list (PyProof.Rows.callWith_type1 (args_cons (Call_ (ld_blt I hg hm PyProof.Rows.boot_zip (PyProof.Rows.callWith_type1 (thn (ha.run pos2 pins s σ H _ I h) fun us s1 ⟨vs, H1, I1, r1, q1⟩ => ?_) hs hpl))) nl) nl))
  obtain ⟨va, vb, xs, ys, ex, hqx, hqy, few, q⟩ := q1
  subst ex
  cases r1 with
  | @cons _ u1 _ _ r rr =>
    cases rr with
    | @cons _ u2 _ _ r' rr =>
      cases rr
      obtain ⟨o1, H01, B1, g1, i1, l1⟩ := begins_of I1 hqx r
      obtain ⟨o2, H02, B2, g2, i2, l2⟩ := begins_of I1 hqy r'
      refine zip_begins2 B1 B2 g1 g2 fun h' hz hTI hTO e1 e2 hsz hk => args_nil ?_
      have I2 : Inv X pins σ H1 { s1 with heap := h' } := I1.kept (t' := s1.toks) hk
      generalize hN : s1.heap.objs.size = N at *
      have fpk : ∀ (Hc : Hp) (b : Addr), N ≤ b → Hc b = none → FpOk X pins Hc b := fun Hc b hb hn => I1.fpOk (by rw [hN]; exact hb) hn
      have h1N : ∀ b : Addr, N ≤ b → H1 b = none := fun b hb => I1.hok.fresh (by rw [hN]; exact hb)
      have hh : X.A.in1.in1.in1.handled = none := I1.ok.hd hc
      have own : ∀ b : Addr, b ∈ [N + 4, N + 2, N + 3, N, N + 1] → N ≤ b ∧ b < N + 5 := fun b hb => by
        have e' : b = N + 4 ∨ b = N + 2 ∨ b = N + 3 ∨ b = N ∨ b = N + 1 := by simpa using hb
        have z : ∀ c : Nat, (b : Nat) = c → N ≤ c → c < N + 5 → (N : Nat) ≤ b ∧ (b : Nat) < N + 5 := fun c e h1 h2 => by rw [e]; exact ⟨h1, h2⟩
        rcases e' with e | e | e | e | e
        · exact z _ e (by omega) (by omega)
        · exact z _ e (by omega) (by omega)
        · exact z _ e (by omega) (by omega)
        · exact z _ e (by omega) (by omega)
        · exact z _ e (by omega) (by omega)
      have NS : h'.objs.size = N + 5 := by rw [hsz]
      have hS1 : H1 h'.objs.size = none := h1N _ (by rw [NS]; exact Nat.le_add_right N 5)
      have sq := fun (H2 : Hp) (g : ∀ b o, H1 b = some o → H2 b = some o) => And.intro (sqk_grow g hqx) (sqk_grow g hqy)
      -- what the turns keep
      refine call_list_zip (s := { s1 with heap := h' }) (n := min xs.length ys.length) (z := N + 4) (TI := N + 2) (TO := N + 3) (G := fun i acc s2 => i ≤ min xs.length ys.length ∧ ∃ (H2 : Hp) (ps : List Addr), Inv X pins σ (upd H2 h'.objs.size (.lst (ps.map V.ref))) s2 ∧ acc.toList = ps.map Value.ref ∧ ps.length = i ∧ (∀ b o, H1 b = some o → H2 b = some o) ∧ H2 h'.objs.size = none ∧
        (∀ (j : Nat) q x y, ps[j]? = some q → xs[j]? = some x → ys[j]? = some y → H1 q = none ∧ H2 q = some (.tup [x, y])) ∧ (∀ b ∈ [N + 4, N + 2, N + 3, N, N + 1], H2 b = none) ∧ Zt s2.heap (N + 4) (N + 2) (N + 3) N (N + 1) ∧ IK s2.heap N k1 u1 i ∧ IK s2.heap (N + 1) k2 u2 i ∧ (∃ c, s2.heap.get? h'.objs.size = some (lstO acc c)) ∧ h'.objs.size < s2.heap.objs.size) hz few ?_ ?_ ?_ ?_
      · rintro i acc s2 ⟨_, H2, ps, _, ea, el, _⟩
        rw [← Array.length_toList, ea, List.length_map, el]
      · intro h2 c eS k2' sz
        have sz : h2.objs.size = h'.objs.size + 1 := sz
        refine ⟨Nat.zero_le _, H1, [], ?_, rfl, rfl, fun _ _ e => e, hS1, fun j q x y e => (by simp at e), fun b hb => h1N b (own b hb).1, Zt.on (show Zt h' (N + 4) (N + 2) (N + 3) N (N + 1) from ⟨hTI, .inl ⟨hz, _, _, hTO⟩⟩) k2', (i1 h' N e1).at fun o e => k2' _ o e, (i2 h' (N + 1) e2).at fun o e => k2' _ o e, ⟨c, eS⟩, by show _ < h2.objs.size; rw [sz]; exact Nat.lt_succ_self _⟩
        exact I2.laid (t' := s1.toks) k2' (Nat.le_refl _) ⟨Nat.zero_le _, [], c, .nil, eS⟩
      · rintro i acc s2 lt ⟨hi, H2, ps, J, ea, el, grow, nS, at_, nf, zt, ik1, ik2, ⟨c, eS⟩, ltS⟩ E'
        have S0 : h'.objs.size = N + 5 := NS
        generalize hS : h'.objs.size = S at *
        have neS : ∀ b ∈ [N + 4, N + 2, N + 3, N, N + 1], b ≠ S := fun b hb => Nat.ne_of_lt (by rw [S0]; exact (own b hb).2)
        have gS : ∀ b o, H1 b = some o → upd H2 S (.lst (ps.map V.ref)) b = some o := fun b o e => by
          rw [upd_ne]
          · exact grow b o e
          · rintro rfl
            rw [hS1] at e
            cases e
        have nfS : ∀ b ∈ [N + 4, N + 2, N + 3, N, N + 1], upd H2 S (.lst (ps.map V.ref)) b = none := fun b hb => (upd_ne (neS b hb)).trans (nf b hb)
        obtain ⟨fp1, n1, P1, St1, c1, D1, st1, m1, f1, p1, kk1⟩ := draws_of J hh (sq _ gS).1 r ik1 (fun l e => Nat.ne_of_lt (l1 l e))
        obtain ⟨fp2, n2, P2, St2, c2, D2, st2, m2, f2, p2, kk2⟩ := draws_of J hh (sq _ gS).2 r' ik2 (fun l e => Nat.ne_of_lt (Nat.lt_succ_of_lt (l2 l e)))
        have sep : ZipSep2 (N + 4) (N + 2) (N + 3) N (N + 1) fp1 fp2 := sep_of l1 l2 m1 m2 f1 f2
        refine next_item sep D1 D2 (na (by omega)) zt st1 st2 (by omega) (by omega) fun v1 v2 h3 tk y1 y2 zt3 s1' s2' new one keep => ?_
        obtain ⟨x, hx, rx⟩ := p1 i v1 y1
        obtain ⟨y, hy, ry⟩ := p2 i v2 y2
        have lc : S < s2.heap.objs.size := ltS
        have neC : s2.heap.objs.size ≠ S := Nat.ne_of_gt lc
        have eS3 : h3.get? S = some (lstO acc c) := keep S _ (neS _ (by simp)).symm (neS _ (by simp)).symm (neS _ (by simp)).symm (neS _ (by simp)).symm eS
        refine ⟨.ref s2.heap.objs.size, c, rfl, eS3, fun h4 c' e4 same => ?_⟩
        have J1 : Inv X pins σ (upd (upd H2 S (.lst (ps.map V.ref))) s2.heap.objs.size (.tup [x, y])) { s2 with heap := h3, toks := tk } :=
          J.turnedNew (t' := tk) (ch := [N + 4, N + 2, N + 3, N, N + 1]) (fun b o hb e => keep b o (fun z => hb (by simp [z])) (fun z => hb (by simp [z])) (fun z => hb (by simp [z])) (fun z => hb (by simp [z])) e)
            (fun b hb => fpk _ b (own b hb).1 (nfS b hb)) (Nat.le_refl _) ⟨by show 2 ≤ sizeLine; decide, [v1, v2], .cons rx (.cons ry .nil), ⟨_, new, rfl, _, rfl⟩⟩
        have atS : upd (upd H2 S (.lst (ps.map V.ref))) s2.heap.objs.size (.tup [x, y]) S = some (.lst (ps.map V.ref)) := (upd_ne neC.symm).trans upd_same
        have e4' : h4.get? S = some { cls := .type "list", data := .seq (acc.push (.ref s2.heap.objs.size)) c' } := e4
        have J2 := J1.write (x := S) (e := S) (o := .lst ((ps ++ [s2.heap.objs.size]).map V.ref)) (t' := tk) (h' := h4) (by rw [atS]; exact True.intro) (.inl rfl) (fun b u hb z => (same.2 b hb).trans z) ⟨_, e4'⟩ (by
          refine ⟨by rw [List.length_map, List.length_append, el]; show i + 1 ≤ sizeLine; omega, (ps ++ [s2.heap.objs.size]).map Value.ref, c', vals_refs _, ?_⟩
          rw [e4', List.map_append, ← ea, show ([s2.heap.objs.size] : List Addr).map Value.ref = [.ref s2.heap.objs.size] from rfl, ← Array.toList_push, Array.toArray_toList])
        have fe : upd (upd (upd H2 S (.lst (ps.map V.ref))) s2.heap.objs.size (.tup [x, y])) S (.lst ((ps ++ [s2.heap.objs.size]).map V.ref)) = upd (upd H2 s2.heap.objs.size (.tup [x, y])) S (.lst ((ps ++ [s2.heap.objs.size]).map V.ref)) := by
          funext b
          by_cases hb : b = S
          · rw [hb, upd_same, upd_same]
          · rw [upd_ne hb, upd_ne hb]
            by_cases hb2 : b = s2.heap.objs.size
            · rw [hb2, upd_same, upd_same]
            · rw [upd_ne hb2, upd_ne hb2, upd_ne hb]
        rw [fe] at J2
        have fresh2 : upd H2 S (.lst (ps.map V.ref)) s2.heap.objs.size = none := J.hok.fresh (Nat.le_refl _)
        have fresh : H2 s2.heap.objs.size = none := (upd_ne neC).symm.trans fresh2
        have freshH1 : H1 s2.heap.objs.size = none := by
          cases e : H1 s2.heap.objs.size with
          | none => rfl
          | some o => rw [grow _ o e] at fresh; cases fresh
        have ltN : N + 5 ≤ s2.heap.objs.size := by rw [← S0]; exact Nat.le_of_lt lc
        refine ⟨by omega, upd H2 s2.heap.objs.size (.tup [x, y]), ps ++ [s2.heap.objs.size], J2, by rw [Array.toList_push, ea, List.map_append]; rfl, by rw [List.length_append, el]; rfl, fun b o e => ?_, (upd_ne neC.symm).trans nS, fun j q x' y' ej ex' ey' => ?_, fun b hb => ?_, ?_, ?_, ?_, ⟨c', e4⟩, ?_⟩
        · rw [upd_ne]
          · exact grow b o e
          · rintro rfl
            rw [freshH1] at e
            cases e
        · by_cases hj : j < ps.length
          · rw [List.getElem?_append_left hj] at ej
            obtain ⟨a1, a2⟩ := at_ j q x' y' ej ex' ey'
            refine ⟨a1, (upd_ne ?_).trans a2⟩
            rintro rfl
            rw [fresh] at a2
            cases a2
          · have lj := (List.getElem?_eq_some_iff.mp ej).1
            rw [List.length_append] at lj
            obtain rfl : j = ps.length := by simp only [List.length_cons, List.length_nil] at lj; omega
            rw [List.getElem?_append_right (Nat.le_refl _), Nat.sub_self] at ej
            cases ej
            rw [el] at ex' ey'
            rw [ex'] at hx
            rw [ey'] at hy
            cases hx
            cases hy
            exact ⟨freshH1, upd_same⟩
        · exact (upd_ne (Nat.ne_of_lt (Nat.lt_of_lt_of_le (own b hb).2 ltN))).trans (nf b hb)
        · obtain ⟨za, zb⟩ := zt3
          have kp : ∀ b o, b ≠ S → h3.get? b = some o → h4.get? b = some o := fun b o hb e => (same.2 b hb).trans e
          have g4 : N + 4 ≠ S := neS _ (by simp)
          have g2 : N + 2 ≠ S := neS _ (by simp)
          have g3 : N + 3 ≠ S := neS _ (by simp)
          refine ⟨kp _ _ g2 za, zb.imp (fun ⟨a, b, d, e⟩ => ⟨kp _ _ g4 a, b, d, kp _ _ g3 e⟩) fun ⟨T, f, o, a, b, d1, d2, d3, d4, e1, e2, e3⟩ => ?_⟩
          by_cases hT : T = S
          · exact ⟨T, f, _, kp _ _ g4 a, by rw [hT]; exact e4, d1, d2, d3, d4, e1, e2, kp _ _ g3 e3⟩
          · exact ⟨T, f, o, kp _ _ g4 a, kp _ _ hT b, d1, d2, d3, d4, e1, e2, kp _ _ g3 e3⟩
        · exact (kk1 _ _ s1').at fun o e => (same.2 _ (neS _ (by simp))).trans e
        · exact (kk2 _ _ s2').at fun o e => (same.2 _ (neS _ (by simp))).trans e
        · show S < h4.objs.size
          rw [same.1, one]
          exact Nat.lt_succ_of_lt lc
      · rintro acc s2 ⟨hi, H2, ps, J, ea, el, grow, nS, at_, nf, zt, ik1, ik2, ⟨c, eS⟩, ltS⟩ E'
        have S0 : h'.objs.size = N + 5 := NS
        have hS : ({ s1 with heap := h' } : Shared).heap.objs.size = h'.objs.size := rfl
        generalize h'.objs.size = S at *
        have neS : ∀ b ∈ [N + 4, N + 2, N + 3, N, N + 1], b ≠ S := fun b hb => Nat.ne_of_lt (by rw [S0]; exact (own b hb).2)
        have gS : ∀ b o, H1 b = some o → upd H2 S (.lst (ps.map V.ref)) b = some o := fun b o e => by
          rw [upd_ne]
          · exact grow b o e
          · rintro rfl
            rw [hS1] at e
            cases e
        have nfS : ∀ b ∈ [N + 4, N + 2, N + 3, N, N + 1], upd H2 S (.lst (ps.map V.ref)) b = none := fun b hb => (upd_ne (neS b hb)).trans (nf b hb)
        obtain ⟨fp1, n1, P1, St1, c1, D1, st1, m1, f1, p1, kk1⟩ := draws_of J hh (sq _ gS).1 r ik1 (fun l e => Nat.ne_of_lt (l1 l e))
        obtain ⟨fp2, n2, P2, St2, c2, D2, st2, m2, f2, p2, kk2⟩ := draws_of J hh (sq _ gS).2 r' ik2 (fun l e => Nat.ne_of_lt (Nat.lt_succ_of_lt (l2 l e)))
        have sep : ZipSep2 (N + 4) (N + 2) (N + 3) N (N + 1) fp1 fp2 := sep_of l1 l2 m1 m2 f1 f2
        refine next_end sep D1 D2 zt st1 st2 (by omega) (by omega) (by omega) fun h3 tk keep => ⟨rfl, ?_⟩
        have J1 : Inv X pins σ (upd H2 S (.lst (ps.map V.ref))) { s2 with heap := h3, toks := tk } := J.turnedL (t' := tk) (ch := [N + 4, N + 2, N + 3, N, N + 1]) (fun b o hb e => keep b o (fun z => hb (by simp [z])) (fun z => hb (by simp [z])) (fun z => hb (by simp [z])) (fun z => hb (by simp [z])) e) (fun b hb => fpk _ b (own b hb).1 (nfS b hb))
        exact ⟨.ref S, _, J1, rfl, q H2 S ps grow hS1 nS el at_⟩
end X23

namespace DL
open PySem PySem.Spec PyProof.Rows L2 Kit X22

/-! ### list comprehensions, over the layer -/
section
variable {X : Cx} {dk : DK} {c : LC X.K dk} {elt tg iter tg1 iter1 : Expr} {ifs ifs1 : List Expr} {scope : Scope} {own : List (Str × Nat)} {pos : Pos} {fi fi1 : DS → W Itm} {gg gg1 : TG} {dg dg1 : D → DS → Option DS} {ft ft1 : DS → W Bool} {fe : DS → W D} {vs1 : List Nat} {m : Bool}
theorem de_la (calm : X.calm = true) (hN : X.N.Nodup) (hi : PI X tg iter (lowI X.K dk c fi)) (ok : BlkOk X.N X.env.scope scope own) (hg : Part X scope fun Y => PG Y tg gg) (lg : LG X.K gg (own.map (·.2)) dg)
    (ht : Part X scope fun Y => PTs Y ifs (lowT X.K dk (cF X.K dk) ft)) (he : Part X scope fun Y => PE Y elt (lowE X.K dk (cF X.K dk) fe)) (hs : ∀ x, foldedSetIterable iter X.env x = pure x := by intro _; rfl) :
    PE X (.ListComp elt [⟨tg, iter, ifs, 0⟩] scope pos) (lowE X.K dk c (dLa m (own.map (·.2)) fi dg ft fe)) := pe_w (pe_lc calm hN hi ok hg ht he hs) fun _ _ _ q => low_la lg q
theorem ds_setLa {i : Nat} {y : Str} {py spos : Pos} (calm : X.calm = true) (hN : X.N.Nodup) (hy : X.N[i]? = some y) (loc : X.env.scope.names.lookup y = some .local)
    (sw : swapsWith (.ListComp elt [⟨tg, iter, ifs, 0⟩] scope pos) (some (.Name y py)) spos.line X.env = pure true) (hi : PI X tg iter (lowI X.K dk c fi)) (ok : BlkOk X.N X.env.scope scope own) (hg : Part X scope fun Y => PG Y tg gg) (lg : LG X.K gg (own.map (·.2)) dg)
    (ht : Part X scope fun Y => PTs Y ifs (lowT X.K dk (cF X.K dk) ft)) (he : Part X scope fun Y => PE Y elt (lowE X.K dk (cF X.K dk) fe)) (hs : ∀ x, foldedSetIterable iter X.env x = pure x := by intro _; rfl) :
    PS X (.Assign [.Name y py] (.ListComp elt [⟨tg, iter, ifs, 0⟩] scope pos) spos) (lowS X.K dk c (sSet i (dLa m (own.map (·.2)) fi dg ft fe))) :=
  ps_w (ps_setLc calm hN hy loc sw hi ok hg ht he hs) fun Dn σ H ⟨ε, S, μ, lk, ok, rs, run⟩ => by
    have run : (dLa m (own.map (·.2)) fi dg ft fe ε).run (fun d μ' => PostS X.K dk S μ H Dn (.nx (ε.set i (some d))) μ') c.E μ := run
    exact low_la lg ⟨ε, S, μ, lk, ok, rs, W.up run fun d μ1 run1 v S1 H1 ex1 ok1 rep1 => run1 _ S1 H1 ex1 ok1 ((rs.ex ex1).set i rep1)⟩
theorem de_la2 (calm : X.calm = true) (hN : X.N.Nodup) (hi : PI X tg iter (lowI X.K dk c fi)) (ok : BlkOk X.N X.env.scope scope own) (sub : ∀ i ∈ vs1, i ∈ own.map (·.2)) (hg : Part X scope fun Y => PG Y tg gg) (lg : LG X.K gg (own.map (·.2)) dg)
    (ht : Part X scope fun Y => PTs Y ifs (lowT X.K dk (cF X.K dk) ft)) (hi1 : Part X scope fun Y => PI Y tg1 iter1 (lowI X.K dk (cF X.K dk) fi1)) (hg1 : Part X scope fun Y => PG Y tg1 gg1) (lg1 : LG X.K gg1 vs1 dg1) (ht1 : Part X scope fun Y => PTs Y ifs1 (lowT X.K dk (cF X.K dk) ft1))
    (he : Part X scope fun Y => PE Y elt (lowE X.K dk (cF X.K dk) fe)) (hs : ∀ x, foldedSetIterable iter X.env x = pure x := by intro _; rfl) (hs1 : ∀ env x, foldedSetIterable iter1 env x = pure x := by intro _ _; rfl) :
    PE X (.ListComp elt [⟨tg, iter, ifs, 0⟩, ⟨tg1, iter1, ifs1, 0⟩] scope pos) (lowE X.K dk c (dLa2 m (own.map (·.2)) fi dg ft vs1 fi1 dg1 ft1 fe)) := pe_w (pe_lc2 calm hN hi ok sub hg ht hi1 hg1 ht1 he hs hs1) fun _ _ _ q => low_la2 lg lg1 q
theorem ds_setLa2 {i : Nat} {y : Str} {py spos : Pos} (calm : X.calm = true) (hN : X.N.Nodup) (hy : X.N[i]? = some y) (loc : X.env.scope.names.lookup y = some .local)
    (sw : swapsWith (.ListComp elt [⟨tg, iter, ifs, 0⟩, ⟨tg1, iter1, ifs1, 0⟩] scope pos) (some (.Name y py)) spos.line X.env = pure true) (hi : PI X tg iter (lowI X.K dk c fi)) (ok : BlkOk X.N X.env.scope scope own) (sub : ∀ i ∈ vs1, i ∈ own.map (·.2)) (hg : Part X scope fun Y => PG Y tg gg) (lg : LG X.K gg (own.map (·.2)) dg)
    (ht : Part X scope fun Y => PTs Y ifs (lowT X.K dk (cF X.K dk) ft)) (hi1 : Part X scope fun Y => PI Y tg1 iter1 (lowI X.K dk (cF X.K dk) fi1)) (hg1 : Part X scope fun Y => PG Y tg1 gg1) (lg1 : LG X.K gg1 vs1 dg1) (ht1 : Part X scope fun Y => PTs Y ifs1 (lowT X.K dk (cF X.K dk) ft1))
    (he : Part X scope fun Y => PE Y elt (lowE X.K dk (cF X.K dk) fe)) (hs : ∀ x, foldedSetIterable iter X.env x = pure x := by intro _; rfl) (hs1 : ∀ env x, foldedSetIterable iter1 env x = pure x := by intro _ _; rfl) :
    PS X (.Assign [.Name y py] (.ListComp elt [⟨tg, iter, ifs, 0⟩, ⟨tg1, iter1, ifs1, 0⟩] scope pos) spos) (lowS X.K dk c (sSet i (dLa2 m (own.map (·.2)) fi dg ft vs1 fi1 dg1 ft1 fe))) :=
  ps_w (ps_setLc2 calm hN hy loc sw hi ok sub hg ht hi1 hg1 ht1 he hs hs1) fun Dn σ H ⟨ε, S, μ, lk, ok, rs, run⟩ => by
    have run : (dLa2 m (own.map (·.2)) fi dg ft vs1 fi1 dg1 ft1 fe ε).run (fun d μ' => PostS X.K dk S μ H Dn (.nx (ε.set i (some d))) μ') c.E μ := run
    exact low_la2 lg lg1 ⟨ε, S, μ, lk, ok, rs, W.up run fun d μ1 run1 v S1 H1 ex1 ok1 rep1 => run1 _ S1 H1 ex1 ok1 ((rs.ex ex1).set i rep1)⟩
end

/-! ### new lists: +, list(x), sorted(x) -/
def gCat (m : Bool) : D → D → W D
  | .lst a, .lst b => W.chk (a.length + b.length ≤ sizeLine) (gMkL m (a ++ b))
  | _, _ => W.fail
/-- the items of a list, a tuple, the keys of a dict -/
def itemsOf : D → Option (List D)
  | .lst xs => some xs
  | .tup xs => some xs
  | .dct false ks => some (ks.map (·.1))
  | _ => none
def gLst (m : Bool) (d : D) : W D := W.bnd (W.opt (itemsOf d)) (gMkL m)
def pyd (d : D) : PyData := (py d).getD .none
/-- data that sorted() puts in order -/
def SortOk (xs : List D) : Prop := (∃ ps, pyL xs = some ps) ∧ PySem.W.AllAlike (xs.map pyd) ∧ PySem.W.Sortable (xs.map pyd) ∧ ∀ x ∈ xs, (pyd x).depth ≤ 60
def sortD (xs : List D) : List D := xs.mergeSort (PySem.W.dataLe false pyd)
def gSort (m : Bool) : D → W D
  | .lst xs => W.chk (SortOk xs) (gMkL m (sortD xs))
  | _ => W.fail
section
variable {K : PySem.W.Frag} {dk : DK}
theorem l_cat {m : Bool} : LR2 K dk rCat (s2 (gCat m)) := LV2.up fun {x y dx dy S μ H Q E} ok rx ry q => by
  unfold gCat at q
  split at q
  · obtain ⟨a, vs, rfl, hx, rx⟩ := rx
    obtain ⟨b, ws, rfl, hy, ry⟩ := ry
    exact ⟨a, b, vs, ws, rfl, rfl, hx, hy, by rw [← rx.len, ← ry.len]; exact q.1, mkl_run ok (rx.app ry) q.2⟩
  · exact q.elim
theorem repK_keys {S : Pl} {μ : Mu} {H : Hp} : ∀ {ks : List (D × D)} {kvs : List (Key × V)}, RepK K S μ H ks kvs → RepA K S μ H (ks.map (·.1)) (kvs.map fun kv => kV kv.1)
  | _, _, .nil => .nil
  | _, _, .cons (k := k) hk h t => by
    refine .cons ?_ (repK_keys t)
    unfold IsKey dkK at hk
    split at hk
    · cases hk; exact .int _
    · cases hk; exact .str _
    · cases hk
theorem l_lst {m : Bool} : LRC K dk (fun xs H Q => (∃ x, xs = [x] ∧ ∃ p ys, x = .ref p ∧ (SqL K H p ys ∨ SqT K H p ys) ∧ ∀ l, H l = none → Q (.ref l) (upd H l (.lst ys))) ∨ rListD xs H Q) (c1 (gLst m)) := fun {xs ds S μ H Q E} ok rs q => by
  obtain ⟨x, rfl, h⟩ := (LV1.call (r := fun x H Q => (∃ p ys, x = .ref p ∧ (SqL K H p ys ∨ SqT K H p ys) ∧ ∀ l, H l = none → Q (.ref l) (upd H l (.lst ys))) ∨ rListD [x] H Q) (g := gLst m) fun {x dx S μ H Q E} ok rx q => by
    unfold gLst at q
    unfold itemsOf at q
    split at q
    · obtain ⟨a, vs, rfl, hx, rx⟩ := rx
      exact .inl ⟨a, vs, rfl, .inl (.inl (.inl hx)), mkl_run ok rx q⟩
    · rcases rx with _ | _ | _ | _ | _ | _ | @⟨_, a, vs, hx, rx⟩
      exact .inl ⟨a, vs, rfl, .inr hx.sq, mkl_run ok rx q⟩
    · obtain ⟨a, kvs, rfl, hx, rx⟩ := rx
      exact .inr ⟨a, kvs, rfl, hx, mkl_run ok (repK_keys rx) q⟩
    · exact q.elim) ok rs q
  exact h.imp (fun h => ⟨x, rfl, h⟩) id
theorem k_lst {X : Cx} (hc : X.calm = true) : CallR X (.type "list") (fun xs H Q => (∃ x, xs = [x] ∧ ∃ p ys, x = .ref p ∧ (SqL X.K H p ys ∨ SqT X.K H p ys) ∧ ∀ l, H l = none → Q (.ref l) (upd H l (.lst ys))) ∨ rListD xs H Q) := CallR.or k_list (call_list_dK hc)
/-- sorted(l) -/
def rSortedD (K : PySem.W.Frag) : List V → Hp → VK → Prop := fun xs H Q => ∃ (a : Addr) (bs : List (V × D)), xs = [.ref a] ∧ SqL K H a (bs.map (·.1)) ∧ (∀ b ∈ bs, Dp K H b.1 (pyd b.2)) ∧ PySem.W.AllAlike (bs.map fun b => pyd b.2) ∧ PySem.W.Sortable (bs.map fun b => pyd b.2) ∧ (∀ b ∈ bs, (pyd b.2).depth ≤ 60) ∧
  ∀ l, H l = none → Q (.ref l) (upd H l (.lst ((bs.mergeSort (PySem.W.dataLe false fun b => pyd b.2)).map (·.1))))
theorem each_fst : ∀ {bs : List (V × D)} {us : List Value}, Vals (bs.map (·.1)) us → PySem.W.EachIs (fun (u : Value) (b : V × D) => L2.RelV b.1 u) us bs
  | [], _, h => by
    cases h
    exact .nil
  | b :: bs, _, h => by
    cases h with
    | cons h t => exact .cons h (each_fst t)
theorem vals_each : ∀ {bs : List (V × D)} {us : List Value}, PySem.W.EachIs (fun (u : Value) (b : V × D) => L2.RelV b.1 u) us bs → Vals (bs.map (·.1)) us
  | _, _, .nil => .nil
  | _, _, .cons h t => .cons h (vals_each t)
theorem each_reads {X : Cx} {pins : List (Addr × Obj)} {σ : L2.St} {H : Hp} {s : Shared} (I : L2.Inv X pins σ H s) : ∀ {bs : List (V × D)} {us : List Value}, Vals (bs.map (·.1)) us → (∀ b ∈ bs, Dp X.K H b.1 (pyd b.2)) → PySem.W.EachIs (fun (u : Value) (b : V × D) => ∃ as, Reads s.heap u (pyd b.2) as) us bs
  | [], _, h, _ => by
    cases h
    exact .nil
  | b :: bs, _, h, d => by
    cases h with
    | cons h t => exact .cons (Dp.reads I _ _ _ (d b List.mem_cons_self) h) (each_reads I t fun c hc => d c (List.mem_cons_of_mem _ hc))
theorem k_sortD {X : Cx} (hu : X.A.units + 70 < cLine) : CallR X (.builtin "sorted") (rSortedD X.K) := by
  intro pins s σ H xs us Q I r h
  obtain ⟨a, bs, rfl, hq, dp, al, so, dep, q⟩ := h
  obtain ⟨u, eu, rx⟩ := vals1 r
  subst eu
  cases rx
  obtain ⟨its, rv, pl, hz⟩ := I.list hq
  have e1 := each_fst rv
  refine PySem.W.sorted_data (enc := fun b : V × D => pyd b.2) (vs := its) pl.isList e1 (each_reads I rv dp) al so (by rw [List.length_map] at hz; exact hz) (fun b hb => by have := dep b hb; omega) fun out hl eo => ?_
  have vo := vals_each eo
  have hlen : ((bs.mergeSort (PySem.W.dataLe false fun b => pyd b.2)).map (·.1)).length ≤ sizeLine := by
    rw [List.length_map, List.length_mergeSort]
    rw [List.length_map] at hz
    exact hz
  obtain ⟨ep, he'⟩ := PyProof.Rows.sortedAll_at s.heap its (List.toArray out)
  exact ⟨.ref _, upd H (s.heap.objs.size + 1) (.lst ((bs.mergeSort (PySem.W.dataLe false fun b => pyd b.2)).map (·.1))), I.laid (t' := s.toks) (fun _ _ => PyProof.Rows.sortedAll_old) (Nat.le_succ _) ⟨hlen, out, ep, vo, he'⟩, rfl, q _ (I.hok.fresh (Nat.le_succ _))⟩
theorem zip_fst : ∀ {vs : List V} {ds : List D}, ds.length = vs.length → (vs.zip ds).map (·.1) = vs
  | [], [], _ => rfl
  | [], _ :: _, h => by cases h
  | _ :: _, [], h => by cases h
  | v :: vs, d :: ds, h => by
    rw [List.zip_cons_cons, List.map_cons, zip_fst (by simpa using h)]
theorem zip_snd : ∀ {vs : List V} {ds : List D}, ds.length = vs.length → (vs.zip ds).map (·.2) = ds
  | [], [], _ => rfl
  | [], _ :: _, h => by cases h
  | _ :: _, [], h => by cases h
  | v :: vs, d :: ds, h => by
    rw [List.zip_cons_cons, List.map_cons, zip_snd (by simpa using h)]
theorem RepA.zip {S : Pl} {μ : Mu} {H : Hp} : ∀ {ds : List D} {vs : List V}, RepA K S μ H ds vs → ∀ b ∈ vs.zip ds, Rep K S μ H b.2 b.1
  | _, _, .nil => fun b hb => by cases hb
  | _, _, .cons h t => fun b hb => by
    rw [List.zip_cons_cons] at hb
    rcases List.mem_cons.mp hb with rfl | hb
    · exact h
    · exact RepA.zip t b hb
theorem repA_map {S : Pl} {μ : Mu} {H : Hp} : ∀ {bs : List (V × D)}, (∀ b ∈ bs, Rep K S μ H b.2 b.1) → RepA K S μ H (bs.map (·.2)) (bs.map (·.1))
  | [], _ => .nil
  | b :: bs, h => .cons (h b List.mem_cons_self) (repA_map fun c hc => h c (List.mem_cons_of_mem _ hc))
theorem pyL_at : ∀ {ds : List D} {ps : List PyData}, pyL ds = some ps → ∀ d ∈ ds, ∃ p, py d = some p
  | [], _, _ => fun d hd => by cases hd
  | d :: ds, ps, h => fun x hx => by
    rw [pyL] at h
    obtain ⟨p, h1, h2⟩ := bind_inv h
    obtain ⟨ps', h3, _⟩ := map_inv h2
    rcases List.mem_cons.mp hx with rfl | hx
    · exact ⟨p, h1⟩
    · exact pyL_at h3 x hx
theorem l_sortD {m : Bool} : LRC K dk (rSortedD K) (c1 (gSort m)) := fun {xs ds S μ H Q E} ok rs q => by
  obtain ⟨x, rfl, h⟩ := (LV1.call (r := fun x H Q => rSortedD K [x] H Q) (g := gSort m) fun {x dx S μ H Q E} ok rx q => by
    cases dx with
    | lst ys =>
      obtain ⟨a, vs, rfl, hx, rx⟩ := rx
      obtain ⟨⟨⟨ps, hp⟩, al, so, dep⟩, q⟩ := (q : SortOk ys ∧ (gMkL m (sortD ys)).run (Post K dk S μ H Q) E μ)
      have el := rx.len
      refine ⟨a, vs.zip ys, rfl, by rw [zip_fst el]; exact .inl (.inl hx), fun b hb => ?_, ?_, ?_, fun b hb => ?_, ?_⟩
      · have hm : b.2 ∈ ys := by
          have : b.2 ∈ (vs.zip ys).map (·.2) := List.mem_map_of_mem hb
          rw [zip_snd el] at this
          exact this
        obtain ⟨p, e⟩ := pyL_at hp _ hm
        unfold pyd
        rw [e]
        exact py_dp (rx.zip b hb) e
      · have e : (vs.zip ys).map (fun b => pyd b.2) = ys.map pyd := by
          rw [show (fun b : V × D => pyd b.2) = pyd ∘ (·.2) from rfl, ← List.map_map, zip_snd el]
        rw [e]
        exact al
      · have e : (vs.zip ys).map (fun b => pyd b.2) = ys.map pyd := by
          rw [show (fun b : V × D => pyd b.2) = pyd ∘ (·.2) from rfl, ← List.map_map, zip_snd el]
        rw [e]
        exact so
      · refine dep _ ?_
        have : b.2 ∈ (vs.zip ys).map (·.2) := List.mem_map_of_mem hb
        rw [zip_snd el] at this
        exact this
      · have es : ((vs.zip ys).mergeSort (PySem.W.dataLe false fun b => pyd b.2)).map (·.2) = sortD ys := by
          have e := List.map_mergeSort (r := PySem.W.dataLe false fun b : V × D => pyd b.2) (s := PySem.W.dataLe false pyd) (f := fun b : V × D => b.2) (l := vs.zip ys) (fun _ _ _ _ => rfl)
          rw [zip_snd el] at e
          exact e
        have hr := repA_map (K := K) (S := S) (μ := μ) (H := H) (bs := (vs.zip ys).mergeSort (PySem.W.dataLe false fun b => pyd b.2)) fun b hb => rx.zip b ((List.mergeSort_perm _ _).mem_iff.mp hb)
        rw [es] at hr
        exact mkl_run ok hr q
    | _ => exact q.elim) ok rs q
  exact h
end
end DL

namespace DL
open PySem PySem.Spec PyProof.Rows L2 Kit X22

/-! ### dict(pairs), dict(d) -/
def pairK : D → Option (D × D)
  | .tup [k, v] => if okKey false k = true then some (k, v) else none
  | _ => none
def pairsK : List D → Option (List (D × D))
  | [] => some []
  | x :: xs => (pairK x).bind fun p => (pairsK xs).map (p :: ·)
noncomputable def dputs (acc : List (D × D)) (ps : List (D × D)) : List (D × D) := ps.foldl (fun acc p => dputL acc p.1 p.2) acc
noncomputable def gDict (m : Bool) : D → W D
  | .lst xs => W.bnd (W.opt (pairsK xs)) fun ps => gMkD m false (dputs [] ps)
  | .dct false ks => gMkD m false ks
  | _ => W.fail
section
variable {K : PySem.W.Frag} {dk : DK} {S : Pl} {μ : Mu} {H : Hp}
theorem mkd_run {m : Bool} {ks : List (D × D)} {kvs : List (Key × V)} {Q : VK} {E : Exn → Mu → Prop} (ok : Ok K dk.p S μ H) (r : RepK K S μ H ks kvs) (run : (gMkD m false ks).run (Post K dk S μ H Q) E μ) : ∀ l, H l = none → Q (.ref l) (upd H l (.dK kvs)) := fun l hl => by
  unfold gMkD at run
  cases m with
  | false => exact run (.ref l) S _ (new_ex ok hl) (new_ok ok hl) (.dcK ⟨upd_same, ok.dead hl⟩ (r.ex (new_ex ok hl)))
  | true =>
    have ex := add_ex (o := .dK kvs) (m := .dct false ks) ok hl
    refine run (.ref l) (S.add l) _ ex (add_ok ok hl ⟨kvs, upd_same, r.ex ex⟩) (.ref ?_)
    show (S.L ++ [l])[μ.length]? = _
    rw [← ok.len, List.getElem?_append_right (Nat.le_refl _), Nat.sub_self]
    rfl
theorem pairs_rep : ∀ {xs : List D} {vs : List V} {ps : List (D × D)}, RepA K S μ H xs vs → pairsK xs = some ps → ∃ (as : List Addr) (kvs : List (Key × V)), vs = as.map V.ref ∧ Paired (fun p (kv : Key × V) => SqT K H p [kV kv.1, kv.2]) as kvs ∧ RepK K S μ H ps kvs
  | _, _, _, .nil, h => by
    cases h
    exact ⟨[], [], rfl, .nil, .nil⟩
  | x :: xs, _, _, .cons (v := v) h t, e => by
    rw [pairsK] at e
    obtain ⟨p, h1, h2⟩ := bind_inv e
    obtain ⟨ps', h3, rfl⟩ := map_inv h2
    obtain ⟨as, kvs, rfl, pr, rk⟩ := pairs_rep t h3
    unfold pairK at h1
    split at h1
    · rename_i k w
      by_cases hk : okKey false k = true
      · rw [if_pos hk] at h1
        cases h1
        cases h with
        | @tup _ a ws hf rr =>
          cases rr with
          | cons rk1 rr =>
            cases rr with
            | cons rv1 rr =>
              cases rr
              obtain ⟨q, hq⟩ := Option.isSome_iff_exists.mp (show (dkK k).isSome = true from hk)
              refine ⟨a :: as, (q, _) :: kvs, rfl, .cons ?_ pr, .cons hq rv1 rk⟩
              rw [← key_rep rk1 hq]
              exact hf.sq
      · rw [if_neg hk] at h1
        cases h1
    · cases h1
theorem dputs_rep : ∀ {ps : List (D × D)} {kvs : List (Key × V)} {acc : List (D × D)} {as : List (Key × V)}, RepK K S μ H ps kvs → RepK K S μ H acc as → RepK K S μ H (dputs acc ps) (mergeK as kvs) := by
  intro ps
  induction ps with
  | nil =>
    intro kvs acc as r a
    cases r
    exact a
  | cons p ps ih =>
    intro kvs acc as r a
    cases r with
    | cons hk h t =>
      have z := ih t (repK_put hk h a)
      exact z
def rDictA (K : PySem.W.Frag) : List V → Hp → VK → Prop := fun xs H Q => (∃ (a : Addr) (ps : List Addr) (kvs : List (Key × V)), xs = [.ref a] ∧ SqL K H a (ps.map V.ref) ∧ Paired (fun p kv => SqT K H p [kV kv.1, kv.2]) ps kvs ∧
    ∀ p, H p = none → Q (.ref p) (upd H p (.dK (mergeK [] kvs)))) ∨ ∃ (a : Addr) (kvs : List (Key × V)), xs = [.ref a] ∧ Rd H a (.dK kvs) ∧ ∀ p, H p = none → Q (.ref p) (upd H p (.dK kvs))
theorem k_dict {X : Cx} (hc : X.calm = true) : CallR X (.type "dict") (rDictA X.K) := CallR.or (call_dictP hc) call_dictD
theorem l_dict {m : Bool} : LRC K dk (rDictA K) (c1 (gDict m)) := fun {xs ds S μ H Q E} ok rs q => by
  obtain ⟨x, rfl, h⟩ := (LV1.call (r := fun x H Q => rDictA K [x] H Q) (g := gDict m) fun {x dx S μ H Q E} ok rx q => by
    unfold gDict at q
    split at q
    · obtain ⟨a, vs, rfl, hx, rx⟩ := rx
      rename_i ys
      cases hp : pairsK ys with
      | none => rw [hp] at q; exact q.elim
      | some ps =>
        rw [hp] at q
        obtain ⟨as, kvs, rfl, pr, rk⟩ := pairs_rep rx hp
        exact .inl ⟨a, as, kvs, rfl, .inl (.inl hx), pr, mkd_run ok (dputs_rep rk .nil) q⟩
    · obtain ⟨a, kvs, rfl, hx, rx⟩ := rx
      exact .inr ⟨a, kvs, rfl, .inl hx, mkd_run ok rx q⟩
    · exact q.elim) ok rs q
  exact h

/-! ### list(zip(a, b)) -/
def gLZ (m : Bool) (k1 k2 : X16.Kd) : List D → W D
  | [x, y] => W.rd fun μ => W.bnd (W.opt (itsOf μ x)) fun t => W.bnd (W.opt (itsOf μ y)) fun u => W.chk (kdOk k1 x = true ∧ kdOk k2 y = true ∧ min t.xs.length u.xs.length ≤ sizeLine) (gMkL m (zipD t.xs u.xs))
  | _ => W.fail
/-- what was known stays when more is laid -/
theorem grow_ex {H' : Hp} (ok : Ok K dk.p S μ H) (g : ∀ b o, H b = some o → H' b = some o) : Ex S μ H S μ H' := ⟨⟨[], by rw [List.append_nil]⟩, rfl, fun a o h n => ⟨g a o h, n⟩, fun a ha => by
  cases e : H a with
  | none => exact absurd e (ok.here a (List.mem_append_right _ ha))
  | some o => rw [g a o e]⟩
theorem grow_ok {H' : Hp} (ok : Ok K dk.p S μ H) (g : ∀ b o, H b = some o → H' b = some o) : Ok K dk.p S μ H' := by
  have same : ∀ a, a ∈ S.L ++ S.hid → H' a = H a := fun a ha => by
    cases e : H a with
    | none => exact absurd e (ok.here a ha)
    | some o => rw [g a o e]
  exact ⟨ok.len, ok.nd, fun a ha => by rw [same a ha]; exact ok.here a ha, fun n m a e1 e2 => mo_ex (ok.at_ n m a e1 e2) (grow_ex ok g) (same a (List.mem_append_left _ (List.mem_of_getElem? e2))) (fun c hc => same c (List.mem_append_left _ (List.mem_of_getElem? hc))) fun z => z⟩
theorem kd_sq {k : X16.Kd} {d : D} {v : V} {t : Itm} (ok : Ok K dk.p S μ H) (r : Rep K S μ H d v) (hk : kdOk k d = true) (ht : itsOf μ d = some t) : ∃ vs, X16.SqK K H k v vs ∧ RepA K S μ H t.xs vs := by
  have := kd_at (dk := dk) r hk ht Ex.refl.ux ok (itsOf_inv ht)
  exact this
theorem low_lz {m : Bool} {k1 k2 : X16.Kd} {c : LC K dk} {fs : DS → W (List D)} {σ : L2.St} {Q : VK} (q : lowE K dk c (dCall (gLZ m k1 k2) fs) σ H Q) : X23.tLZ K k1 k2 (lowA K dk c fs) σ H Q := by
  obtain ⟨ε, S, μ, lk, ok, rs, run⟩ := q
  refine ⟨ε, S, μ, lk, ok, rs, W.up run fun ds μ1 run1 xs S1 H1 ex1 ok1 rep1 => ?_⟩
  unfold gLZ at run1
  split at run1
  · rename_i x y
    cases rep1 with
    | cons r1 rr =>
      cases rr with
      | cons r2 rr =>
        cases rr
        have run1 : ((W.opt (itsOf μ1 x)).bnd fun t => (W.opt (itsOf μ1 y)).bnd fun u => W.chk (kdOk k1 x = true ∧ kdOk k2 y = true ∧ min t.xs.length u.xs.length ≤ sizeLine) (gMkL m (zipD t.xs u.xs))).run (Post K dk S μ H Q) c.E μ1 := run1
        cases e1 : itsOf μ1 x with
        | none => rw [e1] at run1; exact run1.elim
        | some t =>
          cases e2 : itsOf μ1 y with
          | none => rw [e1, e2] at run1; exact run1.elim
          | some u =>
            rw [e1, e2] at run1
            obtain ⟨⟨hk1, hk2, few⟩, run1⟩ := run1
            obtain ⟨vs, q1, ra⟩ := kd_sq ok1 r1 hk1 e1
            obtain ⟨ws, q2, rb⟩ := kd_sq ok1 r2 hk2 e2
            have l1 := ra.len
            have l2 := rb.len
            refine ⟨_, _, vs, ws, rfl, q1, q2, by rw [← l1, ← l2]; exact few, fun H2 S' ps grow n1 n2 lp at_ => ?_⟩
            have ex2 := grow_ex (dk := dk) ok1 grow
            have ok2 := grow_ok (dk := dk) ok1 grow
            have ra2 := ra.ex ex2
            have rb2 := rb.ex ex2
            have rz : RepA K S1 μ1 H2 (zipD t.xs u.xs) (ps.map V.ref) := by
              refine RepA.of (by rw [zipD_len, List.length_map, lp, l1, l2]) fun i d v ed ev => ?_
              obtain ⟨dx, dy, hx, hy, rfl⟩ := zipD_get ed
              obtain ⟨vx, ex, rx⟩ := ra2.get hx
              obtain ⟨vy, ey, ry⟩ := rb2.get hy
              rw [List.getElem?_map] at ev
              cases ep : ps[i]? with
              | none => rw [ep] at ev; cases ev
              | some p =>
                rw [ep] at ev
                cases ev
                obtain ⟨a1, a2⟩ := at_ i p vx vy ep ex ey
                exact .tup ⟨a2, ok1.dead a1⟩ (.cons rx (.cons ry .nil))
            exact mkl_run ok2 rz (W.up run1 fun _ _ z => (z.ex ex1).ex ex2) S' n2
  · exact run1.elim
end
section
variable {X : Cx} {dk : DK} {c : LC X.K dk} {e e2 : Expr} {fs : DS → W (List D)} {p p2 pos pos2 : Pos} {m : Bool} {k1 k2 : X16.Kd}
theorem de_lz (hc : X.calm = true) (hgl : Gl X "list") (hml : X.mg "list" = none) (hg : Gl X "zip") (hm : X.mg "zip" = none) (ha : PA X [e, e2] (lowA X.K dk c fs))
    (hs : starEach [e, e2] X.env = (false, eval e X.env) :: starEach [e2] X.env := by rfl) (hpl : (backTo pos2 (starEach [e2] X.env)).any (·.1) = false := by rfl)
    (nl : starEach [.Call (.Name "zip" p2) [e, e2] [] pos2] X.env = (false, eval (.Call (.Name "zip" p2) [e, e2] [] pos2) X.env) :: starEach [] X.env := by rfl) :
    PE X (.Call (.Name "list" p) [.Call (.Name "zip" p2) [e, e2] [] pos2] [] pos) (lowE X.K dk c (dCall (gLZ m k1 k2) fs)) := pe_w (X23.pe_listZip hc hgl hml hg hm ha hs hpl nl) fun _ _ _ q => low_lz q
end
end DL

namespace DL
open PySem PySem.Spec PyProof.Rows L2 Kit X22

theorem r65 {j : Nat} {A : Around} (h : Room j A) : A.units + 65 < cLine := by
  have := room200 h
  omega
theorem r70 {j : Nat} {A : Around} (h : Room j A) : A.units + 70 < cLine := by
  have := room200 h
  omega
/-! ### x[k] and k in x, whatever x is: a list, a tuple, a text, a dict -/
def rGetD : R2 := fun x y H Q => ∃ a v, x = .ref a ∧ DGet H a y (some v) ∧ Q v H
theorem ix_dict {X : Cx} (hu : X.A.units + 1 < cLine) : IxR X rGetD := by
  intro value slice pins s σ H x y v u Q I rx ry h hs
  obtain ⟨a, z, rfl, g, q⟩ := h
  obtain rfl : v = Value.ref a := rx
  have hT : s.TypeIs (.ref a) "dict" := dict_typeIs I g
  unfold subscriptTail
  refine wpAny_bind ?_
  rw [getitemInPython_of_ne hT.not_modules]
  refine wpAny_bind (wpAny_specialOf hT PySem.F.slot_dict_getitem.lookup ?_)
  have fin : wpAny (model X.prog X.w) X.A (subscripted slice false (.ref a) u) (fun r s3 => wpAny (model X.prog X.w) X.A (letTemporaryGo value (.ref a) r >>= fun _ => pure r) (EP X pins σ Q) X.xe s3) X.xe s := by
    rw [hs]
    exact wpAny_operating (d_getItem hu I g ry fun w s3 I3 rw => wpAny_bind (wpAny_letTemporaryGo (wpAny_pure ⟨z, H, I3, rw, q⟩)))
  first
    | exact wpAny_pure (wpAny_bind fin)
    | exact wpAny_bind (wpAny_pure (wpAny_bind fin))
    | (refine wpAny_pure ?_; exact fin)
noncomputable def gAt (d k : D) : W D := W.bnd (see d) fun d => match d with
  | .dct t ks => W.chk (okKey t k = true) (W.opt (dval ks k))
  | d => W.bnd (see k) fun k => gIx d k
def rAtD (K : PySem.W.Frag) : R2 := fun x y H Q => rIx K x y H Q ∨ rGetD x y H Q
theorem ix_at {X : Cx} (hu : X.A.units + 1 < cLine) : IxR X (rAtD X.K) := ix_seq.or (ix_dict hu)
section
variable {K : PySem.W.Frag} {dk : DK}
theorem l_at : LR2 K dk (rAtD K) gAt := fun {x y dx dy S μ H Q E} ok rx ry q => by
  have q1 : (W.bnd (see dx) fun d => match d with
    | .dct t ks => W.chk (okKey t dy = true) (W.opt (dval ks dy))
    | d => W.bnd (see dy) fun k => gIx d k).run (Post K dk S μ H Q) E μ := q
  rw [run_bnd, run_see] at q1
  cases hl : look μ dx with
  | none => rw [hl] at q1; exact q1.elim
  | some d2 =>
    rw [hl] at q1
    have other : (W.bnd (see dy) fun k => gIx d2 k).run (Post K dk S μ H Q) E μ → rAtD K x y H Q := fun z => .inl (l_ix (dk := dk) (E := E) ok rx ry (by
      show (W.bnd (see dx) fun x => W.bnd (see dy) fun y => gIx x y).run (Post K dk S μ H Q) E μ
      rw [run_bnd, run_see, hl]
      exact z))
    cases d2 with
    | dct t ks =>
      obtain ⟨hk, q1⟩ := (q1 : okKey t dy = true ∧ (W.opt (dval ks dy)).run (Post K dk S μ H Q) E μ)
      obtain ⟨d3, vw, e3⟩ := see_vw ok rx (Q := fun d _ => d = D.dct t ks) (E := E) (by rw [run_see, hl]; rfl)
      subst e3
      obtain ⟨a, w, rfl, dg, p1, p2⟩ := dct_get (d := dx) vw ry hk
      cases hv : dval ks dy with
      | none => rw [hv] at q1; exact q1.elim
      | some z =>
        rw [hv] at q1
        obtain ⟨v, rfl, rv⟩ := p1 z hv
        exact .inr ⟨a, v, rfl, dg, q1 v S H Ex.refl ok rv⟩
    | _ => exact other q1
/-- k in x -/
noncomputable def gMem (neg : Bool) (k x : D) : W D := W.bnd (see x) fun d => match d with
  | .dct t ks => W.chk (okKey t k = true) (W.ret (.bl (if neg then !(dval ks k).isSome else (dval ks k).isSome)))
  | _ => s2 (gIn neg) k x
def rMemD (K : PySem.W.Frag) (neg : Bool) : R2 := fun y x H Q => rInA K neg y x H Q ∨ ∃ a o, x = .ref a ∧ DGet H a y o ∧ Q (.bl (if neg then !o.isSome else o.isSome)) H
theorem o_mem {X : Cx} (hu : X.A.units + 1 < cLine) : OpR X (compareOp .In) (rMemD X.K false) := OpR.or o_in (o_dhas (neg := false) hu)
theorem o_notMem {X : Cx} (hu : X.A.units + 1 < cLine) : OpR X (compareOp .NotIn) (rMemD X.K true) := OpR.or o_notIn (o_dhas (neg := true) hu)
theorem l_mem {neg : Bool} : LR2 K dk (rMemD K neg) (gMem neg) := fun {y x dy dx S μ H Q E} ok ry rx q => by
  have q1 : (W.bnd (see dx) fun d => match d with
    | .dct t ks => W.chk (okKey t dy = true) (W.ret (.bl (if neg then !(dval ks dy).isSome else (dval ks dy).isSome)))
    | _ => s2 (gIn neg) dy dx).run (Post K dk S μ H Q) E μ := q
  rw [run_bnd, run_see] at q1
  cases hl : look μ dx with
  | none => rw [hl] at q1; exact q1.elim
  | some d2 =>
    rw [hl] at q1
    cases d2 with
    | dct t ks =>
      refine .inr (l_dhas (dk := dk) (E := E) ok ry rx ?_)
      show (W.bnd (see dx) fun d => W.bnd (asDct d) fun p => W.chk (okKey p.1 dy = true) (W.ret (.bl (if neg then !(dval p.2 dy).isSome else (dval p.2 dy).isSome)))).run (Post K dk S μ H Q) E μ
      rw [run_bnd, run_see, hl]
      exact q1
    | _ => exact .inl (l_in ok ry rx q1)
end
end DL

/-! promises of defs that may show things: what runs around holds nothing that is being shown -/
namespace Kit
open PySem PySem.Spec PyProof.Rows L2
section
variable {P : Program} {w : World} {K : PySem.W.Frag} {mg : Str → Option Value} {base : Heap}
/-- the law's call, from the world outside -/
theorem law_callN {mb : Str → Option Value} {CX : CXT} {k : Nat} {fa a : Addr} {fd : FuncData} {x : Str} {sp : Sp}
    {s₁ : Shared} {vs : List Value} {ns : List Int}
    (KX : K.In s₁.heap) (hns : s₁.heap.Ns mainGlobals mg) (hb : s₁.heap.Ns builtinsNs mb)
    (hbb : ∀ x : Str, x ≠ "__name__" → mb x = bootBuiltins x) (hlim : s₁.heap.NoLimit) (hnd : s₁.heap.NoDigits) (hg : s₁.gens = #[])
    (ha : s₁.heap.get? a = some { cls := .type "list", data := .seq vs.toArray }) (hi : IntsAre vs ns)
    (hl : ns.length ≤ sizeLine) (hr : Room k callerA)
    (F : ∀ base : Heap, K.In base → base.Ns mainGlobals mg → base.NoDigits → FnG P w K mg base CX k fa fd [x] sp)
    (hbind : ∀ (s : Shared) (u : Value), BindsTo s fd ⟨[u], []⟩ [(x, u)])
    (hsp : ∀ H : Hp, Only H → SqL K H a (ns.map V.int) → sp [.ref a] H (fun v _ => v = .bl true) fun _ _ _ => False)
    (hCX : ∀ H e s', CX [] H s₁ (fun _ _ _ => False) e s' → False) :
    codeAny (model P w) callerA (.call (.ref fa) ⟨[.ref a], []⟩)
      (fun r s' => r = .ok (.ret (.bool true)) ∧ OldK s₁.heap s'.heap ∧ s'.os = s₁.os ∧ AllBare s'.gens) s₁ := by
  have rv := vals_ints hi
  have lenV := hi.length
  -- over any abstract heap that tracks the script at most
  have inner : ∀ H : Hp, Only H → SqL K H a (ns.map V.int) → HOk P w H s₁.heap → (∀ b, H b ≠ none → b = a) →
      (H a ≠ none → K.lookup a = none) →
      codeAny (model P w) callerA (.call (.ref fa) ⟨[.ref a], []⟩)
        (fun r s' => r = .ok (.ret (.bool true)) ∧ OldK s₁.heap s'.heap ∧ s'.os = s₁.os ∧ AllBare s'.gens) s₁ := by
    intro H hO hS hok hA hK
    have one : ∀ {b : Addr} {u : HO}, H b = some u → b = a := fun {b u} z => hA b (by rw [z]; simp)
    have noD : ∀ {b : Addr} {o : Obj} {es : Array DictEntry} {ep : Nat},
        s₁.heap.get? b = some o → o.data = .dict es ep → H b = none := by
      intro b o es ep e d
      cases q : H b with
      | none => rfl
      | some u =>
        obtain rfl := one q
        rw [ha] at e
        cases e
        have d' : Data.seq vs.toArray _ = Data.dict es ep := d
        cases d'
    have nsK : ∀ {b : Addr} {m : Str → Option Value}, s₁.heap.Ns b m → (hidT s₁.heap H).Ns b m := by
      rintro b m ⟨o, es, ep, e, d, r⟩
      exact ⟨o, es, ep, hidT_get e (noD e d), d, r⟩
    have hKb : K.In (hidT s₁.heap H) := by
      intro b o e
      refine hidT_get (KX b o e) ?_
      cases q : H b with
      | none => rfl
      | some u =>
        obtain rfl := one q
        rw [hK (by rw [q]; simp)] at e
        cases e
    obtain ⟨mc, l1, l2⟩ := hlim
    obtain ⟨md, d1, d2⟩ := hnd
    have hM : Mod K mg (hidT s₁.heap H) := ⟨hKb, nsK hns, ⟨mb, nsK hb, hbb⟩, mc, nsK l1, l2⟩
    have no0 : ∀ b : Addr, b ∈ ([] : List Addr) → False := fun b z => by simp at z
    have e0 : Env0 P w K mg (hidT s₁.heap H) callerA [] s₁ H :=
      ⟨rfl, hM, fun b o e => of_hidT e, Nat.le_of_eq (hidT_size _ _), trivial, fun b z => (no0 b z).elim, hok, .of_eq hg⟩
    have hN : (hidT s₁.heap H).NoDigits := ⟨md, nsK d1, d2⟩
    have go := (F _ hKb (nsK hns) hN).run callerA [] s₁ H ⟨[.ref a], []⟩ [.ref a] [.ref a] _ _ rfl hr e0
      (hbind s₁ (.ref a)) (.cons rfl .nil) (hsp H hO hS)
    refine codeAny_mono go ?_
    intro r s' h
    match r, h with
    | .error e, h => exact (hCX H e s' h).elim
    | .ok .next, h => exact False.elim h
    | .ok .brk, h => exact False.elim h
    | .ok .cont, h => exact False.elim h
    | .ok (.ret u), h =>
      obtain ⟨v, H', os, bare, un, hok', r', q⟩ := h
      have q' : v = .bl true := q
      subst q'
      obtain rfl : u = Value.bool true := r'
      refine ⟨rfl, OldK.of_keep ?_, os, bare⟩
      intro b o e
      cases q : H b with
      | none => exact un.keep b o e q (no0 b) (by simp)
      | some u =>
        rcases hO b with z | ⟨ob, xs, z⟩
        · rw [q] at z
          cases z
        · obtain ⟨e1, _⟩ := hok b _ z
          obtain ⟨e2, _⟩ := hok' b _ (un.frzs b ob _ z)
          rw [e] at e1
          cases e1
          exact e2
  cases hk : K.lookup a with
  | some o =>
    have e := KX a o hk
    rw [ha] at e
    cases e
    have sz : vs.toArray.size ≤ sizeLine := by
      rw [List.size_toArray, lenV]
      exact hl
    refine inner (fun _ => none) (fun _ => .inl rfl) (.inr ⟨_, vs.toArray, _, hk, rfl, rfl, rfl, sz, by simpa using rv⟩) ?_ ?_ ?_
    · intro b u z
      have z' : (none : Option HO) = some u := z
      cases z'
    · exact fun b z => absurd rfl z
    · exact fun z => absurd rfl z
  | none =>
    let u : HO := .frz { cls := .type "list", data := .seq vs.toArray } (.lst (ns.map V.int))
    have yes : ∀ {b : Addr}, b = a → (if b = a then some u else none) = some u := fun h => if_pos h
    have no : ∀ {b : Addr}, ¬ b = a → (if b = a then some u else none) = none := fun h => if_neg h
    refine inner (fun b => if b = a then some u else none) ?_ (.inl (.inr ⟨_, yes rfl⟩)) ?_ ?_ fun _ => hk
    · intro b
      by_cases hb : b = a
      · exact .inr ⟨_, _, yes hb⟩
      · exact .inl (no hb)
    · intro b v z
      by_cases hb : b = a
      · have z' := (yes hb).symm.trans z
        cases z'
        subst hb
        refine ⟨ha, ?_, vs, _, rv, ha⟩
        rw [List.length_map]
        exact hl
      · have z' := (no hb).symm.trans z
        cases z'
    · intro b z
      by_cases hb : b = a
      · exact hb
      · exact absurd (no hb) z
end

/-- the goal of the head, from the law's promise -/
theorem walk_ofN {l : PySem.W.OpenLaw} {n k : Nat} {q : Program} {loose : List Str} {XP : (Str → Option Value) → Heap → Prop}
    {YP : World → Heap → Prop} {d : DefRec} {K : Params → PySem.W.Frag} {CX : World → CXT} {sp : World → Sp} {x : Str}
    (hn : l.most = some n) (hn2 : n ≤ sizeLine) (hdf : d.params.defaults = []) (hr : Room k callerA)
    (hY : ∀ (w : World) (h : Heap), YP w h → (K w.params).In h)
    (F : ∀ (w : World) (mg : Str → Option Value) (fa : Addr) (h : Heap), (K w.params).In h → h.Ns mainGlobals mg →
      mg d.name = some (.ref fa) →
      ∃ fd : FuncData, (∀ (s : Shared) (u : Value), BindsTo s fd ⟨[u], []⟩ [(x, u)]) ∧
        ∀ base : Heap, (K w.params).In base → base.Ns mainGlobals mg → base.NoDigits → FnG l.prog w (K w.params) mg base (CX w) k fa fd [x] (sp w))
    (hsp : ∀ (w : World) (H : Hp) (a : Addr) (ns : List Int), ns.length ≤ n →
      (∀ z ∈ ns, Builtin.Int.intBits z ≤ 1048576) → Only H → SqL (K w.params) H a (ns.map V.int) →
      sp w [.ref a] H (fun v _ => v = .bl true) fun _ _ _ => False)
    (hCX : ∀ (w : World) (H : Hp) (s : Shared) (e : Value) (s' : Shared), CX w [] H s (fun _ _ _ => False) e s' → False) :
    PySem.W.WalkO q loose XP YP l.row.toRowW d [] (fun f vs => PySem.call f vs) := by
  refine Att.attach_callB hn hdf ?_
  intro w s₀ s₁ mg mb fa o pm cd doc a vs ns G Y ho hd hcd hmg hobj hints hlen hbits hg
  have KX := hY w _ Y
  obtain ⟨fd, hb, hF⟩ := F w mg fa _ KX G.T.g hmg
  exact law_callN KX G.T.g G.T.b G.T.builtins G.T.nolimit ⟨_, G.T.nodigits.choose_spec.1, G.T.nodigits.choose_spec.2⟩ hg hobj hints (Nat.le_trans hlen hn2) hr hF hb
    (fun H hO hS => hsp w H a ns hlen hbits hO hS) fun H e s' => hCX w H s₁ e s'
end Kit

namespace DL
open PySem PySem.Spec PyProof.Rows L2 Kit X22
section
variable {P : Program} {w : World} {K : PySem.W.Frag} {mg : Str → Option Value} {base : Heap}
theorem fng_D {dk : DK} {x : Str} {st : Stmt} {f : Addr} {fd : FuncData} {N ps : List Str} {k m : Nat} {b : DS → W Fl} (D : DefAt K mg x ps st f fd)
    (S : FnScope N ps (defScope st)) (hm : N.length = ps.length + m)
    (hbody : ∀ (cdv : Value) (A : Around) (outer : List Env) (s : Shared) (H0 : Hp) (E : XK),
      Qt (A.deeper (envOfC x (defScope st) s.heap.objs.size f cdv)) →
      Room k (A.deeper (envOfC x (defScope st) s.heap.objs.size f cdv)) → ∀ (S0 : Pl) (μ0 : Mu) (H : Hp),
      PSs (cxOf (L2.CX P w) P w K mg base N x (defScope st) f cdv A outer s H0 E) (defBody st) (lowS K dk (cDef K dk S0 μ0 H E) b)) :
    FnG P w K mg base (L2.CX P w) (k + 1) f fd ps (spX K dk ps.length (defW m b)) := by
  obtain ⟨oc, od, kV, doc, pm, an, cdv, ct, osl, rfl, lk, hcd⟩ := D.fn.ex
  refine fn_ofG lk hcd S (fun vs H Q E h => h.1) fun A outer s H vs Q E hq hr hsp => ?_
  obtain ⟨hl, ds, S0, μ0, ok, rep, run⟩ := hsp
  refine ⟨_, hbody cdv A outer s H E hq hr S0 μ0 H, startD m ds, S0, μ0, Ex.refl, ok, rs_start rep (by omega), ?_⟩
  have run : (b (startD m ds)).run (fun fl μ' => (endF fl).run (Post K dk S0 μ0 H Q) (PostX K dk S0 μ0 H E) μ') (PostX K dk S0 μ0 H E) μ0 := run
  refine W.up run fun fl μ1 q => ?_
  cases fl with
  | nx ε => exact fun σ S' H' ex ok' rs' => q .non S' H' ex ok' .non
  | rt d => exact fun v S' H' ex ok' r' => q v S' H' ex ok' r'
  | bk ε => exact q.elim
  | ct ε => exact q.elim

theorem cal_F {x : Str} {st : Stmt} {f : Addr} {fd : FuncData} {ps : List Str} {k : Nat} {sp : Sp} (D : DefAt K mg x ps st f fd) (F : FnG P w K mg base (L2.CX P w) k f fd ps sp) : Cal P w K mg base (L2.CX P w) k x ps sp := ⟨f, fd, F, D.mgf, D.fn.kp, D.bs, D.kbs⟩
theorem cal_nil {dk : DK} {x : Str} {st : Stmt} {f : Addr} {fd : FuncData} {ps : List Str} {k n : Nat} (D : DefAt K mg x ps st f fd) : Cal P w K mg base (L2.CX P w) k x ps (spX K dk n fun _ => W.fail) :=
  ⟨f, fd, ⟨fun _ _ _ _ ⟨_, _, _, _, _, _, z⟩ => z.elim, fun _ _ _ _ _ _ _ _ _ _ _ _ _ _ ⟨_, _, _, _, _, _, z⟩ => z.elim⟩, D.mgf, D.fn.kp, D.bs, D.kbs⟩
/-- the arguments in the parameters' order, where names are given in another one: pm says where each stands -/
def prm {α : Type} (n : Nat) (pm : List Nat) (xs : List α) : List α := if xs.length = n then pm.filterMap (xs[·]?) else []
/-- a def called by names in another order -/
structure CalP (P : Program) (w : World) (K : PySem.W.Frag) (mg : Str → Option Value) (base : Heap) (CX : CXT) (k : Nat) (x : Str) (ps ks : List Str) (pm : List Nat) (sp : Sp) : Prop where
  ex : ∃ (f : Addr) (fd : FuncData), FnG P w K mg base CX k f fd ps sp ∧ mg x = some (.ref f) ∧ PySem.W.keepIn K (.ref f) = true ∧ KBinds K fd ps ks (fun us ws => if us.length = 0 then prm ks.length pm ws else []) (fun vs zs => if vs.length = 0 then prm ks.length pm zs else [])
theorem vals_get {xs : List V} {us : List Value} (h : Vals xs us) (i : Nat) : (xs[i]? = none ∧ us[i]? = none) ∨ ∃ x u, xs[i]? = some x ∧ us[i]? = some u ∧ L2.RelV x u := by
  induction h generalizing i with
  | nil => exact .inl ⟨rfl, rfl⟩
  | cons h t ih =>
    cases i with
    | zero => exact .inr ⟨_, _, rfl, rfl, h⟩
    | succ i => exact ih i
theorem vals_prm {n : Nat} {xs : List V} {us : List Value} (h : Vals xs us) : ∀ pm : List Nat, Vals (prm n pm xs) (prm n pm us) := by
  intro pm
  unfold prm
  rw [h.length]
  by_cases hn : us.length = n
  · rw [if_pos hn, if_pos hn]
    induction pm with
    | nil => exact .nil
    | cons i pm ih =>
      rcases vals_get h i with ⟨a, b⟩ | ⟨x, u, a, b, r⟩
      · rw [List.filterMap_cons_none a, List.filterMap_cons_none b]
        exact ih
      · rw [List.filterMap_cons_some a, List.filterMap_cons_some b]
        exact .cons r ih
  · rw [if_neg hn, if_neg hn]
    exact .nil
theorem calP_F {x : Str} {st : Stmt} {f : Addr} {fd : FuncData} {ps ks : List Str} {pm : List Nat} {k : Nat} {sp : Sp} (D : DefAt K mg x ps st f fd) (F : FnG P w K mg base (L2.CX P w) k f fd ps sp) (h0 : ps.length ≠ 0)
    (kb : ∀ (s : Shared) (ws : List Value), ws.length = ks.length → BindsTo s fd ⟨[], ks.zip ws⟩ (ps.zip (prm ks.length pm ws))) : CalP P w K mg base (L2.CX P w) k x ps ks pm sp := by
  refine ⟨f, fd, F, D.mgf, D.fn.kp, fun s us ws _ hl => ?_, fun {vs us zs ws} r rz => ?_⟩
  · cases us with
    | cons u us => exact absurd hl.symm h0
    | nil =>
      show BindsTo s fd ⟨[], ks.zip ws⟩ (ps.zip (prm ks.length pm ws))
      by_cases hw : ws.length = ks.length
      · exact kb s ws hw
      · have hl : (prm ks.length pm ws).length = ps.length := hl
        unfold prm at hl
        rw [if_neg hw] at hl
        exact absurd hl.symm h0
  · show Vals (if vs.length = 0 then _ else _) (if us.length = 0 then _ else _)
    rw [r.length]
    by_cases hu : us.length = 0
    · rw [if_pos hu, if_pos hu]
      exact vals_prm rz pm
    · rw [if_neg hu, if_neg hu]
      exact .nil
end
section
variable {X : Cx} {dk : DK} {c : LC X.K dk} {n k j : Nat} {F : List D → W D} {fs : DS → W (List D)} {x : Str} {ps ks : List Str} {pm : List Nat} {kws : List Keyword} {p pos : Pos}
theorem pe_cEP {sp : Sp} {Ew : L2.St → XK} {tk : TA} (cal : CalP X.prog X.w X.K X.mg X.base (L2.CX X.prog X.w) k x ps ks pm sp) (hx : ∀ σ, PassesAt (L2.CX X.prog X.w) X σ (Ew σ)) (hq : Qt X.A) (hr : Room j X.A) (hk : k ≤ j)
    (hg : Gl X x) (hkw : PK X kws tk) (hall : (backToKw pos (keywordEach kws X.env)).all (·.1.isSome) = true := by rfl) (hks : (backToKw pos (keywordEach kws X.env)).filterMap (·.1) = ks := by rfl)
    (hdb : (x == ("__debug__" : Str)) = false := by decide) (hpl : ((backTo pos (starEach [] X.env)).any (·.1) || (backToKw pos (keywordEach kws X.env)).any (·.1.isNone)) = false := by rfl) :
    PE X (.Call (.Name x p) [] kws pos) (tCallE (fun vs H Q E => sp (prm ks.length pm vs) H Q E) Ew tk) := by
  obtain ⟨f, fd, F, hm, kf, hb⟩ := cal.ex
  refine ⟨fun pins s σ H Q I h => wpAny_Call_Name_kw (ld_glob I hg hm (PySem.W.callWith_KW0 (h₀ := X.base) I.ok.mod.kin kf hall (thn (hkw.run pos pins s σ H _ I h) fun ws s1 ⟨zs, H1, I1, r, q⟩ => ⟨I1.kIn, ?_⟩) hpl) hdb)⟩
  rw [hks]
  exact run_fnE (us := []) (vs := []) F hq (hr.mono hk) hb (hx σ) I1 .nil r q
theorem repA_prm {K : PySem.W.Frag} {S : Pl} {μ : Mu} {H : Hp} {ds : List D} {vs : List V} (h : RepA K S μ H ds vs) : RepA K S μ H (prm n pm ds) (prm n pm vs) := by
  unfold prm
  rw [h.len]
  by_cases hn : vs.length = n
  · rw [if_pos hn, if_pos hn]
    induction pm with
    | nil => exact .nil
    | cons i pm ih =>
      cases e : ds[i]? with
      | none =>
        have e2 : vs[i]? = none := by
          rw [List.getElem?_eq_none_iff] at e ⊢
          rw [← h.len]
          exact e
        rw [List.filterMap_cons_none e, List.filterMap_cons_none e2]
        exact ih
      | some d =>
        obtain ⟨v, e2, r⟩ := h.get e
        rw [List.filterMap_cons_some e, List.filterMap_cons_some e2]
        exact .cons r ih
  · rw [if_neg hn, if_neg hn]
    exact .nil
theorem de_ownP (cal : CalP X.prog X.w X.K X.mg X.base (L2.CX X.prog X.w) k x ps ks pm (spX X.K dk n F)) (tks : Takes X c.x) (hq : Qt X.A) (hr : Room j X.A) (hk : k ≤ j)
    (hg : Gl X x) (hkw : PK X kws (lowA X.K dk c fs)) (hlen : (prm ks.length pm (List.range ks.length)).length = n := by rfl) (hall : (backToKw pos (keywordEach kws X.env)).all (·.1.isSome) = true := by rfl) (hks : (backToKw pos (keywordEach kws X.env)).filterMap (·.1) = ks := by rfl)
    (hdb : (x == ("__debug__" : Str)) = false := by decide) (hpl : ((backTo pos (starEach [] X.env)).any (·.1) || (backToKw pos (keywordEach kws X.env)).any (·.1.isNone)) = false := by rfl) :
    PE X (.Call (.Name x p) [] kws pos) (lowE X.K dk c (dOwn ks.length (fun ds => W.chk ((prm ks.length pm ds).length = n) (F (prm ks.length pm ds))) fs)) := pe_w (pe_cEP cal (passAt tks) hq hr hk hg hkw hall hks hdb hpl) fun σ H Q q => by
  obtain ⟨ε, S, μ, lk, ok, rs, run⟩ := q
  refine ⟨ε, S, μ, lk, ok, rs, W.up run fun ds μ1 run1 vs S1 H1 ex1 ok1 rep1 => ?_⟩
  obtain ⟨hl, h2, run1⟩ := run1
  have run1 : (F (prm ks.length pm ds)).run (Post X.K dk S μ H Q) (fun x μ' => c.E { x with sl := ε } μ') μ1 := run1
  have rp := repA_prm (n := ks.length) (pm := pm) rep1
  exact ⟨by rw [← rp.len]; exact h2, prm ks.length pm ds, S1, μ1, ok1, rp, (F _).mono (fun _ _ q => q.ex ex1) (fun xn μ' q d vs S' H' ex ok' hd nl rf => c.xl (e := { xn with sl := ε }) (c.up lk ex1) q d vs S' H' σ ex ok' hd nl rf ((rs.ex ex1).ex ex)) run1⟩
end
end DL

namespace K34
open PySem PySem.Spec PyProof.Rows L2 Kit DL
def topS (i : Nat) : Stmt := PySem.Challenge.pw_wiretongue_k34_gates_beat_by_beat.main.body.getD i (.Pass ⟨0, 0, 0, 0⟩)
abbrev s_l_deck : Stmt := topS 6
abbrev N_l_deck : List Str := ["_law_script", "_law_cells", "_law_seed", "_law_cell"]
theorem S_l_deck : FnScope N_l_deck ["_law_script"] (defScope s_l_deck) := ⟨rfl, rfl, rfl, by decide +kernel, rfl, by decide +kernel, by decide +kernel⟩
abbrev s_l_draw : Stmt := topS 7
abbrev N_l_draw : List Str := ["_law_deck_here", "_law_sides", "_law_at", "_law_number", "_law_cell"]
theorem S_l_draw : FnScope N_l_draw ["_law_deck_here", "_law_sides"] (defScope s_l_draw) := ⟨rfl, rfl, rfl, by decide +kernel, rfl, by decide +kernel, by decide +kernel⟩
abbrev s_l_flat_drawn : Stmt := topS 11
abbrev N_l_flat_drawn : List Str := ["_law_deck_here", "_law_rows", "_law_k"]
theorem S_l_flat_drawn : FnScope N_l_flat_drawn ["_law_deck_here"] (defScope s_l_flat_drawn) := ⟨rfl, rfl, rfl, by decide +kernel, rfl, by decide +kernel, by decide +kernel⟩
abbrev s_l_net_drawn : Stmt := topS 12
abbrev N_l_net_drawn : List Str := ["_law_deck_here", "_law_flat", "_law_left", "_law_row", "_law_k", "_law_gates", "_law_size", "_law_at", "_law_way", "_law_traces", "_law_path"]
theorem S_l_net_drawn : FnScope N_l_net_drawn ["_law_deck_here", "_law_flat"] (defScope s_l_net_drawn) := ⟨rfl, rfl, rfl, by decide +kernel, rfl, by decide +kernel, by decide +kernel⟩
abbrev s_l_drawn_beats : Stmt := topS 8
abbrev N_l_drawn_beats : List Str := ["_law_deck_here", "_law_flat", "_law_ticks", "_law_many", "_law_found", "_law_k", "_law_some", "_law_clock", "_law_row"]
theorem S_l_drawn_beats : FnScope N_l_drawn_beats ["_law_deck_here", "_law_flat", "_law_ticks", "_law_many"] (defScope s_l_drawn_beats) := ⟨rfl, rfl, rfl, by decide +kernel, rfl, by decide +kernel, by decide +kernel⟩
abbrev s_l_stepped : Stmt := topS 9
abbrev N_l_stepped : List Str := ["_law_gates", "_law_boxes", "_law_known", "_law_found", "_law_at", "_law_gate", "_law_one", "_law_other"]
theorem S_l_stepped : FnScope N_l_stepped ["_law_gates", "_law_boxes", "_law_known"] (defScope s_l_stepped) := ⟨rfl, rfl, rfl, by decide +kernel, rfl, by decide +kernel, by decide +kernel⟩
abbrev s_l_gate_beats : Stmt := topS 10
abbrev N_l_gate_beats : List Str := ["_law_gates", "_law_flat", "_law_rows", "_law_boxes", "_law_at", "_law_gate", "_law_paths", "_law_row", "_law_found", "_law_ticks", "_law_worths", "_law_now"]
theorem S_l_gate_beats : FnScope N_l_gate_beats ["_law_gates", "_law_flat", "_law_rows"] (defScope s_l_gate_beats) := ⟨rfl, rfl, rfl, by decide +kernel, rfl, by decide +kernel, by decide +kernel⟩
abbrev s_told_of_feeds : Stmt := topS 1
abbrev N_told_of_feeds : List Str := ["word", "feeds", "all_ones"]
theorem S_told_of_feeds : FnScope N_told_of_feeds ["word", "feeds", "all_ones"] (defScope s_told_of_feeds) := ⟨rfl, rfl, rfl, by decide +kernel, rfl, by decide +kernel, by decide +kernel⟩
abbrev s_gates_in_beat : Stmt := topS 3
abbrev N_gates_in_beat : List Str := ["gates", "boxed", "given", "bits", "g", "gate", "feed"]
theorem S_gates_in_beat : FnScope N_gates_in_beat ["gates", "boxed", "given"] (defScope s_gates_in_beat) := ⟨rfl, rfl, rfl, by decide +kernel, rfl, by decide +kernel, by decide +kernel⟩
abbrev s_in_bits : Stmt := topS 2
abbrev N_in_bits : List Str := ["ins", "worths", "path", "width", "worth", "k"]
theorem S_in_bits : FnScope N_in_bits ["ins", "worths"] (defScope s_in_bits) := ⟨rfl, rfl, rfl, by decide +kernel, rfl, by decide +kernel, by decide +kernel⟩
abbrev s_gate_waves : Stmt := topS 4
abbrev N_gate_waves : List Str := ["net", "beats", "ins", "gates", "boxes", "g", "gate", "boxed", "by_beats", "clocks", "worths", "bits", "told"]
theorem S_gate_waves : FnScope N_gate_waves ["net", "beats", "ins"] (defScope s_gate_waves) := ⟨rfl, rfl, rfl, by decide +kernel, rfl, by decide +kernel, by decide +kernel⟩
abbrev s_law : Stmt := topS 13
abbrev N_law : List Str := ["_law_script", "_law_deck_here", "_law_turn", "_law_many", "_law_flat", "_law_here", "_law_said", "_law_own", "_law_row", "_law_rows", "_law_due", "_law_at", "_law_kept", "_law_found"]
theorem S_law : FnScope N_law ["_law_script"] (defScope s_law) := ⟨rfl, rfl, rfl, by decide +kernel, rfl, by decide +kernel, by decide +kernel⟩
structure Bi (mg : Str → Option Value) : Prop where
  list_ : mg "list" = none
  len_ : mg "len" = none
  range_ : mg "range" = none
  tuple_ : mg "tuple" = none
  int_ : mg "int" = none
  sorted_ : mg "sorted" = none
  enumerate_ : mg "enumerate" = none
  dict_ : mg "dict" = none
  zip_ : mg "zip" = none
  repr_ : mg "repr" = none
abbrev F_l_draw := F_draw
abbrev F_l_deck := F_deck
noncomputable def L_l_flat_drawn_1 : DS → W Fl :=
  (sExpr (dMet gAppend (dV 1) (aCons (dTup (aCons (dC (.str "in")) (aCons (dOp gAt (dC (.str "qwz")) (dV 2)) (aCons (dOp (s2 gAdd) (dC (.int 1)) (dOwn 2 F_l_draw (aCons (dV 0) (aCons (dC (.int 3)) aNil)))) (aCons (dOp gAt (dC (.str "cd")) (dOwn 2 F_l_draw (aCons (dV 0) (aCons (dC (.int 2)) aNil)))) aNil))))) aNil)))
noncomputable def B_l_flat_drawn : DS → W Fl :=
  (sSeq (sSet 1 (dLstM aNil))
  (sSeq (sFor (iOf rng1 (aCons (dOp (s2 gAdd) (dC (.int 1)) (dOwn 2 F_l_draw (aCons (dV 0) (aCons (dC (.int 3)) aNil)))) aNil)) (gN 2)
  L_l_flat_drawn_1)
  (sRet (dOp (s2 gAdd) (dCall (c1 gTuple) (aCons (dV 1) aNil)) (dTup (aCons (dTup (aCons (dC (.str "out")) (aCons (dC (.str "y")) (aCons (dOp gAt (dOp gAt (dV 1) (dC (.int 0))) (dC (.int 2))) (aCons (dTup (aCons (dC (.str "name")) (aCons (dOp gAt (dOp gAt (dV 1) (dC (.int 0))) (dC (.int 1))) aNil))) aNil))))) aNil))))))
noncomputable def F_l_flat_drawn : List D → W D := defW 2 (B_l_flat_drawn)
noncomputable def L_l_net_drawn_1 : DS → W Fl :=
  (sSet 2 (dOp (s2 (gCat true)) (dV 2) (dLc [4] (iOf rng1 (aCons (dOp gAt (dV 3) (dC (.int 2))) aNil)) (gN 4) dTrue (dTup (aCons (dC (.str "in")) (aCons (dOp gAt (dV 3) (dC (.int 1))) (aCons (dV 4) aNil)))))))
noncomputable def L_l_net_drawn_2 : DS → W Fl :=
  (sSeq (sPar 7 8 (aCons (dCall (c1 gLen) (aCons (dV 5) aNil)) (aCons (dOwn 2 F_l_draw (aCons (dV 0) (aCons (dC (.int 8)) aNil))) aNil)))
  (sIf (dAnd (dB (dOp (s2 (gE2 true)) (dV 2) (dLst aNil))) (dOr (dB (dOp gLt (dV 8) (dC (.int 3)))) (dOr (dB (dOp gLe (dOp gSub (dV 6) (dV 7)) (dCall (c1 gLen) (aCons (dV 2) aNil)))) (dB (dOp (s2 (gE2 false)) (dV 7) (dC (.int 0)))))))
  (sExpr (dMet gAppend (dV 5) (aCons (dMet gPopAt (dV 2) (aCons (dOwn 2 F_l_draw (aCons (dV 0) (aCons (dCall (c1 gLen) (aCons (dV 2) aNil)) aNil))) aNil)) aNil)))
  (sIf (dOr (dB (dOp gLt (dV 8) (dC (.int 2)))) (dB (dOp (s2 (gE2 false)) (dV 7) (dC (.int 0)))))
  (sExpr (dMet gAppend (dV 5) (aCons (dTup (aCons (dC (.str "is")) (aCons (dOwn 2 F_l_draw (aCons (dV 0) (aCons (dC (.int 2)) aNil))) aNil))) aNil)))
  (sIf (dB (dOp gLt (dV 8) (dC (.int 5))))
  (sExpr (dMet gAppend (dV 5) (aCons (dTup (aCons (dC (.str "box")) (aCons (dOp gAt (dC (.str "cd")) (dOwn 2 F_l_draw (aCons (dV 0) (aCons (dC (.int 2)) aNil)))) (aCons (dOwn 2 F_l_draw (aCons (dV 0) (aCons (dC (.int 2)) aNil))) (aCons (dOwn 2 F_l_draw (aCons (dV 0) (aCons (dV 6) aNil))) aNil))))) aNil)))
  (sIf (dB (dOp (s2 (gE2 false)) (dV 8) (dC (.int 5))))
  (sExpr (dMet gAppend (dV 5) (aCons (dTup (aCons (dC (.str "not")) (aCons (dOwn 2 F_l_draw (aCons (dV 0) (aCons (dV 7) aNil))) aNil))) aNil)))
  (sExpr (dMet gAppend (dV 5) (aCons (dTup (aCons (dOp gAt (dLst (aCons (dC (.str "and")) (aCons (dC (.str "or")) (aCons (dC (.str "xor")) aNil)))) (dOwn 2 F_l_draw (aCons (dV 0) (aCons (dC (.int 3)) aNil)))) (aCons (dOwn 2 F_l_draw (aCons (dV 0) (aCons (dV 7) aNil))) (aCons (dOwn 2 F_l_draw (aCons (dV 0) (aCons (dV 7) aNil))) aNil)))) aNil))))))))
noncomputable def L_l_net_drawn_3 : DS → W Fl :=
  (sSeq (sSet 10 (dOp gAt (dLst (aCons (dOp gAt (dV 3) (dC (.int 1))) (aCons (dOp gAt (dOp gAt (dV 1) (dC (.int 0))) (dC (.int 1))) aNil))) (dCall (c1 gInt) (aCons (dOp (s2 (gE2 false)) (dOp gAt (dV 3) (dC (.int 0))) (dC (.str "out"))) aNil))))
  (sSet 9 (dOp (s2 gAdd) (dV 9) (dLc [4] (iOf rng1 (aCons (dOp gAt (dV 3) (dC (.int 2))) aNil)) (gN 4) dTrue (dTup (aCons (dOp gAt (dV 3) (dC (.int 1))) (aCons (dV 4) (aCons (dTup (aCons (dC (.str "gate")) (aCons (dMet gIndex (dV 5) (aCons (dTup (aCons (dC (.str "in")) (aCons (dV 10) (aCons (dV 4) aNil)))) aNil)) aNil))) aNil))))))))
noncomputable def B_l_net_drawn : DS → W Fl :=
  (sSeq (sSet 2 (dLstM aNil))
  (sSeq (sFor (iOf its (dSl (dV 1) dNoPart (dPart (dUn gNeg (dC (.int 1)))))) (gN 3)
  L_l_net_drawn_1)
  (sSeq (sSet 5 (dLstM aNil))
  (sSeq (sSet 6 (dOp (s2 gAdd) (dOp (s2 gAdd) (dCall (c1 gLen) (aCons (dV 2) aNil)) (dC (.int 2))) (dOwn 2 F_l_draw (aCons (dV 0) (aCons (dC (.int 29)) aNil)))))
  (sSeq (sWh (fun _ => 200) (dB (dOp gLt (dCall (c1 gLen) (aCons (dV 5) aNil)) (dV 6)))
  L_l_net_drawn_2)
  (sSeq (sSet 9 (dLst aNil))
  (sSeq (sFor (iOf its (dV 1)) (gN 3)
  L_l_net_drawn_3)
  (sRet (dTup (aCons (dCall (c1 gTuple) (aCons (dV 5) aNil)) (aCons (dCall (c1 gTuple) (aCons (dCall (c1 (gSort false)) (aCons (dV 9) aNil)) aNil)) (aCons (dTup (aCons (dC (.str "y")) aNil)) aNil))))))))))))
noncomputable def F_l_net_drawn : List D → W D := defW 9 (B_l_net_drawn)
noncomputable def L_l_drawn_beats_1 : DS → W Fl :=
  (sSeq (sSet 6 (dCall (c1 gTuple) (aCons (dLc [7] (iOf its (dCall (c1 (gSort false)) (aCons (dV 2) aNil))) (gN 7) (dB (dOp gGt (dOwn 2 F_l_draw (aCons (dV 0) (aCons (dC (.int 3)) aNil))) (dC (.int 0)))) (dV 7)) aNil)))
  (sExpr (dMet gAppend (dV 4) (aCons (dTup (aCons (dV 6) (aCons (dCall (c1 gTuple) (aCons (dLc [8] (iOf its (dV 1)) (gN 8) (dB (dOp (s2 (gE2 false)) (dOp gAt (dV 8) (dC (.int 0))) (dC (.str "in")))) (dOwn 2 F_l_draw (aCons (dV 0) (aCons (dOp gShl (dC (.int 1)) (dOp gAt (dV 8) (dC (.int 2)))) aNil)))) aNil)) aNil))) aNil))))
noncomputable def B_l_drawn_beats : DS → W Fl :=
  (sSeq (sSet 4 (dLstM aNil))
  (sSeq (sFor (iOf rng1 (aCons (dV 3) aNil)) (gN 5)
  L_l_drawn_beats_1)
  (sRet (dCall (c1 gTuple) (aCons (dV 4) aNil)))))
noncomputable def F_l_drawn_beats : List D → W D := defW 5 (B_l_drawn_beats)
noncomputable def L_l_stepped_1 : DS → W Fl :=
  (sIf (dB (dOp (s2 (gE2 false)) (dOp gAt (dV 5) (dC (.int 0))) (dC (.str "in"))))
  (sExpr (dMet gAppend (dV 3) (aCons (dOp gAndI (dOp gShr (dOp gAt (dV 2) (dOp gAt (dV 5) (dC (.int 1)))) (dOp gAt (dV 5) (dC (.int 2)))) (dC (.int 1))) aNil)))
  (sIf (dB (dOp (gMem false) (dOp gAt (dV 5) (dC (.int 0))) (dTup (aCons (dC (.str "is")) (aCons (dC (.str "box")) aNil)))))
  (sExpr (dMet gAppend (dV 3) (aCons (dIfE (dB (dOp (s2 (gE2 false)) (dOp gAt (dV 5) (dC (.int 0))) (dC (.str "is")))) (dOp gAt (dV 5) (dC (.int 1))) (dOp gAt (dV 1) (dV 4))) aNil)))
  (sIf (dB (dOp (s2 (gE2 false)) (dOp gAt (dV 5) (dC (.int 0))) (dC (.str "not"))))
  (sExpr (dMet gAppend (dV 3) (aCons (dOp gSub (dC (.int 1)) (dOp gAt (dV 3) (dOp gAt (dV 5) (dC (.int 1))))) aNil)))
  (sSeq (sPar 6 7 (aCons (dOp gAt (dV 3) (dOp gAt (dV 5) (dC (.int 1)))) (aCons (dOp gAt (dV 3) (dOp gAt (dV 5) (dC (.int 2)))) aNil)))
  (sExpr (dMet gAppend (dV 3) (aCons (dOp gAt (dLst (aCons (dOp gAndI (dV 6) (dV 7)) (aCons (dOp gOrI (dV 6) (dV 7)) (aCons (dOp gXorI (dV 6) (dV 7)) aNil)))) (dMet gIndex (dLst (aCons (dC (.str "and")) (aCons (dC (.str "or")) (aCons (dC (.str "xor")) aNil)))) (aCons (dOp gAt (dV 5) (dC (.int 0))) aNil))) aNil)))))))
noncomputable def B_l_stepped : DS → W Fl :=
  (sSeq (sSet 3 (dLstM aNil))
  (sSeq (sFor (iOf (gIts .T gEnum) (aCons (dV 0) aNil)) (gTp 2 (gCn (gN 4) (gCn (gN 5) gNl)))
  L_l_stepped_1)
  (sRet (dUn gFrz (dV 3)))))
noncomputable def F_l_stepped : List D → W D := defW 5 (B_l_stepped)
noncomputable def L_l_gate_beats_1 : DS → W Fl :=
  (sIf (dB (dOp (gMem false) (dOp gAt (dOp gAt (dV 0) (dV 4)) (dC (.int 1))) (dV 9)))
  (sPut (dV 3) (dV 4) (dOp gAt (dV 11) (dOp gAt (dOp gAt (dV 0) (dV 4)) (dC (.int 3)))))
  sNil)
noncomputable def L_l_gate_beats_2 : DS → W Fl :=
  (sSeq (sSet 11 (dOwn 3 F_l_stepped (aCons (dV 0) (aCons (dV 3) (aCons (dCall (c1 (gDict false)) (aCons (dCall (gLZ false .L .T) (aCons (dV 6) (aCons (dV 10) aNil))) aNil)) aNil)))))
  (sSeq (sExpr (dMet gAppend (dV 8) (aCons (dV 11) aNil)))
  (sFor (iOf its (dCall (c1 (gLst false)) (aCons (dV 3) aNil))) (gN 4)
  L_l_gate_beats_1)))
noncomputable def B_l_gate_beats : DS → W Fl :=
  (sSeq (sSet 3 (dCall (c1 (gDict true)) (aCons (dLc [4, 5] (iOf (gIts .T gEnum) (aCons (dV 0) aNil)) (gTp 2 (gCn (gN 4) (gCn (gN 5) gNl))) (dB (dOp (s2 (gE2 false)) (dOp gAt (dV 5) (dC (.int 0))) (dC (.str "box")))) (dTup (aCons (dV 4) (aCons (dOp gAt (dV 5) (dC (.int 2))) aNil)))) aNil)))
  (sSeq (sSet 6 (dLc [7] (iOf its (dV 1)) (gN 7) (dB (dOp (s2 (gE2 false)) (dOp gAt (dV 7) (dC (.int 0))) (dC (.str "in")))) (dOp gAt (dV 7) (dC (.int 1)))))
  (sSeq (sSet 8 (dLstM aNil))
  (sSeq (sFor (iOf its (dV 2)) (gTp 2 (gCn (gN 9) (gCn (gN 10) gNl)))
  L_l_gate_beats_2)
  (sRet (dUn gFrz (dV 8)))))))
noncomputable def F_l_gate_beats : List D → W D := defW 9 (B_l_gate_beats)
noncomputable def B_told_of_feeds : DS → W Fl :=
  (sSeq (sIf (dB (dOp (s2 (gE2 false)) (dV 0) (dC (.str "not"))))
  (sRet (dOp gXorI (dOp gAt (dV 1) (dC (.int 0))) (dV 2)))
  sNil)
  (sSeq (sIf (dB (dOp (s2 (gE2 false)) (dV 0) (dC (.str "and"))))
  (sRet (dOp gAndI (dOp gAt (dV 1) (dC (.int 0))) (dOp gAt (dV 1) (dC (.int 1)))))
  sNil)
  (sRet (dIfE (dB (dOp (s2 (gE2 false)) (dV 0) (dC (.str "or")))) (dOp gOrI (dOp gAt (dV 1) (dC (.int 0))) (dOp gAt (dV 1) (dC (.int 1)))) (dOp gXorI (dOp gAt (dV 1) (dC (.int 0))) (dOp gAt (dV 1) (dC (.int 1))))))))
noncomputable def F_told_of_feeds : List D → W D := defW 0 (B_told_of_feeds)
noncomputable def L_gates_in_beat_1 : DS → W Fl :=
  (sIf (dB (dOp (s2 (gE2 false)) (dOp gAt (dV 5) (dC (.int 0))) (dC (.str "is"))))
  (sExpr (dMet gAppend (dV 3) (aCons (dOp gAt (dV 5) (dC (.int 1))) aNil)))
  (sIf (dB (dOp (s2 (gE2 false)) (dOp gAt (dV 5) (dC (.int 0))) (dC (.str "in"))))
  (sExpr (dMet gAppend (dV 3) (aCons (dOp gAt (dV 2) (dSl (dV 5) (dPart (dC (.int 1))) dNoPart)) aNil)))
  (sIf (dB (dOp (s2 (gE2 false)) (dOp gAt (dV 5) (dC (.int 0))) (dC (.str "box"))))
  (sExpr (dMet gAppend (dV 3) (aCons (dOp gAt (dV 1) (dV 4)) aNil)))
  (sExpr (dMet gAppend (dV 3) (aCons (dOwn 3 F_told_of_feeds (aCons (dOp gAt (dV 5) (dC (.int 0))) (aCons (dLc [6] (iOf its (dSl (dV 5) (dPart (dC (.int 1))) dNoPart)) (gN 6) dTrue (dOp gAt (dV 3) (dV 6))) (aCons (dC (.int 1)) aNil)))) aNil))))))
noncomputable def B_gates_in_beat : DS → W Fl :=
  (sSeq (sSet 3 (dLstM aNil))
  (sSeq (sFor (iOf (gIts .T gEnum) (aCons (dV 0) aNil)) (gTp 2 (gCn (gN 4) (gCn (gN 5) gNl)))
  L_gates_in_beat_1)
  (sRet (dUn gFrz (dV 3)))))
noncomputable def F_gates_in_beat : List D → W D := defW 4 (B_gates_in_beat)
noncomputable def B_in_bits : DS → W Fl :=
  (sRet (dDc2 false true [2, 3, 4, 5] (iOf (gZip .T .T) (aCons (dV 0) (aCons (dV 1) aNil))) (gTp 2 (gCn (gTp 2 (gCn (gN 2) (gCn (gN 3) gNl))) (gCn (gN 4) gNl))) dTrue [5] (iOf rng1 (aCons (dV 3) aNil)) (gN 5) dTrue (dTup (aCons (dV 2) (aCons (dV 5) aNil))) (dOp gAndI (dOp gShr (dV 4) (dV 5)) (dC (.int 1)))))
noncomputable def F_in_bits : List D → W D := defW 4 (B_in_bits)
noncomputable def L_gate_waves_1 : DS → W Fl :=
  (sSeq (sSet 11 (dOwn 3 F_gates_in_beat (aCons (dV 3) (aCons (dV 7) (aCons (dOwn 2 F_in_bits (aCons (dV 2) (aCons (dV 10) aNil))) aNil)))))
  (sSeq (sSet 7 (dDc false false [5] (iOf its (dV 4)) (gN 5) dTrue (dV 5) (dIfE (dB (dOp (gMem false) (dOp gAt (dOp gAt (dV 3) (dV 5)) (dC (.int 1))) (dV 9))) (dOp gAt (dV 11) (dOp gAt (dOp gAt (dV 3) (dV 5)) (dC (.int 3)))) (dOp gAt (dV 11) (dV 5)))))
  (sExpr (dMet gAppend (dV 8) (aCons (dV 11) aNil)))))
noncomputable def B_gate_waves : DS → W Fl :=
  (sSeq (sSet 3 (dOp gAt (dV 0) (dC (.int 0))))
  (sSeq (sSet 4 (dLc [5, 6] (iOf (gIts .T gEnum) (aCons (dV 3) aNil)) (gTp 2 (gCn (gN 5) (gCn (gN 6) gNl))) (dB (dOp (s2 (gE2 false)) (dOp gAt (dV 6) (dC (.int 0))) (dC (.str "box")))) (dV 5)))
  (sSeq (sSet 7 (dDc false false [5] (iOf its (dV 4)) (gN 5) dTrue (dV 5) (dOp gAt (dOp gAt (dV 3) (dV 5)) (dC (.int 2)))))
  (sSeq (sSet 8 (dLstM aNil))
  (sSeq (sFor (iOf its (dV 1)) (gTp 2 (gCn (gN 9) (gCn (gN 10) gNl)))
  L_gate_waves_1)
  (sRet (dCall (c1 gTuple) (aCons (dLc [5] (iOf rng1 (aCons (dCall (c1 gLen) (aCons (dV 3) aNil)) aNil)) (gN 5) dTrue (dCall (c1 gTuple) (aCons (dLc [12] (iOf its (dV 8)) (gN 12) dTrue (dOp gAt (dV 12) (dV 5))) aNil))) aNil))))))))
noncomputable def F_gate_waves : List D → W D := defW 10 (B_gate_waves)
noncomputable def L_law_1 : DS → W Fl :=
  (sIf (dOr (dB (dOp (s2 (gE2 true)) (dCall (c1 gRepr) (aCons (dV 13) aNil)) (dCall (c1 gRepr) (aCons (dV 10) aNil)))) (dB (dOp (s2 (gE2 true)) (dCall (c1 gRepr) (aCons (dTup (aCons (dV 5) (aCons (dV 6) (aCons (dV 7) aNil)))) aNil)) (dV 12))))
  (sRet (dC (.bl false)))
  sNil)
noncomputable def L_law_2 : DS → W Fl :=
  (sSeq (sSet 3 (dOp gAt (dLst (aCons (dOwn 2 F_l_draw (aCons (dV 1) (aCons (dC (.int 13)) aNil))) (aCons (dC (.int 60)) aNil))) (dCall (c1 gInt) (aCons (dOp (s2 (gE2 false)) (dOwn 2 F_l_draw (aCons (dV 1) (aCons (dC (.int 8)) aNil))) (dC (.int 5))) aNil))))
  (sSeq (sSet 4 (dOwn 1 F_l_flat_drawn (aCons (dV 1) aNil)))
  (sSeq (sSet 5 (dOwn 2 F_l_net_drawn (aCons (dV 1) (aCons (dV 4) aNil))))
  (sSeq (sSet 6 (dOwn 4 F_l_drawn_beats (aCons (dV 1) (aCons (dV 4) (aCons (dLst (aCons (dC (.str "c")) (aCons (dC (.str "d")) aNil))) (aCons (dV 3) aNil))))))
  (sSeq (sSet 7 (dCall (c1 gTuple) (aCons (dLc [8] (iOf its (dSl (dV 4) dNoPart (dPart (dUn gNeg (dC (.int 1)))))) (gN 8) dTrue (dTup (aCons (dOp gAt (dV 8) (dC (.int 1))) (aCons (dOp gAt (dV 8) (dC (.int 2))) aNil)))) aNil)))
  (sSeq (sSet 9 (dOwn 3 F_l_gate_beats (aCons (dOp gAt (dV 5) (dC (.int 0))) (aCons (dV 4) (aCons (dV 6) aNil)))))
  (sSeq (sSet 10 (dCall (c1 gTuple) (aCons (dLc [11] (iOf rng1 (aCons (dCall (c1 gLen) (aCons (dOp gAt (dV 5) (dC (.int 0))) aNil)) aNil)) (gN 11) dTrue (dCall (c1 gTuple) (aCons (dLc [8] (iOf its (dV 9)) (gN 8) dTrue (dOp gAt (dV 8) (dV 11))) aNil))) aNil)))
  (sSeq (sSet 12 (dCall (c1 gRepr) (aCons (dTup (aCons (dV 5) (aCons (dV 6) (aCons (dV 7) aNil)))) aNil)))
  (sFor (iOf its (dTup (aCons (dOwn 3 F_gate_waves (aCons (dV 5) (aCons (dV 6) (aCons (dV 7) aNil)))) (aCons (dOwn 3 (fun ds => W.chk ((prm 3 [2, 1, 0] ds).length = 3) (F_gate_waves (prm 3 [2, 1, 0] ds))) (aCons (dV 7) (aCons (dV 6) (aCons (dV 5) aNil)))) aNil)))) (gN 13)
  L_law_1)))))))))
noncomputable def B_law : DS → W Fl :=
  (sSeq (sSet 1 (dOwn 1 F_l_deck (aCons (dV 0) aNil)))
  (sSeq (sFor (iOf rng1 (aCons (dC (.int 3)) aNil)) (gN 2)
  L_law_2)
  (sRet (dC (.bl true)))))
noncomputable def F_law : List D → W D := defW 13 (B_law)
end K34

namespace K34
open PySem PySem.Spec PyProof.Rows L2 Kit DL
section
variable {P : Program} {w : World} {K : PySem.W.Frag} {mg : Str → Option Value} {base : Heap}
theorem ok_l_flat_drawn {f : Addr} {fd : FuncData} (D : DefAt K mg "_law_flat_drawn" ["_law_deck_here"] s_l_flat_drawn f fd) (M : Bi mg)
    (C_l_draw : Cal P w K mg base (L2.CX P w) 1 "_law_draw" ["_law_deck_here", "_law_sides"] (spX K dkD 2 F_l_draw)) : Cal P w K mg base (L2.CX P w) 2 "_law_flat_drawn" ["_law_deck_here"] (spX K dkD 1 F_l_flat_drawn) := by
  have S := S_l_flat_drawn
  exact cal_D (m := 2) D S rfl fun cdv A outer s H0 E hq hr S0 μ0 H => (dss_cons (ds_set (i := 1) S.nd rfl (.inl rfl) (de_lstM da_nil))
  (dss_cons (ds_for (vs := [2]) (passes_of rfl) rfl (di_range1 (by rfl) M.range_ (da_cons (de_op o_add l_add de_int (de_own C_l_draw (takes_of rfl rfl rfl rfl) hq hr (by omega) (by rfl) (da_cons (dv 0) (da_cons de_int da_nil)))) da_nil)) (pg_name (i := 2) S.nd rfl (.inl rfl)) (lg_name (by decide))
  (dss_one (ds_expr (de_append (dv 1) (da_cons (de_tup (da_cons de_str (da_cons (de_ix (ix_at (hu_of hr)) l_at de_str (dv 2) (fun _ _ => rfl)) (da_cons (de_op o_add l_add de_int (de_own C_l_draw (takes_of rfl rfl rfl rfl) hq hr (by omega) (by rfl) (da_cons (dv 0) (da_cons de_int da_nil)))) (da_cons (de_ix (ix_at (hu_of hr)) l_at de_str (de_own C_l_draw (takes_of rfl rfl rfl rfl) hq hr (by omega) (by rfl) (da_cons (dv 0) (da_cons de_int da_nil))) (fun _ _ => rfl)) da_nil))))) da_nil)))))
  (dss_one (ds_ret (de_op o_add l_add (de_callTy k_tuple l_tuple (by rfl) M.tuple_ (by decide +kernel) (da_cons (dv 1) da_nil)) (de_tup (da_cons (de_tup (da_cons de_str (da_cons de_str (da_cons (de_ix (ix_at (hu_of hr)) l_at (de_ix (ix_at (hu_of hr)) l_at (dv 1) de_int (fun _ _ => rfl)) de_int (fun _ _ => rfl)) (da_cons (de_tup (da_cons de_str (da_cons (de_ix (ix_at (hu_of hr)) l_at (de_ix (ix_at (hu_of hr)) l_at (dv 1) de_int (fun _ _ => rfl)) de_int (fun _ _ => rfl)) da_nil))) da_nil))))) da_nil)))))))
theorem ok_l_net_drawn {f : Addr} {fd : FuncData} (D : DefAt K mg "_law_net_drawn" ["_law_deck_here", "_law_flat"] s_l_net_drawn f fd) (M : Bi mg)
    (C_l_draw : Cal P w K mg base (L2.CX P w) 1 "_law_draw" ["_law_deck_here", "_law_sides"] (spX K dkD 2 F_l_draw)) : Cal P w K mg base (L2.CX P w) 2 "_law_net_drawn" ["_law_deck_here", "_law_flat"] (spX K dkD 2 F_l_net_drawn) := by
  have S := S_l_net_drawn
  exact cal_D (m := 9) D S rfl fun cdv A outer s H0 E hq hr S0 μ0 H => (dss_cons (ds_set (i := 2) S.nd rfl (.inl rfl) (de_lstM da_nil))
  (dss_cons (ds_for (vs := [3]) (passes_of rfl) rfl (di_seq (de_slice (dv 1) do_none (do_some (de_un un_neg l_neg de_int)))) (pg_name (i := 3) S.nd rfl (.inr rfl)) (lg_name (by decide))
  (dss_one (ds_set (i := 2) S.nd rfl (.inl rfl) (de_op op_cat l_cat (dv 2) (de_lc (own := [("_law_k", 4)]) (gg := (gName 4)) (dg := (gN 4)) (ft := dTrue) (fe := (dTup (aCons (dC (.str "in")) (aCons (dOp gAt (dV 3) (dC (.int 1))) (aCons (dV 4) aNil))))) rfl S.nd (di_range1 (by rfl) M.range_ (da_cons (de_ix (ix_at (hu_of hr)) l_at (dv 3) de_int (fun _ _ => rfl)) da_nil)) (blkOk_by (own := [("_law_k", 4)]) (N := N_l_net_drawn) (sc := defScope s_l_net_drawn) (by decide +kernel)) (fun _ _ _ _ _ => (pg_name (i := 4) S.nd rfl (.inl rfl))) (lg_name (by decide)) (fun _ _ _ _ _ => dts_nil) (fun _ _ _ _ _ => (de_tup (da_cons de_str (da_cons (de_ix (ix_at (hu_of hr)) l_at (dv 3) de_int (fun _ _ => rfl)) (da_cons (dv 4) da_nil))))))))))
  (dss_cons (ds_set (i := 5) S.nd rfl (.inr rfl) (de_lstM da_nil))
  (dss_cons (ds_set (i := 6) S.nd rfl (.inl rfl) (de_op o_add l_add (de_op o_add l_add (de_callB k_len l_len (by rfl) M.len_ (by decide +kernel) (da_cons (dv 2) da_nil)) de_int) (de_own C_l_draw (takes_of rfl rfl rfl rfl) hq hr (by omega) (by rfl) (da_cons (dv 0) (da_cons de_int da_nil)))))
  (dss_cons (ds_while (passes_of rfl) (dt_cmp o_lt l_ord (de_callB k_len l_len (by rfl) M.len_ (by decide +kernel) (da_cons (dv 5) da_nil)) (dv 6) (nomark _))
  (dss_cons (ds_par (i := 7) (j := 8) rfl S.nd rfl rfl (by decide) rfl rfl (da_cons (de_callB k_len l_len (by rfl) M.len_ (by decide +kernel) (da_cons (dv 5) da_nil)) (da_cons (de_own C_l_draw (takes_of rfl rfl rfl rfl) hq hr (by omega) (by rfl) (da_cons (dv 0) (da_cons de_int da_nil))) da_nil)) (by rfl))
  (dss_one (ds_if (PW.pt (dw_and (dt_cmp (o_ne2 (room200 hr)) l_ne2 (dv 2) (de_lst da_nil) (nomark _)) (dw_and1 (PW.pt (dw_or (dt_cmp o_lt l_ord (dv 8) de_int (nomark _)) (dw_or (dt_cmp o_le l_ord (de_op op_sub l_sub (dv 6) (dv 7)) (de_callB k_len l_len (by rfl) M.len_ (by decide +kernel) (da_cons (dv 2) da_nil)) (nomark _)) (dw_or1 (dt_cmp (o_eq2 (room200 hr)) l_eq2 (dv 7) de_int (nomark _)))))))))
  (dss_one (ds_expr (de_append (dv 5) (da_cons (de_popAt (dv 2) (da_cons (de_own C_l_draw (takes_of rfl rfl rfl rfl) hq hr (by omega) (by rfl) (da_cons (dv 0) (da_cons (de_callB k_len l_len (by rfl) M.len_ (by decide +kernel) (da_cons (dv 2) da_nil)) da_nil))) da_nil)) da_nil))))
  (dss_one (ds_if (PW.pt (dw_or (dt_cmp o_lt l_ord (dv 8) de_int (nomark _)) (dw_or1 (dt_cmp (o_eq2 (room200 hr)) l_eq2 (dv 7) de_int (nomark _)))))
  (dss_one (ds_expr (de_append (dv 5) (da_cons (de_tup (da_cons de_str (da_cons (de_own C_l_draw (takes_of rfl rfl rfl rfl) hq hr (by omega) (by rfl) (da_cons (dv 0) (da_cons de_int da_nil))) da_nil))) da_nil))))
  (dss_one (ds_if (dt_cmp o_lt l_ord (dv 8) de_int (nomark _))
  (dss_one (ds_expr (de_append (dv 5) (da_cons (de_tup (da_cons de_str (da_cons (de_ix (ix_at (hu_of hr)) l_at de_str (de_own C_l_draw (takes_of rfl rfl rfl rfl) hq hr (by omega) (by rfl) (da_cons (dv 0) (da_cons de_int da_nil))) (fun _ _ => rfl)) (da_cons (de_own C_l_draw (takes_of rfl rfl rfl rfl) hq hr (by omega) (by rfl) (da_cons (dv 0) (da_cons de_int da_nil))) (da_cons (de_own C_l_draw (takes_of rfl rfl rfl rfl) hq hr (by omega) (by rfl) (da_cons (dv 0) (da_cons (dv 6) da_nil))) da_nil))))) da_nil))))
  (dss_one (ds_if (dt_cmp (o_eq2 (room200 hr)) l_eq2 (dv 8) de_int (nomark _))
  (dss_one (ds_expr (de_append (dv 5) (da_cons (de_tup (da_cons de_str (da_cons (de_own C_l_draw (takes_of rfl rfl rfl rfl) hq hr (by omega) (by rfl) (da_cons (dv 0) (da_cons (dv 7) da_nil))) da_nil))) da_nil))))
  (dss_one (ds_expr (de_append (dv 5) (da_cons (de_tup (da_cons (de_ix (ix_at (hu_of hr)) l_at (de_lst (da_cons de_str (da_cons de_str (da_cons de_str da_nil)))) (de_own C_l_draw (takes_of rfl rfl rfl rfl) hq hr (by omega) (by rfl) (da_cons (dv 0) (da_cons de_int da_nil))) (fun _ _ => rfl)) (da_cons (de_own C_l_draw (takes_of rfl rfl rfl rfl) hq hr (by omega) (by rfl) (da_cons (dv 0) (da_cons (dv 7) da_nil))) (da_cons (de_own C_l_draw (takes_of rfl rfl rfl rfl) hq hr (by omega) (by rfl) (da_cons (dv 0) (da_cons (dv 7) da_nil))) da_nil)))) da_nil))))))))))))))
  (dss_cons (ds_set (i := 9) S.nd rfl (.inl rfl) (de_lst da_nil))
  (dss_cons (ds_for (vs := [3]) (passes_of rfl) rfl (di_seq (dv 1)) (pg_name (i := 3) S.nd rfl (.inr rfl)) (lg_name (by decide))
  (dss_cons (ds_set (i := 10) S.nd rfl (.inr rfl) (de_ix (ix_at (hu_of hr)) l_at (de_lst (da_cons (de_ix (ix_at (hu_of hr)) l_at (dv 3) de_int (fun _ _ => rfl)) (da_cons (de_ix (ix_at (hu_of hr)) l_at (de_ix (ix_at (hu_of hr)) l_at (dv 1) de_int (fun _ _ => rfl)) de_int (fun _ _ => rfl)) da_nil))) (de_callTy k_int l_int (by rfl) M.int_ (by decide +kernel) (da_cons (de_cmp (o_eq2 (room200 hr)) l_eq2 (de_ix (ix_at (hu_of hr)) l_at (dv 3) de_int (fun _ _ => rfl)) de_str (nomark _)) da_nil)) (fun _ _ => rfl)))
  (dss_one (ds_set (i := 9) S.nd rfl (.inl rfl) (de_op o_add l_add (dv 9) (de_lc (own := [("_law_k", 4)]) (gg := (gName 4)) (dg := (gN 4)) (ft := dTrue) (fe := (dTup (aCons (dOp gAt (dV 3) (dC (.int 1))) (aCons (dV 4) (aCons (dTup (aCons (dC (.str "gate")) (aCons (dMet gIndex (dV 5) (aCons (dTup (aCons (dC (.str "in")) (aCons (dV 10) (aCons (dV 4) aNil)))) aNil)) aNil))) aNil))))) rfl S.nd (di_range1 (by rfl) M.range_ (da_cons (de_ix (ix_at (hu_of hr)) l_at (dv 3) de_int (fun _ _ => rfl)) da_nil)) (blkOk_by (own := [("_law_k", 4)]) (N := N_l_net_drawn) (sc := defScope s_l_net_drawn) (by decide +kernel)) (fun _ _ _ _ _ => (pg_name (i := 4) S.nd rfl (.inl rfl))) (lg_name (by decide)) (fun _ _ _ _ _ => dts_nil) (fun _ _ _ _ _ => (de_tup (da_cons (de_ix (ix_at (hu_of hr)) l_at (dv 3) de_int (fun _ _ => rfl)) (da_cons (dv 4) (da_cons (de_tup (da_cons de_str (da_cons (de_index (r65 hr) (dv 5) (da_cons (de_tup (da_cons de_str (da_cons (dv 10) (da_cons (dv 4) da_nil)))) da_nil)) da_nil))) da_nil)))))))))))
  (dss_one (ds_ret (de_tup (da_cons (de_callTy k_tuple l_tuple (by rfl) M.tuple_ (by decide +kernel) (da_cons (dv 5) da_nil)) (da_cons (de_callTy k_tuple l_tuple (by rfl) M.tuple_ (by decide +kernel) (da_cons (de_callB (k_sortD (r70 hr)) l_sortD (by rfl) M.sorted_ (by decide +kernel) (da_cons (dv 9) da_nil)) da_nil)) (da_cons (de_tup (da_cons de_str da_nil)) da_nil)))))))))))))
theorem ok_l_drawn_beats {f : Addr} {fd : FuncData} (D : DefAt K mg "_law_drawn_beats" ["_law_deck_here", "_law_flat", "_law_ticks", "_law_many"] s_l_drawn_beats f fd) (M : Bi mg)
    (C_l_draw : Cal P w K mg base (L2.CX P w) 1 "_law_draw" ["_law_deck_here", "_law_sides"] (spX K dkD 2 F_l_draw)) : Cal P w K mg base (L2.CX P w) 2 "_law_drawn_beats" ["_law_deck_here", "_law_flat", "_law_ticks", "_law_many"] (spX K dkD 4 F_l_drawn_beats) := by
  have S := S_l_drawn_beats
  exact cal_D (m := 5) D S rfl fun cdv A outer s H0 E hq hr S0 μ0 H => (dss_cons (ds_set (i := 4) S.nd rfl (.inl rfl) (de_lstM da_nil))
  (dss_cons (ds_for (vs := [5]) (passes_of rfl) rfl (di_range1 (by rfl) M.range_ (da_cons (dv 3) da_nil)) (pg_name (i := 5) S.nd rfl (.inl rfl)) (lg_name (by decide))
  (dss_cons (ds_set (i := 6) S.nd rfl (.inl rfl) (de_callTy k_tuple l_tuple (by rfl) M.tuple_ (by decide +kernel) (da_cons (de_lc (own := [("_law_clock", 7)]) (gg := (gName 7)) (dg := (gN 7)) (ft := (dB (dOp gGt (dOwn 2 F_l_draw (aCons (dV 0) (aCons (dC (.int 3)) aNil))) (dC (.int 0))))) (fe := (dV 7)) rfl S.nd (di_seq (de_callB (k_sortD (r70 hr)) l_sortD (by rfl) M.sorted_ (by decide +kernel) (da_cons (dv 2) da_nil))) (blkOk_by (own := [("_law_clock", 7)]) (N := N_l_drawn_beats) (sc := defScope s_l_drawn_beats) (by decide +kernel)) (fun _ _ _ _ _ => (pg_name (i := 7) S.nd rfl (.inl rfl))) (lg_name (by decide)) (fun _ _ _ _ _ => (dts_one (dt_cmp o_gt l_ord (de_own C_l_draw takes_none5 hq hr (by omega) (by rfl) (da_cons (dv 0) (da_cons de_int da_nil))) de_int (nomark _)))) (fun _ _ _ _ _ => (dv 7))) da_nil)))
  (dss_one (ds_expr (de_append (dv 4) (da_cons (de_tup (da_cons (dv 6) (da_cons (de_callTy k_tuple l_tuple (by rfl) M.tuple_ (by decide +kernel) (da_cons (de_lc (own := [("_law_row", 8)]) (gg := (gName 8)) (dg := (gN 8)) (ft := (dB (dOp (s2 (gE2 false)) (dOp gAt (dV 8) (dC (.int 0))) (dC (.str "in"))))) (fe := (dOwn 2 F_l_draw (aCons (dV 0) (aCons (dOp gShl (dC (.int 1)) (dOp gAt (dV 8) (dC (.int 2)))) aNil)))) rfl S.nd (di_seq (dv 1)) (blkOk_by (own := [("_law_row", 8)]) (N := N_l_drawn_beats) (sc := defScope s_l_drawn_beats) (by decide +kernel)) (fun _ _ _ _ _ => (pg_name (i := 8) S.nd rfl (.inl rfl))) (lg_name (by decide)) (fun _ _ _ _ _ => (dts_one (dt_cmp (o_eq2 (room200 hr)) l_eq2 (de_ix (ix_at (hu_of hr)) l_at (dv 8) de_int (fun _ _ => rfl)) de_str (nomark _)))) (fun _ _ _ _ _ => (de_own C_l_draw takes_none5 hq hr (by omega) (by rfl) (da_cons (dv 0) (da_cons (de_op op_shl l_shl de_int (de_ix (ix_at (hu_of hr)) l_at (dv 8) de_int (fun _ _ => rfl))) da_nil))))) da_nil)) da_nil))) da_nil))))))
  (dss_one (ds_ret (de_callTy k_tuple l_tuple (by rfl) M.tuple_ (by decide +kernel) (da_cons (dv 4) da_nil))))))
theorem ok_l_stepped {f : Addr} {fd : FuncData} (D : DefAt K mg "_law_stepped" ["_law_gates", "_law_boxes", "_law_known"] s_l_stepped f fd) (M : Bi mg) : Cal P w K mg base (L2.CX P w) 1 "_law_stepped" ["_law_gates", "_law_boxes", "_law_known"] (spX K dkD 3 F_l_stepped) := by
  have S := S_l_stepped
  exact cal_D (m := 5) D S rfl fun cdv A outer s H0 E hq hr S0 μ0 H => (dss_cons (ds_set (i := 3) S.nd rfl (.inl rfl) (de_lstM da_nil))
  (dss_cons (ds_for (vs := [4, 5]) (passes_of rfl) rfl (di_enumT (by rfl) M.enumerate_ (da_cons (dv 0) da_nil)) (pg_tup (by rfl) (pgs_cons (pg_name (i := 4) S.nd rfl (.inl rfl)) (pgs_cons (pg_name (i := 5) S.nd rfl (.inl rfl)) pgs_nil))) (lg_tup (n := 2) (lg_cons (lg_name (by decide)) (lg_cons (lg_name (by decide)) lg_nil)))
  (dss_one (ds_if (dt_cmp (o_eq2 (room200 hr)) l_eq2 (de_ix (ix_at (hu_of hr)) l_at (dv 5) de_int (fun _ _ => rfl)) de_str (nomark _))
  (dss_one (ds_expr (de_append (dv 3) (da_cons (de_op op_and l_andI (de_op op_shr l_shr (de_ix (ix_at (hu_of hr)) l_at (dv 2) (de_ix (ix_at (hu_of hr)) l_at (dv 5) de_int (fun _ _ => rfl)) (fun _ _ => rfl)) (de_ix (ix_at (hu_of hr)) l_at (dv 5) de_int (fun _ _ => rfl))) de_int) da_nil))))
  (dss_one (ds_if (dt_cmp (o_mem (hu_of hr)) l_mem (de_ix (ix_at (hu_of hr)) l_at (dv 5) de_int (fun _ _ => rfl)) (de_tup (da_cons de_str (da_cons de_str da_nil))) rfl)
  (dss_one (ds_expr (de_append (dv 3) (da_cons (de_if (dt_cmp (o_eq2 (room200 hr)) l_eq2 (de_ix (ix_at (hu_of hr)) l_at (dv 5) de_int (fun _ _ => rfl)) de_str (nomark _)) (de_ix (ix_at (hu_of hr)) l_at (dv 5) de_int (fun _ _ => rfl)) (de_ix (ix_at (hu_of hr)) l_at (dv 1) (dv 4) (fun _ _ => rfl))) da_nil))))
  (dss_one (ds_if (dt_cmp (o_eq2 (room200 hr)) l_eq2 (de_ix (ix_at (hu_of hr)) l_at (dv 5) de_int (fun _ _ => rfl)) de_str (nomark _))
  (dss_one (ds_expr (de_append (dv 3) (da_cons (de_op op_sub l_sub de_int (de_ix (ix_at (hu_of hr)) l_at (dv 3) (de_ix (ix_at (hu_of hr)) l_at (dv 5) de_int (fun _ _ => rfl)) (fun _ _ => rfl))) da_nil))))
  (dss_cons (ds_par (i := 6) (j := 7) rfl S.nd rfl rfl (by decide) rfl rfl (da_cons (de_ix (ix_at (hu_of hr)) l_at (dv 3) (de_ix (ix_at (hu_of hr)) l_at (dv 5) de_int (fun _ _ => rfl)) (fun _ _ => rfl)) (da_cons (de_ix (ix_at (hu_of hr)) l_at (dv 3) (de_ix (ix_at (hu_of hr)) l_at (dv 5) de_int (fun _ _ => rfl)) (fun _ _ => rfl)) da_nil)) (by rfl))
  (dss_one (ds_expr (de_append (dv 3) (da_cons (de_ix (ix_at (hu_of hr)) l_at (de_lst (da_cons (de_op op_and l_andI (dv 6) (dv 7)) (da_cons (de_op op_or l_orI (dv 6) (dv 7)) (da_cons (de_op op_xor l_xorI (dv 6) (dv 7)) da_nil)))) (de_index (r65 hr) (de_lst (da_cons de_str (da_cons de_str (da_cons de_str da_nil)))) (da_cons (de_ix (ix_at (hu_of hr)) l_at (dv 5) de_int (fun _ _ => rfl)) da_nil)) (fun _ _ => rfl)) da_nil))))))))))))
  (dss_one (ds_ret (de_frz (dv 3))))))
theorem ok_l_gate_beats {f : Addr} {fd : FuncData} (D : DefAt K mg "_law_gate_beats" ["_law_gates", "_law_flat", "_law_rows"] s_l_gate_beats f fd) (M : Bi mg)
    (C_l_stepped : Cal P w K mg base (L2.CX P w) 1 "_law_stepped" ["_law_gates", "_law_boxes", "_law_known"] (spX K dkD 3 F_l_stepped)) : Cal P w K mg base (L2.CX P w) 2 "_law_gate_beats" ["_law_gates", "_law_flat", "_law_rows"] (spX K dkD 3 F_l_gate_beats) := by
  have S := S_l_gate_beats
  exact cal_D (m := 9) D S rfl fun cdv A outer s H0 E hq hr S0 μ0 H => (dss_cons (ds_set (i := 3) S.nd rfl (.inl rfl) (de_callTy (k_dict rfl) l_dict (by rfl) M.dict_ (by decide +kernel) (da_cons (de_lc (own := [("_law_at", 4), ("_law_gate", 5)]) (gg := (gTup K 2 (gCons (gName 4) (gCons (gName 5) gNil)))) (dg := (gTp 2 (gCn (gN 4) (gCn (gN 5) gNl)))) (ft := (dB (dOp (s2 (gE2 false)) (dOp gAt (dV 5) (dC (.int 0))) (dC (.str "box"))))) (fe := (dTup (aCons (dV 4) (aCons (dOp gAt (dV 5) (dC (.int 2))) aNil)))) rfl S.nd (di_enumT (by rfl) M.enumerate_ (da_cons (dv 0) da_nil)) (blkOk_by (own := [("_law_at", 4), ("_law_gate", 5)]) (N := N_l_gate_beats) (sc := defScope s_l_gate_beats) (by decide +kernel)) (fun _ _ _ _ _ => (pg_tup (by rfl) (pgs_cons (pg_name (i := 4) S.nd rfl (.inl rfl)) (pgs_cons (pg_name (i := 5) S.nd rfl (.inl rfl)) pgs_nil)))) (lg_tup (n := 2) (lg_cons (lg_name (by decide)) (lg_cons (lg_name (by decide)) lg_nil))) (fun _ _ _ _ _ => (dts_one (dt_cmp (o_eq2 (room200 hr)) l_eq2 (de_ix (ix_at (hu_of hr)) l_at (dv 5) de_int (fun _ _ => rfl)) de_str (nomark _)))) (fun _ _ _ _ _ => (de_tup (da_cons (dv 4) (da_cons (de_ix (ix_at (hu_of hr)) l_at (dv 5) de_int (fun _ _ => rfl)) da_nil))))) da_nil)))
  (dss_cons (ds_setLc (i := 6) (own := [("_law_row", 7)]) (gg := (gName 7)) (dg := (gN 7)) (ft := (dB (dOp (s2 (gE2 false)) (dOp gAt (dV 7) (dC (.int 0))) (dC (.str "in"))))) (fe := (dOp gAt (dV 7) (dC (.int 1)))) rfl S.nd rfl rfl (sw_true rfl rfl rfl (by decide +kernel)) (di_seq (dv 1)) (blkOk_by (own := [("_law_row", 7)]) (N := N_l_gate_beats) (sc := defScope s_l_gate_beats) (by decide +kernel)) (fun _ _ _ _ _ => (pg_name (i := 7) S.nd rfl (.inl rfl))) (lg_name (by decide)) (fun _ _ _ _ _ => (dts_one (dt_cmp (o_eq2 (room200 hr)) l_eq2 (de_ix (ix_at (hu_of hr)) l_at (dv 7) de_int (fun _ _ => rfl)) de_str (nomark _)))) (fun _ _ _ _ _ => (de_ix (ix_at (hu_of hr)) l_at (dv 7) de_int (fun _ _ => rfl))))
  (dss_cons (ds_set (i := 8) S.nd rfl (.inl rfl) (de_lstM da_nil))
  (dss_cons (ds_for (vs := [9, 10]) (passes_of rfl) rfl (di_seq (dv 2)) (pg_tup (by rfl) (pgs_cons (pg_name (i := 9) S.nd rfl (.inl rfl)) (pgs_cons (pg_name (i := 10) S.nd rfl (.inl rfl)) pgs_nil))) (lg_tup (n := 2) (lg_cons (lg_name (by decide)) (lg_cons (lg_name (by decide)) lg_nil)))
  (dss_cons (ds_set (i := 11) S.nd rfl (.inl rfl) (de_own C_l_stepped (takes_of rfl rfl rfl rfl) hq hr (by omega) (by rfl) (da_cons (dv 0) (da_cons (dv 3) (da_cons (de_callTy (k_dict rfl) l_dict (by rfl) M.dict_ (by decide +kernel) (da_cons (de_lz (m := false) (k1 := .L) (k2 := .T) rfl (by rfl) M.list_ (by rfl) M.zip_ (da_cons (dv 6) (da_cons (dv 10) da_nil))) da_nil)) da_nil)))))
  (dss_cons (ds_expr (de_append (dv 8) (da_cons (dv 11) da_nil)))
  (dss_one (ds_for (vs := [4]) (passes_of rfl) rfl (di_seq (de_callTy (k_lst rfl) l_lst (by rfl) M.list_ (by decide +kernel) (da_cons (dv 3) da_nil))) (pg_name (i := 4) S.nd rfl (.inl rfl)) (lg_name (by decide))
  (dss_one (ds_if (dt_cmp (o_mem (hu_of hr)) l_mem (de_ix (ix_at (hu_of hr)) l_at (de_ix (ix_at (hu_of hr)) l_at (dv 0) (dv 4) (fun _ _ => rfl)) de_int (fun _ _ => rfl)) (dv 9) rfl)
  (dss_one (ds_put (hu_of hr) (dv 3) (dv 4) (de_ix (ix_at (hu_of hr)) l_at (dv 11) (de_ix (ix_at (hu_of hr)) l_at (de_ix (ix_at (hu_of hr)) l_at (dv 0) (dv 4) (fun _ _ => rfl)) de_int (fun _ _ => rfl)) (fun _ _ => rfl))))
  dss_nil)))))))
  (dss_one (ds_ret (de_frz (dv 8))))))))
theorem ok_told_of_feeds {f : Addr} {fd : FuncData} (D : DefAt K mg "told_of_feeds" ["word", "feeds", "all_ones"] s_told_of_feeds f fd) (M : Bi mg) : Cal P w K mg base (L2.CX P w) 1 "told_of_feeds" ["word", "feeds", "all_ones"] (spX K dkD 3 F_told_of_feeds) := by
  have S := S_told_of_feeds
  exact cal_D (m := 0) D S rfl fun cdv A outer s H0 E hq hr S0 μ0 H => (dss_cons (ds_if (dt_cmp (o_eq2 (room200 hr)) l_eq2 (dv 0) de_str (nomark _))
  (dss_one (ds_ret (de_op op_xor l_xorI (de_ix (ix_at (hu_of hr)) l_at (dv 1) de_int (fun _ _ => rfl)) (dv 2))))
  dss_nil)
  (dss_cons (ds_if (dt_cmp (o_eq2 (room200 hr)) l_eq2 (dv 0) de_str (nomark _))
  (dss_one (ds_ret (de_op op_and l_andI (de_ix (ix_at (hu_of hr)) l_at (dv 1) de_int (fun _ _ => rfl)) (de_ix (ix_at (hu_of hr)) l_at (dv 1) de_int (fun _ _ => rfl)))))
  dss_nil)
  (dss_one (ds_ret (de_if (dt_cmp (o_eq2 (room200 hr)) l_eq2 (dv 0) de_str (nomark _)) (de_op op_or l_orI (de_ix (ix_at (hu_of hr)) l_at (dv 1) de_int (fun _ _ => rfl)) (de_ix (ix_at (hu_of hr)) l_at (dv 1) de_int (fun _ _ => rfl))) (de_op op_xor l_xorI (de_ix (ix_at (hu_of hr)) l_at (dv 1) de_int (fun _ _ => rfl)) (de_ix (ix_at (hu_of hr)) l_at (dv 1) de_int (fun _ _ => rfl))))))))
theorem ok_gates_in_beat {f : Addr} {fd : FuncData} (D : DefAt K mg "gates_in_beat" ["gates", "boxed", "given"] s_gates_in_beat f fd) (M : Bi mg)
    (C_told_of_feeds : Cal P w K mg base (L2.CX P w) 1 "told_of_feeds" ["word", "feeds", "all_ones"] (spX K dkD 3 F_told_of_feeds)) : Cal P w K mg base (L2.CX P w) 2 "gates_in_beat" ["gates", "boxed", "given"] (spX K dkD 3 F_gates_in_beat) := by
  have S := S_gates_in_beat
  exact cal_D (m := 4) D S rfl fun cdv A outer s H0 E hq hr S0 μ0 H => (dss_cons (ds_set (i := 3) S.nd rfl (.inr rfl) (de_lstM da_nil))
  (dss_cons (ds_for (vs := [4, 5]) (passes_of rfl) rfl (di_enumT (by rfl) M.enumerate_ (da_cons (dv 0) da_nil)) (pg_tup (by rfl) (pgs_cons (pg_name (i := 4) S.nd rfl (.inl rfl)) (pgs_cons (pg_name (i := 5) S.nd rfl (.inl rfl)) pgs_nil))) (lg_tup (n := 2) (lg_cons (lg_name (by decide)) (lg_cons (lg_name (by decide)) lg_nil)))
  (dss_one (ds_if (dt_cmp (o_eq2 (room200 hr)) l_eq2 (de_ix (ix_at (hu_of hr)) l_at (dv 5) de_int (fun _ _ => rfl)) de_str (nomark _))
  (dss_one (ds_expr (de_append (dv 3) (da_cons (de_ix (ix_at (hu_of hr)) l_at (dv 5) de_int (fun _ _ => rfl)) da_nil))))
  (dss_one (ds_if (dt_cmp (o_eq2 (room200 hr)) l_eq2 (de_ix (ix_at (hu_of hr)) l_at (dv 5) de_int (fun _ _ => rfl)) de_str (nomark _))
  (dss_one (ds_expr (de_append (dv 3) (da_cons (de_ix (ix_at (hu_of hr)) l_at (dv 2) (de_slice (dv 5) (do_some de_int) do_none) (fun _ _ => rfl)) da_nil))))
  (dss_one (ds_if (dt_cmp (o_eq2 (room200 hr)) l_eq2 (de_ix (ix_at (hu_of hr)) l_at (dv 5) de_int (fun _ _ => rfl)) de_str (nomark _))
  (dss_one (ds_expr (de_append (dv 3) (da_cons (de_ix (ix_at (hu_of hr)) l_at (dv 1) (dv 4) (fun _ _ => rfl)) da_nil))))
  (dss_one (ds_expr (de_append (dv 3) (da_cons (de_own C_told_of_feeds (takes_of rfl rfl rfl rfl) hq hr (by omega) (by rfl) (da_cons (de_ix (ix_at (hu_of hr)) l_at (dv 5) de_int (fun _ _ => rfl)) (da_cons (de_lc (own := [("feed", 6)]) (gg := (gName 6)) (dg := (gN 6)) (ft := dTrue) (fe := (dOp gAt (dV 3) (dV 6))) rfl S.nd (di_seq (de_slice (dv 5) (do_some de_int) do_none)) (blkOk_by (own := [("feed", 6)]) (N := N_gates_in_beat) (sc := defScope s_gates_in_beat) (by decide +kernel)) (fun _ _ _ _ _ => (pg_name (i := 6) S.nd rfl (.inl rfl))) (lg_name (by decide)) (fun _ _ _ _ _ => dts_nil) (fun _ _ _ _ _ => (de_ix (ix_at (hu_of hr)) l_at (dv 3) (dv 6) (fun _ _ => rfl)))) (da_cons de_int da_nil)))) da_nil)))))))))))
  (dss_one (ds_ret (de_frz (dv 3))))))
theorem ok_in_bits {f : Addr} {fd : FuncData} (D : DefAt K mg "in_bits" ["ins", "worths"] s_in_bits f fd) (M : Bi mg) : Cal P w K mg base (L2.CX P w) 1 "in_bits" ["ins", "worths"] (spX K dkD 2 F_in_bits) := by
  have S := S_in_bits
  exact cal_D (m := 4) D S rfl fun cdv A outer s H0 E hq hr S0 μ0 H => (dss_one (ds_ret (de_dc2 (m := false) (t := true) (own := [("path", 2), ("width", 3), ("worth", 4), ("k", 5)]) (gg := (gTup K 2 (gCons (gTup K 2 (gCons (gName 2) (gCons (gName 3) gNil))) (gCons (gName 4) gNil)))) (dg := (gTp 2 (gCn (gTp 2 (gCn (gN 2) (gCn (gN 3) gNl))) (gCn (gN 4) gNl)))) (ft := dTrue) (vs1 := [5]) (gg1 := (gName 5)) (dg1 := (gN 5)) (ft1 := dTrue) (fk := (dTup (aCons (dV 2) (aCons (dV 5) aNil)))) (fv := (dOp gAndI (dOp gShr (dV 4) (dV 5)) (dC (.int 1)))) (hu_of hr) rfl S.nd (di_zip (k1 := .T) (k2 := .T) (by rfl) M.zip_ (da_cons (dv 0) (da_cons (dv 1) da_nil))) (blkOk_by (own := [("path", 2), ("width", 3), ("worth", 4), ("k", 5)]) (N := N_in_bits) (sc := defScope s_in_bits) (by decide +kernel)) (by decide) (fun _ _ _ _ _ => (pg_tup (by rfl) (pgs_cons (pg_tup (by rfl) (pgs_cons (pg_name (i := 2) S.nd rfl (.inl rfl)) (pgs_cons (pg_name (i := 3) S.nd rfl (.inl rfl)) pgs_nil))) (pgs_cons (pg_name (i := 4) S.nd rfl (.inl rfl)) pgs_nil)))) (lg_tup (n := 2) (lg_cons (lg_tup (n := 2) (lg_cons (lg_name (by decide)) (lg_cons (lg_name (by decide)) lg_nil))) (lg_cons (lg_name (by decide)) lg_nil))) (fun _ _ _ _ _ => dts_nil) (fun _ _ _ _ _ => (di_range1 (by rfl) M.range_ (da_cons (dv 3) da_nil))) (fun _ _ _ _ _ => (pg_name (i := 5) S.nd rfl (.inl rfl))) (lg_name (by decide)) (fun _ _ _ _ _ => dts_nil) (fun _ _ _ _ _ => (de_tup (da_cons (dv 2) (da_cons (dv 5) da_nil)))) (fun _ _ _ _ _ => (de_op op_and l_andI (de_op op_shr l_shr (dv 4) (dv 5)) de_int)))))
theorem okF_gate_waves {f : Addr} {fd : FuncData} (D : DefAt K mg "gate_waves" ["net", "beats", "ins"] s_gate_waves f fd) (M : Bi mg)
    (C_gates_in_beat : Cal P w K mg base (L2.CX P w) 2 "gates_in_beat" ["gates", "boxed", "given"] (spX K dkD 3 F_gates_in_beat))
    (C_in_bits : Cal P w K mg base (L2.CX P w) 1 "in_bits" ["ins", "worths"] (spX K dkD 2 F_in_bits)) : FnG P w K mg base (L2.CX P w) 3 f fd ["net", "beats", "ins"] (spX K dkD 3 F_gate_waves) := by
  have S := S_gate_waves
  exact fng_D (m := 10) D S rfl fun cdv A outer s H0 E hq hr S0 μ0 H => (dss_cons (ds_set (i := 3) S.nd rfl (.inr rfl) (de_ix (ix_at (hu_of hr)) l_at (dv 0) de_int (fun _ _ => rfl)))
  (dss_cons (ds_setLc (i := 4) (own := [("g", 5), ("gate", 6)]) (gg := (gTup K 2 (gCons (gName 5) (gCons (gName 6) gNil)))) (dg := (gTp 2 (gCn (gN 5) (gCn (gN 6) gNl)))) (ft := (dB (dOp (s2 (gE2 false)) (dOp gAt (dV 6) (dC (.int 0))) (dC (.str "box"))))) (fe := (dV 5)) rfl S.nd rfl rfl (sw_true rfl rfl rfl (by decide +kernel)) (di_enumT (by rfl) M.enumerate_ (da_cons (dv 3) da_nil)) (blkOk_by (own := [("g", 5), ("gate", 6)]) (N := N_gate_waves) (sc := defScope s_gate_waves) (by decide +kernel)) (fun _ _ _ _ _ => (pg_tup (by rfl) (pgs_cons (pg_name (i := 5) S.nd rfl (.inl rfl)) (pgs_cons (pg_name (i := 6) S.nd rfl (.inl rfl)) pgs_nil)))) (lg_tup (n := 2) (lg_cons (lg_name (by decide)) (lg_cons (lg_name (by decide)) lg_nil))) (fun _ _ _ _ _ => (dts_one (dt_cmp (o_eq2 (room200 hr)) l_eq2 (de_ix (ix_at (hu_of hr)) l_at (dv 6) de_int (fun _ _ => rfl)) de_str (nomark _)))) (fun _ _ _ _ _ => (dv 5)))
  (dss_cons (ds_setDc (i := 7) (m := false) (t := false) (own := [("g", 5)]) (gg := (gName 5)) (dg := (gN 5)) (ft := dTrue) (fk := (dV 5)) (fv := (dOp gAt (dOp gAt (dV 3) (dV 5)) (dC (.int 2)))) (hu_of hr) rfl S.nd rfl rfl (X22.sw_dict rfl rfl rfl (by decide +kernel)) (di_seq (dv 4)) (blkOk_by (own := [("g", 5)]) (N := N_gate_waves) (sc := defScope s_gate_waves) (by decide +kernel)) (fun _ _ _ _ _ => (pg_name (i := 5) S.nd rfl (.inl rfl))) (lg_name (by decide)) (fun _ _ _ _ _ => dts_nil) (fun _ _ _ _ _ => (dv 5)) (fun _ _ _ _ _ => (de_ix (ix_at (hu_of hr)) l_at (de_ix (ix_at (hu_of hr)) l_at (dv 3) (dv 5) (fun _ _ => rfl)) de_int (fun _ _ => rfl))))
  (dss_cons (ds_set (i := 8) S.nd rfl (.inr rfl) (de_lstM da_nil))
  (dss_cons (ds_for (vs := [9, 10]) (passes_of rfl) rfl (di_seq (dv 1)) (pg_tup (by rfl) (pgs_cons (pg_name (i := 9) S.nd rfl (.inr rfl)) (pgs_cons (pg_name (i := 10) S.nd rfl (.inl rfl)) pgs_nil))) (lg_tup (n := 2) (lg_cons (lg_name (by decide)) (lg_cons (lg_name (by decide)) lg_nil)))
  (dss_cons (ds_set (i := 11) S.nd rfl (.inr rfl) (de_own C_gates_in_beat (takes_of rfl rfl rfl rfl) hq hr (by omega) (by rfl) (da_cons (dv 3) (da_cons (dv 7) (da_cons (de_own C_in_bits (takes_of rfl rfl rfl rfl) hq hr (by omega) (by rfl) (da_cons (dv 2) (da_cons (dv 10) da_nil))) da_nil)))))
  (dss_cons (ds_setDc (i := 7) (m := false) (t := false) (own := [("g", 5)]) (gg := (gName 5)) (dg := (gN 5)) (ft := dTrue) (fk := (dV 5)) (fv := (dIfE (dB (dOp (gMem false) (dOp gAt (dOp gAt (dV 3) (dV 5)) (dC (.int 1))) (dV 9))) (dOp gAt (dV 11) (dOp gAt (dOp gAt (dV 3) (dV 5)) (dC (.int 3)))) (dOp gAt (dV 11) (dV 5)))) (hu_of hr) rfl S.nd rfl rfl (X22.sw_dict rfl rfl rfl (by decide +kernel)) (di_seq (dv 4)) (blkOk_by (own := [("g", 5)]) (N := N_gate_waves) (sc := defScope s_gate_waves) (by decide +kernel)) (fun _ _ _ _ _ => (pg_name (i := 5) S.nd rfl (.inl rfl))) (lg_name (by decide)) (fun _ _ _ _ _ => dts_nil) (fun _ _ _ _ _ => (dv 5)) (fun _ _ _ _ _ => (de_if (dt_cmp (o_mem (hu_of hr)) l_mem (de_ix (ix_at (hu_of hr)) l_at (de_ix (ix_at (hu_of hr)) l_at (dv 3) (dv 5) (fun _ _ => rfl)) de_int (fun _ _ => rfl)) (dv 9) rfl) (de_ix (ix_at (hu_of hr)) l_at (dv 11) (de_ix (ix_at (hu_of hr)) l_at (de_ix (ix_at (hu_of hr)) l_at (dv 3) (dv 5) (fun _ _ => rfl)) de_int (fun _ _ => rfl)) (fun _ _ => rfl)) (de_ix (ix_at (hu_of hr)) l_at (dv 11) (dv 5) (fun _ _ => rfl)))))
  (dss_one (ds_expr (de_append (dv 8) (da_cons (dv 11) da_nil)))))))
  (dss_one (ds_ret (de_callTy k_tuple l_tuple (by rfl) M.tuple_ (by decide +kernel) (da_cons (de_lc (own := [("g", 5)]) (gg := (gName 5)) (dg := (gN 5)) (ft := dTrue) (fe := (dCall (c1 gTuple) (aCons (dLc [12] (iOf its (dV 8)) (gN 12) dTrue (dOp gAt (dV 12) (dV 5))) aNil))) rfl S.nd (di_range1 (by rfl) M.range_ (da_cons (de_callB k_len l_len (by rfl) M.len_ (by decide +kernel) (da_cons (dv 3) da_nil)) da_nil)) (blkOk_by (own := [("g", 5)]) (N := N_gate_waves) (sc := defScope s_gate_waves) (by decide +kernel)) (fun _ _ _ _ _ => (pg_name (i := 5) S.nd rfl (.inr rfl))) (lg_name (by decide)) (fun _ _ _ _ _ => dts_nil) (fun _ _ _ _ _ => (de_callTy k_tuple l_tuple (by rfl) M.tuple_ (by decide +kernel) (da_cons (de_lc (own := [("told", 12)]) (gg := (gName 12)) (dg := (gN 12)) (ft := dTrue) (fe := (dOp gAt (dV 12) (dV 5))) rfl S.nd (di_seq (dv 8)) (blkOk_by (own := [("told", 12)]) rfl) (fun _ _ _ _ _ => (pg_name (i := 12) S.nd rfl (.inl rfl))) (lg_name (by decide)) (fun _ _ _ _ _ => dts_nil) (fun _ _ _ _ _ => (de_ix (ix_at (hu_of hr)) l_at (dv 12) (dv 5) (fun _ _ => rfl)))) da_nil)))) da_nil)))))))))
theorem okF_law {f : Addr} {fd : FuncData} (D : DefAt K mg "law" ["_law_script"] s_law f fd) (M : Bi mg)
    (C_l_deck : Cal P w K mg base (L2.CX P w) 1 "_law_deck" ["_law_script"] (spX K dkD 1 F_l_deck))
    (C_l_flat_drawn : Cal P w K mg base (L2.CX P w) 2 "_law_flat_drawn" ["_law_deck_here"] (spX K dkD 1 F_l_flat_drawn))
    (C_l_net_drawn : Cal P w K mg base (L2.CX P w) 2 "_law_net_drawn" ["_law_deck_here", "_law_flat"] (spX K dkD 2 F_l_net_drawn))
    (C_l_drawn_beats : Cal P w K mg base (L2.CX P w) 2 "_law_drawn_beats" ["_law_deck_here", "_law_flat", "_law_ticks", "_law_many"] (spX K dkD 4 F_l_drawn_beats))
    (C_l_gate_beats : Cal P w K mg base (L2.CX P w) 2 "_law_gate_beats" ["_law_gates", "_law_flat", "_law_rows"] (spX K dkD 3 F_l_gate_beats))
    (C_gate_waves : Cal P w K mg base (L2.CX P w) 3 "gate_waves" ["net", "beats", "ins"] (spX K dkD 3 F_gate_waves))
    (C_l_draw : Cal P w K mg base (L2.CX P w) 1 "_law_draw" ["_law_deck_here", "_law_sides"] (spX K dkD 2 F_l_draw))
    (CP_gate_waves_210 : CalP P w K mg base (L2.CX P w) 3 "gate_waves" ["net", "beats", "ins"] ["ins", "beats", "net"] [2, 1, 0] (spX K dkD 3 F_gate_waves)) : FnG P w K mg base (L2.CX P w) 4 f fd ["_law_script"] (spX K dkD 1 F_law) := by
  have S := S_law
  exact fng_D (m := 13) D S rfl fun cdv A outer s H0 E hq hr S0 μ0 H => (dss_cons (ds_set (i := 1) S.nd rfl (.inl rfl) (de_own C_l_deck (takes_of rfl rfl rfl rfl) hq hr (by omega) (by rfl) (da_cons (dv 0) da_nil)))
  (dss_cons (ds_for (vs := [2]) (passes_of rfl) rfl (di_range1 (by rfl) M.range_ (da_cons de_int da_nil)) (pg_name (i := 2) S.nd rfl (.inl rfl)) (lg_name (by decide))
  (dss_cons (ds_set (i := 3) S.nd rfl (.inl rfl) (de_ix (ix_at (hu_of hr)) l_at (de_lst (da_cons (de_own C_l_draw (takes_of rfl rfl rfl rfl) hq hr (by omega) (by rfl) (da_cons (dv 1) (da_cons de_int da_nil))) (da_cons de_int da_nil))) (de_callTy k_int l_int (by rfl) M.int_ (by decide +kernel) (da_cons (de_cmp (o_eq2 (room200 hr)) l_eq2 (de_own C_l_draw (takes_of rfl rfl rfl rfl) hq hr (by omega) (by rfl) (da_cons (dv 1) (da_cons de_int da_nil))) de_int (nomark _)) da_nil)) (fun _ _ => rfl)))
  (dss_cons (ds_set (i := 4) S.nd rfl (.inl rfl) (de_own C_l_flat_drawn (takes_of rfl rfl rfl rfl) hq hr (by omega) (by rfl) (da_cons (dv 1) da_nil)))
  (dss_cons (ds_set (i := 5) S.nd rfl (.inl rfl) (de_own C_l_net_drawn (takes_of rfl rfl rfl rfl) hq hr (by omega) (by rfl) (da_cons (dv 1) (da_cons (dv 4) da_nil))))
  (dss_cons (ds_set (i := 6) S.nd rfl (.inl rfl) (de_own C_l_drawn_beats (takes_of rfl rfl rfl rfl) hq hr (by omega) (by rfl) (da_cons (dv 1) (da_cons (dv 4) (da_cons (de_lst (da_cons de_str (da_cons de_str da_nil))) (da_cons (dv 3) da_nil))))))
  (dss_cons (ds_set (i := 7) S.nd rfl (.inl rfl) (de_callTy k_tuple l_tuple (by rfl) M.tuple_ (by decide +kernel) (da_cons (de_lc (own := [("_law_row", 8)]) (gg := (gName 8)) (dg := (gN 8)) (ft := dTrue) (fe := (dTup (aCons (dOp gAt (dV 8) (dC (.int 1))) (aCons (dOp gAt (dV 8) (dC (.int 2))) aNil)))) rfl S.nd (di_seq (de_slice (dv 4) do_none (do_some (de_un un_neg l_neg de_int)))) (blkOk_by (own := [("_law_row", 8)]) (N := N_law) (sc := defScope s_law) (by decide +kernel)) (fun _ _ _ _ _ => (pg_name (i := 8) S.nd rfl (.inl rfl))) (lg_name (by decide)) (fun _ _ _ _ _ => dts_nil) (fun _ _ _ _ _ => (de_tup (da_cons (de_ix (ix_at (hu_of hr)) l_at (dv 8) de_int (fun _ _ => rfl)) (da_cons (de_ix (ix_at (hu_of hr)) l_at (dv 8) de_int (fun _ _ => rfl)) da_nil))))) da_nil)))
  (dss_cons (ds_set (i := 9) S.nd rfl (.inr rfl) (de_own C_l_gate_beats (takes_of rfl rfl rfl rfl) hq hr (by omega) (by rfl) (da_cons (de_ix (ix_at (hu_of hr)) l_at (dv 5) de_int (fun _ _ => rfl)) (da_cons (dv 4) (da_cons (dv 6) da_nil)))))
  (dss_cons (ds_set (i := 10) S.nd rfl (.inl rfl) (de_callTy k_tuple l_tuple (by rfl) M.tuple_ (by decide +kernel) (da_cons (de_lc (own := [("_law_at", 11)]) (gg := (gName 11)) (dg := (gN 11)) (ft := dTrue) (fe := (dCall (c1 gTuple) (aCons (dLc [8] (iOf its (dV 9)) (gN 8) dTrue (dOp gAt (dV 8) (dV 11))) aNil))) rfl S.nd (di_range1 (by rfl) M.range_ (da_cons (de_callB k_len l_len (by rfl) M.len_ (by decide +kernel) (da_cons (de_ix (ix_at (hu_of hr)) l_at (dv 5) de_int (fun _ _ => rfl)) da_nil)) da_nil)) (blkOk_by (own := [("_law_at", 11)]) (N := N_law) (sc := defScope s_law) (by decide +kernel)) (fun _ _ _ _ _ => (pg_name (i := 11) S.nd rfl (.inr rfl))) (lg_name (by decide)) (fun _ _ _ _ _ => dts_nil) (fun _ _ _ _ _ => (de_callTy k_tuple l_tuple (by rfl) M.tuple_ (by decide +kernel) (da_cons (de_lc (own := [("_law_row", 8)]) (gg := (gName 8)) (dg := (gN 8)) (ft := dTrue) (fe := (dOp gAt (dV 8) (dV 11))) rfl S.nd (di_seq (dv 9)) (blkOk_by (own := [("_law_row", 8)]) rfl) (fun _ _ _ _ _ => (pg_name (i := 8) S.nd rfl (.inl rfl))) (lg_name (by decide)) (fun _ _ _ _ _ => dts_nil) (fun _ _ _ _ _ => (de_ix (ix_at (hu_of hr)) l_at (dv 8) (dv 11) (fun _ _ => rfl)))) da_nil)))) da_nil)))
  (dss_cons (ds_set (i := 12) S.nd rfl (.inl rfl) (de_callB (k_repr hq (room200 hr)) l_repr (by rfl) M.repr_ (by decide +kernel) (da_cons (de_tup (da_cons (dv 5) (da_cons (dv 6) (da_cons (dv 7) da_nil)))) da_nil)))
  (dss_one (ds_for (vs := [13]) (passes_of rfl) rfl (di_seq (de_tup (da_cons (de_own C_gate_waves (takes_of rfl rfl rfl rfl) hq hr (by omega) (by rfl) (da_cons (dv 5) (da_cons (dv 6) (da_cons (dv 7) da_nil)))) (da_cons (de_ownP (ks := ["ins", "beats", "net"]) (pm := [2, 1, 0]) (n := 3) (F := F_gate_waves) CP_gate_waves_210 (takes_of rfl rfl rfl rfl) hq hr (by omega) (by rfl) (dk_cons (dv 7) (dk_cons (dv 6) (dk_cons (dv 5) dk_nil)))) da_nil)))) (pg_name (i := 13) S.nd rfl (.inl rfl)) (lg_name (by decide))
  (dss_one (ds_if (PW.pt (dw_or (dt_cmp (o_ne2 (room200 hr)) l_ne2 (de_callB (k_repr hq (room200 hr)) l_repr (by rfl) M.repr_ (by decide +kernel) (da_cons (dv 13) da_nil)) (de_callB (k_repr hq (room200 hr)) l_repr (by rfl) M.repr_ (by decide +kernel) (da_cons (dv 10) da_nil)) (nomark _)) (dw_or1 (dt_cmp (o_ne2 (room200 hr)) l_ne2 (de_callB (k_repr hq (room200 hr)) l_repr (by rfl) M.repr_ (by decide +kernel) (da_cons (de_tup (da_cons (dv 5) (da_cons (dv 6) (da_cons (dv 7) da_nil)))) da_nil)) (dv 12) (nomark _)))))
  (dss_one (ds_ret de_bl))
  dss_nil)))))))))))))
  (dss_one (ds_ret de_bl))))
end
end K34

/-! what one says of computations over data -/
namespace DL
open PySem PySem.Spec PyProof.Rows L2 Kit X22
section
variable {Q : D → Mu → Prop} {E : Exn → Mu → Prop} {μ : Mu}
/-! ### x[k] -/
theorem run_atT {xs : List D} {i : Int} : (gAt (.tup xs) (.int i)).run Q E μ = (W.opt (atI xs i)).run Q E μ := rfl
theorem run_atL {xs : List D} {i : Int} : (gAt (.lst xs) (.int i)).run Q E μ = (W.opt (atI xs i)).run Q E μ := rfl
theorem run_atS {z : Str} {i : Int} : (gAt (.str z) (.int i)).run Q E μ = (z.length ≤ sizeLine ∧ (W.opt ((atI z.cps.toList i).map fun c => D.str ⟨#[c]⟩)).run Q E μ) := rfl
theorem run_atD {t : Bool} {ks : List (D × D)} {k : D} : (gAt (.dct t ks) k).run Q E μ = (okKey t k = true ∧ (W.opt (dval ks k)).run Q E μ) := rfl
theorem run_atR {n : Nat} {xs : List D} {i : Int} (h : μ[n]? = some (.lst xs)) : (gAt (.ref n) (.int i)).run Q E μ = (W.opt (atI xs i)).run Q E μ := by
  unfold gAt
  rw [run_bnd, run_see, show look μ (.ref n) = some (.lst xs) from (show lookM μ[n]? = _ by rw [h]; rfl)]
  rfl
theorem run_atRd {n : Nat} {t : Bool} {ks : List (D × D)} {k : D} (h : μ[n]? = some (.dct t ks)) : (gAt (.ref n) k).run Q E μ = (okKey t k = true ∧ (W.opt (dval ks k)).run Q E μ) := by
  unfold gAt
  rw [run_bnd, run_see, show look μ (.ref n) = some (.dct t ks) from (show lookM μ[n]? = _ by rw [h]; rfl)]
  rfl
theorem run_optS {α : Type} {a : α} {Q : α → Mu → Prop} : (W.opt (some a)).run Q E μ = Q a μ := rfl
theorem atI_0 {α : Type} {a : α} {xs : List α} : atI (a :: xs) 0 = some a := atI_nat (j := 0) rfl
theorem atI_1 {α : Type} {a b : α} {xs : List α} : atI (a :: b :: xs) 1 = some b := atI_nat (j := 1) rfl
theorem atI_2 {α : Type} {a b c : α} {xs : List α} : atI (a :: b :: c :: xs) 2 = some c := atI_nat (j := 2) rfl
theorem atI_3 {α : Type} {a b c d : α} {xs : List α} : atI (a :: b :: c :: d :: xs) 3 = some d := atI_nat (j := 3) rfl
theorem atI_4 {α : Type} {a b c d e : α} {xs : List α} : atI (a :: b :: c :: d :: e :: xs) 4 = some e := atI_nat (j := 4) rfl
/-- in a tuple of plain things -/
theorem run_memT {neg : Bool} {xs : List D} {k : D} (h1 : ∀ n, k ≠ .ref n) : (gMem neg k (.tup xs)).run Q E μ = ((flatD k = true ∧ xs.all flatD = true) ∧ Q (.bl (if neg then !xs.any (eqD · k) else xs.any (eqD · k))) μ) := by
  unfold gMem
  rw [run_bnd, run_see, show look μ (.tup xs) = some (.tup xs) from rfl, run_optS]
  show ((see k).bnd fun x => (see (.tup xs)).bnd fun y => gIn neg x y).run Q E μ = _
  rw [run_bnd, run_see]
  cases k with
  | ref n => exact absurd rfl (h1 n)
  | _ => rfl

/-! ### walks -/
theorem run_forI {dg : D → DS → Option DS} {fb : DS → W Fl} {p : Mu → Prop} {R : Fl → Mu → Prop} (I : Nat → DS → Mu → Prop) : ∀ (xs : List D) (i : Nat) {ε : DS} {μ : Mu},
    (∀ (j : Nat) (x : D) ε μ, xs[j]? = some x → I (i + j) ε μ → p μ ∧ ∃ ε', dg x ε = some ε' ∧ (fb ε').run (fun fl μ' => match fl with
      | .nx ε1 => I (i + j + 1) ε1 μ'
      | .ct ε1 => I (i + j + 1) ε1 μ'
      | .bk ε1 => R (.nx ε1) μ'
      | .rt d => R (.rt d) μ') E μ) →
    (∀ ε μ, I (i + xs.length) ε μ → p μ ∧ R (.nx ε) μ) → I i ε μ → (forW dg fb p xs ε).run R E μ
  | [], i, ε, μ, _, fin, h => fin ε μ h
  | x :: xs, i, ε, μ, step, fin, h => by
    obtain ⟨hp, ε', e, r⟩ := step 0 x ε μ rfl h
    refine ⟨hp, ?_⟩
    show ((W.opt (dg x ε)).bnd fun ε1 => (fb ε1).bnd (forStep (forW dg fb p xs))).run R E μ
    rw [e]
    refine W.up (m := fb ε') r fun fl μ' q => ?_
    have go : ∀ ε1, I (i + 1) ε1 μ' → (forW dg fb p xs ε1).run R E μ' := fun ε1 h1 => run_forI I xs (i + 1) (fun j y ε2 μ2 ey h2 => by
      have := step (j + 1) y ε2 μ2 ey (by rw [show i + (j + 1) = i + 1 + j by omega]; exact h2)
      rw [show i + (j + 1) + 1 = i + 1 + j + 1 by omega] at this
      exact this) (fun ε2 μ2 h2 => fin ε2 μ2 (by rw [List.length_cons, show i + (xs.length + 1) = i + 1 + xs.length by omega]; exact h2)) h1
    cases fl with
    | nx ε1 => exact go ε1 q
    | ct ε1 => exact go ε1 q
    | bk ε1 => exact q
    | rt d => exact q
/-- a list comprehension that changes nothing -/
theorem run_lcP {dg : D → DS → Option DS} {ft : DS → W Bool} {fe : DS → W D} {ε : DS} {p : Mu → Prop} {t : D → Bool} {f : D → D} (hp : p μ) : ∀ {xs : List D} {R : List D → Mu → Prop},
    (∀ x ∈ xs, ∃ ε', dg x ε = some ε' ∧ (∀ Q' : Bool → Mu → Prop, (ft ε').run Q' E μ = Q' (t x) μ) ∧ (t x = true → ∀ Q' : D → Mu → Prop, (fe ε').run Q' E μ = Q' (f x) μ)) →
    (lcW dg ft fe ε p xs).run R E μ = R ((xs.filter t).map f) μ
  | [], R, _ => by
    show (p μ ∧ R [] μ) = R [] μ
    rw [propext (and_iff_right hp)]
  | x :: xs, R, h => by
    obtain ⟨ε', e, h1, h2⟩ := h x List.mem_cons_self
    have ih := fun R : List D → Mu → Prop => run_lcP (R := R) (xs := xs) hp (fun y hy => h y (List.mem_cons_of_mem _ hy))
    show (p μ ∧ ((W.opt (dg x ε)).bnd fun ε1 => W.bnd (ft ε1) fun b => if b = true then W.bnd (fe ε1) fun y => W.bnd (lcW dg ft fe ε p xs) fun ys => W.ret (y :: ys) else lcW dg ft fe ε p xs).run R E μ) = _
    rw [propext (and_iff_right hp), e]
    show (W.bnd (ft ε') fun b => if b = true then W.bnd (fe ε') fun y => W.bnd (lcW dg ft fe ε p xs) fun ys => W.ret (y :: ys) else lcW dg ft fe ε p xs).run R E μ = _
    rw [run_bnd, h1]
    cases ht : t x with
    | true =>
      rw [if_pos rfl, run_bnd, h2 ht, run_bnd, ih, List.filter_cons_of_pos ht]
      rfl
    | false =>
      rw [if_neg (by decide), ih, List.filter_cons_of_neg (by rw [ht]; decide)]
/-- .. one that may change the store -/
theorem run_lcI {dg : D → DS → Option DS} {ft : DS → W Bool} {fe : DS → W D} {ε : DS} {p : Mu → Prop} (I : List D → Mu → Prop) : ∀ (xs : List D) (acc : List D) {μ : Mu} {R : List D → Mu → Prop},
    (∀ x ∈ xs, ∀ acc μ, I acc μ → p μ ∧ ∃ ε', dg x ε = some ε' ∧ (ft ε').run (fun b μ1 => if b = true then (fe ε').run (fun y μ2 => I (acc ++ [y]) μ2) E μ1 else I acc μ1) E μ) →
    (∀ ys μ', I (acc ++ ys) μ' → p μ' ∧ (True → R ys μ')) → I acc μ → (lcW dg ft fe ε p xs).run R E μ
  | [], acc, μ, R, _, fin, h => by
    obtain ⟨h1, h2⟩ := fin [] μ (by rw [List.append_nil]; exact h)
    exact ⟨h1, h2 True.intro⟩
  | x :: xs, acc, μ, R, step, fin, h => by
    obtain ⟨hp, ε', e, r⟩ := step x List.mem_cons_self acc μ h
    refine ⟨hp, ?_⟩
    show ((W.opt (dg x ε)).bnd fun ε1 => W.bnd (ft ε1) fun b => if b = true then W.bnd (fe ε1) fun y => W.bnd (lcW dg ft fe ε p xs) fun ys => W.ret (y :: ys) else lcW dg ft fe ε p xs).run R E μ
    rw [e]
    refine W.up (m := ft ε') r fun b μ1 q => ?_
    cases b with
    | false =>
      exact run_lcI I xs acc (fun y hy => step y (List.mem_cons_of_mem _ hy)) fin q
    | true =>
      refine W.up (m := fe ε') q fun y μ2 q2 => ?_
      refine run_lcI I xs (acc ++ [y]) (fun z hz => step z (List.mem_cons_of_mem _ hz)) (fun ys μ' h' => ?_) q2
      rw [List.append_assoc] at h'
      obtain ⟨h1, h2⟩ := fin (y :: ys) μ' h'
      exact ⟨h1, fun _ => h2 True.intro⟩
/-- a dict comprehension that changes nothing -/
theorem dputL_len {ks : List (D × D)} {k v : D} : (dputL ks k v).length ≤ ks.length + 1 := by
  unfold dputL
  split
  · rw [List.length_map]
    exact Nat.le_succ _
  · rw [List.length_append]
    exact Nat.le_refl _
theorem run_dcP {kt : Bool} {dg : D → DS → Option DS} {ft : DS → W Bool} {fk fv : DS → W D} {ε : DS} {p : Mu → Prop} {t : D → Bool} {k v : D → D} (hp : p μ) : ∀ {xs : List D} {acc : List (D × D)} {R : List (D × D) → Mu → Prop}, acc.length + xs.length ≤ sizeLine →
    (∀ x ∈ xs, ∃ ε', dg x ε = some ε' ∧ (∀ Q' : Bool → Mu → Prop, (ft ε').run Q' E μ = Q' (t x) μ) ∧ (t x = true → (∀ Q' : D → Mu → Prop, (fk ε').run Q' E μ = Q' (k x) μ) ∧ (∀ Q' : D → Mu → Prop, (fv ε').run Q' E μ = Q' (v x) μ) ∧ okKey kt (k x) = true)) →
    (dcW kt dg ft fk fv ε p xs acc).run R E μ = R (dputs acc ((xs.filter t).map fun x => (k x, v x))) μ
  | [], acc, R, _, _ => by
    show (p μ ∧ R acc μ) = R acc μ
    rw [propext (and_iff_right hp)]
  | x :: xs, acc, R, hl, h => by
    obtain ⟨ε', e, h1, h2⟩ := h x List.mem_cons_self
    rw [List.length_cons] at hl
    have ih := fun (acc : List (D × D)) (hl : acc.length + xs.length ≤ sizeLine) (R : List (D × D) → Mu → Prop) => run_dcP (R := R) (xs := xs) hp hl (fun y hy => h y (List.mem_cons_of_mem _ hy))
    show (p μ ∧ ((W.opt (dg x ε)).bnd fun ε1 => W.bnd (ft ε1) fun b => if b = true then W.bnd (fk ε1) fun k => W.bnd (fv ε1) fun v => W.chk (okKey kt k = true ∧ acc.length < sizeLine) (dcW kt dg ft fk fv ε p xs (dputL acc k v)) else dcW kt dg ft fk fv ε p xs acc).run R E μ) = _
    rw [propext (and_iff_right hp), e]
    show (W.bnd (ft ε') fun b => if b = true then W.bnd (fk ε') fun k => W.bnd (fv ε') fun v => W.chk (okKey kt k = true ∧ acc.length < sizeLine) (dcW kt dg ft fk fv ε p xs (dputL acc k v)) else dcW kt dg ft fk fv ε p xs acc).run R E μ = _
    rw [run_bnd, h1]
    cases ht : t x with
    | true =>
      obtain ⟨hk, hv, ok⟩ := h2 ht
      have dl := @dputL_len acc (k x) (v x)
      rw [if_pos rfl, run_bnd, hk, run_bnd, hv, run_chk, propext (and_iff_right ⟨ok, by omega⟩), ih _ (by omega), List.filter_cons_of_pos ht]
      rfl
    | false =>
      rw [if_neg (by decide), ih _ (by omega), List.filter_cons_of_neg (by rw [ht]; decide)]
theorem dputs_app {acc ps qs : List (D × D)} : dputs acc (ps ++ qs) = dputs (dputs acc ps) qs := by
  unfold dputs
  rw [List.foldl_append]
theorem dputs_len : ∀ (ps acc : List (D × D)), (dputs acc ps).length ≤ acc.length + ps.length
  | [], acc => Nat.le_refl _
  | p :: ps, acc => by
    have h := dputs_len ps (dputL acc p.1 p.2)
    have dl := @dputL_len acc p.1 p.2
    show (dputs (dputL acc p.1 p.2) ps).length ≤ _
    rw [List.length_cons]
    omega
/-- unlike keys stand as they come -/
theorem dputs_new : ∀ (ps acc : List (D × D)), ((acc ++ ps).map (·.1)).Nodup → dputs acc ps = acc ++ ps
  | [], acc, _ => by rw [List.append_nil]; rfl
  | p :: ps, acc, h => by
    have nk : p.1 ∉ acc.map (·.1) := fun hm => by
      rw [List.map_append, List.nodup_append] at h
      exact h.2.2 _ hm _ (List.mem_cons_self) rfl
    have e : dputL acc p.1 p.2 = acc ++ [p] := by
      unfold dputL
      rw [if_neg]
      intro h'
      rw [List.any_eq_true] at h'
      obtain ⟨q, hq, e⟩ := h'
      exact nk (by rw [← of_decide_eq_true e]; exact List.mem_map_of_mem hq)
    show dputs (dputL acc p.1 p.2) ps = _
    rw [e, dputs_new ps (acc ++ [p]) (by rw [List.append_assoc]; exact h), List.append_assoc]
    rfl
theorem dval_mem : ∀ {ks : List (D × D)} {k v : D}, (ks.map (·.1)).Nodup → (k, v) ∈ ks → dval ks k = some v
  | [], _, _, _, h => by cases h
  | q :: ks, k, v, nd, h => by
    rw [List.map_cons, List.nodup_cons] at nd
    unfold dval
    by_cases e : q.1 = k
    · rw [List.find?_cons_of_pos (p := fun p : D × D => decide (p.1 = k)) (a := q) (decide_eq_true e)]
      rcases List.mem_cons.mp h with rfl | h
      · rfl
      · exact absurd (by rw [e]; exact List.mem_map_of_mem (f := fun p : D × D => p.1) h) nd.1
    · rw [List.find?_cons_of_neg (p := fun p : D × D => decide (p.1 = k)) (a := q) (fun z => e (of_decide_eq_true z))]
      rcases List.mem_cons.mp h with rfl | h
      · exact absurd rfl e
      · exact dval_mem nd.2 h
end
end DL

/-! shown data, draws -/
namespace DL
open PySem PySem.Spec PyProof.Rows L2 Kit X22

/-! ### how long a thing shows -/
def strN (i : Nat) : Str := Str.ofString (toString (i : Int))
theorem strN_cps (i : Nat) : (strN i).cps.toList = (Nat.toDigits 10 i).map Char.toNat := by
  unfold strN
  rw [signs_ofString]
  show (Nat.repr i).toList.map Char.toNat = _
  rw [Nat.repr_eq_ofList_toDigits, String.toList_ofList]
theorem digs_len : ∀ (k i : Nat), i < 10 ^ (k + 1) → (Nat.toDigits 10 i).length ≤ k + 1 ∧ 1 ≤ (Nat.toDigits 10 i).length
  | 0, i, h => by
    rw [Nat.toDigits_of_lt_base (by omega)]
    exact ⟨Nat.le_refl _, Nat.le_refl _⟩
  | k + 1, i, h => by
    by_cases h1 : i < 10
    · rw [Nat.toDigits_of_lt_base h1]
      exact ⟨by show 1 ≤ _; omega, Nat.le_refl _⟩
    · obtain ⟨a, b⟩ := digs_len k (i / 10) (by rw [Nat.pow_succ] at h; omega)
      rw [Nat.toDigits_of_base_le (by decide) (by omega), List.length_append]
      exact ⟨by show _ + 1 ≤ _; omega, by omega⟩
/-- a short text of plain signs -/
def okZ (z : Str) : Prop := z.length ≤ 20 ∧ ∀ c ∈ z.cps.toList, c < 256 ∧ c ≠ 32 ∧ c ≠ 10
theorem okZ_dec {z : Str} (h : (decide (z.length ≤ 20) && z.cps.toList.all fun c => decide (c < 256 ∧ c ≠ 32 ∧ c ≠ 10)) = true) : okZ z := by
  rw [Bool.and_eq_true, decide_eq_true_eq, List.all_eq_true] at h
  exact ⟨h.1, fun c hc => of_decide_eq_true (h.2 c hc)⟩
structure SR (t : D) (n L : Nat) : Prop where
  ok : ∃ p, py t = some p ∧ p.showable = true ∧ p.depth ≤ n ∧ p.shown.length + 2 ≤ L ∧ p.canLay0 = true
structure SRL (ts : List D) (n L : Nat) : Prop where
  ok : ∃ ps, pyL ts = some ps ∧ ps.length = ts.length ∧ PyData.showableAll ps = true ∧ PyData.depthAll ps ≤ n ∧ ((PyData.shownAll ps).map (·.length)).sum + 2 * ts.length ≤ L ∧ PyData.canLayAll0 ps = true
theorem shownAll_len : ∀ ts : List PyData, (PyData.shownAll ts).length = ts.length
  | [] => by simp [PyData.shownAll]
  | t :: ts => by
    rw [PyData.shownAll, List.length_cons, List.length_cons, shownAll_len ts]
theorem SRL.nil {n : Nat} : SRL [] n 0 := ⟨⟨[], by rw [pyL], rfl, by simp [PyData.showableAll], by simp [PyData.depthAll], by simp [PyData.shownAll], by rw [PyData.canLayAll0]⟩⟩
theorem SRL.cons {t : D} {ts : List D} {n L M : Nat} (h : SR t n L) (hs : SRL ts n M) : SRL (t :: ts) n (L + M) := by
  obtain ⟨p, a0, a1, a3, a4, a5⟩ := h.ok
  obtain ⟨ps, b0, bl, b1, b3, b4, b5⟩ := hs.ok
  refine ⟨p :: ps, by rw [pyL, a0, b0]; rfl, by rw [List.length_cons, List.length_cons, bl], ?_, ?_, ?_, ?_⟩
  · rw [PyData.showableAll, a1, b1]
    rfl
  · rw [PyData.depthAll]
    exact Nat.max_le.mpr ⟨a3, b3⟩
  · rw [PyData.shownAll, List.map_cons, List.sum_cons, List.length_cons]
    omega
  · rw [PyData.canLayAll0, a5, b5]
    rfl
theorem SRL.mono {ts : List D} {n m L M : Nat} (h : SRL ts n L) (hn : n ≤ m) (hl : L ≤ M) : SRL ts m M :=
  let ⟨ps, b0, bl, b1, b3, b4, b5⟩ := h.ok
  ⟨ps, b0, bl, b1, Nat.le_trans b3 hn, Nat.le_trans b4 hl, b5⟩
theorem SR.mono {t : D} {n m L M : Nat} (h : SR t n L) (hn : n ≤ m) (hl : L ≤ M) : SR t m M :=
  let ⟨p, a0, a1, a3, a4, a5⟩ := h.ok
  ⟨p, a0, a1, Nat.le_trans a3 hn, Nat.le_trans a4 hl, a5⟩
theorem SRL.tup {ts : List D} {n L : Nat} (h : SRL ts n L) : SR (.tup ts) (n + 1) (L + 5) := by
  obtain ⟨ps, b0, bl, b1, b3, b4, b5⟩ := h.ok
  refine ⟨.tuple ps, by rw [py, b0]; rfl, ?_, ?_, ?_, ?_⟩
  · rw [PyData.showable, b1]
  · rw [PyData.depth]
    omega
  · rw [PyData.shown]
    have := tupleText_len_le (PyData.shownAll ps)
    rw [shownAll_len] at this
    omega
  · rw [PyData.canLay0, b5]
theorem SR.str {z : Str} (h : okZ z) (n : Nat) : SR (.str z) n 204 := by
  refine ⟨.str z, by rw [py], ?_, ?_, ?_, ?_⟩
  · rw [PyData.showable]
  · rw [PyData.depth]
    omega
  · rw [PyData.shown]
    have := StrLaws.reprText_len z fun c hc => Nat.lt_trans (h.2 c hc).1 (by decide)
    have := h.1
    omega
  · rw [PyData.canLay0, PyData.strOk, ← Array.all_toList, List.all_eq_true]
    exact fun c hc => decide_eq_true (Nat.lt_trans (h.2 c hc).1 (by decide))
theorem SR.nat {i : Nat} (h : i ≤ 9999999) (n : Nat) : SR (.int (i : Int)) n 9 := by
  refine ⟨.int (i : Int), by rw [py], ?_, ?_, ?_, ?_⟩
  · rw [PyData.showable, decide_eq_true_eq]
    have h2 : ((i : Int).natAbs) < 2 ^ 24 := by omega
    rcases Nat.eq_zero_or_pos (i : Int).natAbs with e | e
    · rw [e]
      decide
    · have := (Nat.log2_lt (Nat.ne_of_gt e)).mpr h2
      omega
  · rw [PyData.depth]
    omega
  · rw [PyData.shown]
    have e : (strN i).length = (Nat.toDigits 10 i).length := by
      have e1 : (strN i).length = (strN i).cps.toList.length := Array.length_toList.symm
      rw [e1, strN_cps, List.length_map]
    have := digs_len 6 i (by omega)
    show (strN i).length + 2 ≤ 9
    omega
  · rw [PyData.canLay0]
theorem SR.int {i : Int} (h0 : 0 ≤ i) (h : i ≤ 9999999) (n : Nat) : SR (.int i) n 9 := by
  obtain ⟨k, rfl⟩ := Int.eq_ofNat_of_zero_le h0
  exact SR.nat (by omega) n
theorem SRL.of {n L : Nat} : ∀ {ts : List D}, (∀ t ∈ ts, SR t n L) → SRL ts n (L * ts.length)
  | [], _ => SRL.nil
  | t :: ts, h => by
    have := SRL.cons (h t List.mem_cons_self) (SRL.of (ts := ts) fun x hx => h x (List.mem_cons_of_mem _ hx))
    rw [List.length_cons, Nat.mul_succ, Nat.add_comm]
    exact this
theorem SR.many {n L M : Nat} {ts : List D} (h : ∀ t ∈ ts, SR t n L) (hm : L * ts.length + 5 ≤ M) : SR (.tup ts) (n + 1) M := (SRL.of h).tup.mono (Nat.le_refl _) hm
/-- what it shows -/
noncomputable def shw (d : D) : Str := (pyd d).shown
theorem run_repr {d : D} {n L : Nat} (h : SR d n L) (hs : isSeq d = true) (hn : n ≤ 150) (hL : L ≤ 16000000) {Q : D → Mu → Prop} {E : Exn → Mu → Prop} {μ : Mu} : (gRepr d).run Q E μ = Q (.str (shw d)) μ := by
  obtain ⟨p, a0, a1, a3, a4, _⟩ := h.ok
  have e : shw d = p.shown := by
    unfold shw pyd
    rw [a0]
    rfl
  have sl : sizeLine = 16777216 := sizeLine_eq
  unfold gRepr pyW
  rw [run_chk, propext (and_iff_right hs), run_bnd, a0]
  show ((p.showable = true ∧ p.depth ≤ 150 ∧ p.shown.length ≤ sizeLine) ∧ Q (.str p.shown) μ) = _
  rw [propext (and_iff_right ⟨a1, by omega, by omega⟩), e]

/-! ### draws -/
/-- the deck at 0, of which at most t were drawn -/
def Dk (μ : Mu) (t : Nat) : Prop := ∃ t', t' ≤ t ∧ μ[0]? = some (.deck t')
theorem Dk.mono {μ : Mu} {t u : Nat} (h : Dk μ t) (l : t ≤ u) : Dk μ u := let ⟨a, b, e⟩ := h; ⟨a, Nat.le_trans b l, e⟩
theorem Dk.of {μ μ' : Mu} {t : Nat} (h : Dk μ t) (e : μ'[0]? = μ[0]?) : Dk μ' t := let ⟨a, b, e1⟩ := h; ⟨a, b, e.trans e1⟩
theorem Dk.app {μ : Mu} {t : Nat} (h : Dk μ t) (more : Mu) : Dk (μ ++ more) t := by
  obtain ⟨a, b, e⟩ := h
  exact ⟨a, b, by rw [List.getElem?_append_left (List.getElem?_eq_some_iff.mp e).1]; exact e⟩
theorem Dk.set {μ : Mu} {t n : Nat} (h : Dk μ t) (hn : n ≠ 0) (m : MO) : Dk (μ.set n m) t := h.of (by rw [List.getElem?_set_ne hn])
theorem Dk.pos {μ : Mu} {t : Nat} (h : Dk μ t) : 0 < μ.length := let ⟨_, _, e⟩ := h; (List.getElem?_eq_some_iff.mp e).1
/-- but for the deck all is as it was -/
structure Mv (μ μ' : Mu) : Prop where
  len : μ'.length = μ.length
  at_ : ∀ n, n ≠ 0 → μ'[n]? = μ[n]?
theorem Mv.refl (μ : Mu) : Mv μ μ := ⟨rfl, fun _ _ => rfl⟩
theorem Mv.trans {a b c : Mu} (h : Mv a b) (g : Mv b c) : Mv a c := ⟨g.len.trans h.len, fun n hn => (g.at_ n hn).trans (h.at_ n hn)⟩
theorem run_draw {μ : Mu} {t : Nat} {k : Int} {Q : D → Mu → Prop} {E : Exn → Mu → Prop} (h : Dk μ t) (ht : t < 1000000000) (h1 : 1 ≤ k) (h2 : k < 2000000000000) (q : ∀ r : Int, 0 ≤ r → r < k → ∀ μ', Dk μ' (t + 1) → Mv μ μ' → Q (.int r) μ') : (F_draw [.ref 0, .int k]).run Q E μ := by
  obtain ⟨a, b, e⟩ := h
  show (match μ[0]? with
    | some (MO.deck t) => W.chk (1 ≤ k ∧ k < 2000000000000 ∧ t < 1000000000000) (W.any (fun r : Int => 0 ≤ r ∧ r < k) fun r => W.wr (fun μ : Mu => μ.set 0 (MO.deck (t + 1))) (W.ret (D.int r)))
    | _ => W.fail).run Q E μ
  rw [e]
  refine ⟨⟨h1, h2, by omega⟩, fun r hr => ?_⟩
  exact q r hr.1 hr.2 _ ⟨a + 1, by omega, by rw [List.getElem?_set_self (List.getElem?_eq_some_iff.mp e).1]⟩ ⟨List.length_set, fun n hn => List.getElem?_set_ne (fun z => hn z.symm)⟩
theorem run_deck {ns : List Int} {Q : D → Mu → Prop} {E : Exn → Mu → Prop} (h1 : ns.length ≤ 63) (h2 : ∀ z ∈ ns, Builtin.Int.intBits z ≤ 1048576) (q : Q (.ref 0) [.deck 0, .hid]) : (F_deck [.scr ns]).run Q E [] := ⟨⟨h1, h2⟩, q⟩
end DL
namespace DL
open PySem PySem.Spec PyProof.Rows L2 Kit X22
section
variable {Q : D → Mu → Prop} {E : Exn → Mu → Prop} {μ : Mu}
/-! ### a list of the store -/
theorem run_append {n : Nat} {y : D} {xs : List D} (h : μ[n]? = some (.lst xs)) (hl : xs.length < sizeLine) : (gAppend (.ref n) [y]).run Q E μ = Q .non (μ.set n (.lst (xs ++ [y]))) := by
  show (match μ[n]? with
    | some (MO.lst xs) => W.chk (xs.length < sizeLine) (putM n (.lst (xs ++ [y])) (W.ret .non))
    | _ => W.fail).run Q E μ = _
  rw [h]
  show (xs.length < sizeLine ∧ Q .non (μ.set n (.lst (xs ++ [y])))) = _
  rw [propext (and_iff_right hl)]
theorem run_met {g : D → List D → W D} {f : DS → W D} {fa : DS → W (List D)} {ε : DS} {n : Nat} {xs : List D} (hf : f ε = W.ret (.ref n)) (h : μ[n]? = some (.lst xs)) : (dMet g f fa ε).run Q E μ = (fa ε).run (fun ds μ1 => (g (.ref n) ds).run Q E μ1) E μ := by
  unfold dMet
  rw [run_bnd, hf, run_ret, run_bnd, run_see, show look μ (.ref n) = some (.lst xs) from (show lookM μ[n]? = _ by rw [h]; rfl)]
  rfl
theorem run_met0 {g : D → List D → W D} {f : DS → W D} {fa : DS → W (List D)} {ε : DS} {xs : List D} (hf : f ε = W.ret (.lst xs)) : (dMet g f fa ε).run Q E μ = (fa ε).run (fun ds μ1 => (g (.lst xs) ds).run Q E μ1) E μ := by
  unfold dMet
  rw [run_bnd, hf]
  rfl
theorem run_popAt {n : Nat} {i : Int} {j : Nat} {xs : List D} {y : D} (h : μ[n]? = some (.lst xs)) (hi : i = j) (hy : xs[j]? = some y) (hl : xs.length < 2 ^ 62) : (gPopAt (.ref n) [.int i]).run Q E μ = Q y (μ.set n (.lst (xs.eraseIdx j))) := by
  subst hi
  have lt := (List.getElem?_eq_some_iff.mp hy).1
  show (match μ[n]? with
    | some (MO.lst xs) => W.chk (0 ≤ (j : Int) ∧ (j : Int) < xs.length ∧ xs.length < 2 ^ 62) (W.bnd (W.opt xs[(j : Int).toNat]?) fun y => putM n (.lst (xs.eraseIdx (j : Int).toNat)) (W.ret y))
    | _ => W.fail).run Q E μ = _
  rw [h]
  show ((0 ≤ (j : Int) ∧ (j : Int) < xs.length ∧ xs.length < 2 ^ 62) ∧ (W.bnd (W.opt xs[(j : Int).toNat]?) fun y => putM n (.lst (xs.eraseIdx (j : Int).toNat)) (W.ret y)).run Q E μ) = _
  rw [propext (and_iff_right (⟨by omega, by omega, hl⟩ : (0 ≤ (j : Int) ∧ (j : Int) < xs.length ∧ xs.length < 2 ^ 62))), Int.toNat_natCast, hy]
  rfl
theorem run_frz {n : Nat} {xs : List D} (h : μ[n]? = some (.lst xs)) : (gFrz (.ref n)).run Q E μ = Q (.lst xs) (μ.set n .gone) := by
  show (match μ[n]? with
    | some (MO.lst xs) => putM n .gone (W.ret (.lst xs))
    | _ => W.fail).run Q E μ = _
  rw [h]
  rfl
theorem get_last {m : MO} : (μ ++ [m])[μ.length]? = some m := by
  rw [List.getElem?_append_right (Nat.le_refl _), Nat.sub_self]
  rfl
theorem set_last {m m' : MO} : (μ ++ [m]).set μ.length m' = μ ++ [m'] := by
  rw [List.set_append_right _ _ (Nat.le_refl _), Nat.sub_self]
  rfl
end
end DL
namespace DL
open PySem PySem.Spec PyProof.Rows L2 Kit X22
/-! ### slices -/
theorem cutD_to {α : Type} (xs : List α) (k : Nat) : DL.cutD xs none (some (k : Int)) = xs.take k := by
  unfold DL.cutD
  rw [HT.sIx_none, show HT.sIx xs.length xs.length (some (k : Int)) = min k xs.length from HT.sIx_nat _ _ k, List.drop_zero, Nat.sub_zero]
  exact (List.take_eq_take_min).symm
theorem cutD_from {α : Type} (xs : List α) (k : Nat) : DL.cutD xs (some (k : Int)) none = xs.drop k := by
  unfold DL.cutD
  rw [HT.sIx_none, show HT.sIx xs.length 0 (some (k : Int)) = min k xs.length from HT.sIx_nat _ _ k]
  by_cases h : k ≤ xs.length
  · rw [Nat.min_eq_left h]
    exact List.take_of_length_le (by rw [List.length_drop]; exact Nat.le_refl _)
  · rw [Nat.min_eq_right (by omega), List.drop_of_length_le (Nat.le_refl _), List.drop_of_length_le (by omega), List.take_nil]
theorem cutD_mid {α : Type} (xs : List α) (j k : Nat) (h : j ≤ k) : DL.cutD xs (some (j : Int)) (some (k : Int)) = (xs.drop j).take (k - j) := by
  unfold DL.cutD
  rw [show HT.sIx xs.length xs.length (some (k : Int)) = min k xs.length from HT.sIx_nat _ _ k, show HT.sIx xs.length 0 (some (j : Int)) = min j xs.length from HT.sIx_nat _ _ j]
  by_cases hj : j ≤ xs.length
  · rw [Nat.min_eq_left hj]
    by_cases hk : k ≤ xs.length
    · rw [Nat.min_eq_left hk]
    · rw [Nat.min_eq_right (by omega), List.take_of_length_le (by rw [List.length_drop]; exact Nat.le_refl _), List.take_of_length_le (by rw [List.length_drop]; omega)]
  · have a : min j xs.length = xs.length := Nat.min_eq_right (by omega)
    have b : min k xs.length = xs.length := Nat.min_eq_right (by omega)
    rw [a, b, List.drop_of_length_le (Nat.le_refl _), List.drop_of_length_le (by omega), List.take_nil, List.take_nil]
theorem cutD_init {α : Type} (xs : List α) (h : 1 ≤ xs.length) : DL.cutD xs none (some (-1)) = xs.dropLast := by
  unfold DL.cutD
  rw [HT.sIx_none, List.drop_zero, List.dropLast_eq_take]
  have e : HT.sIx xs.length xs.length (some (-1)) = xs.length - 1 := by
    unfold HT.sIx
    simp
    omega
  rw [e, Nat.sub_zero]
end DL
namespace DL
open PySem PySem.Spec PyProof.Rows L2 Kit X22
section
variable {E : Exn → Mu → Prop} {μ : Mu} {α β : Type}
/-! ### comprehensions over what stands for things of Lean's own -/
theorem run_lcA {dg : D → DS → Option DS} {ft : DS → W Bool} {fe : DS → W D} {ε : DS} {p : Mu → Prop} {e : α → D} {t : α → Bool} {f : α → D} (hp : p μ) : ∀ {as : List α} {R : List D → Mu → Prop},
    (∀ a ∈ as, ∃ ε', dg (e a) ε = some ε' ∧ (∀ Q' : Bool → Mu → Prop, (ft ε').run Q' E μ = Q' (t a) μ) ∧ (t a = true → ∀ Q' : D → Mu → Prop, (fe ε').run Q' E μ = Q' (f a) μ)) →
    (lcW dg ft fe ε p (as.map e)).run R E μ = R ((as.filter t).map f) μ
  | [], R, _ => by
    show (p μ ∧ R [] μ) = R [] μ
    rw [propext (and_iff_right hp)]
  | a :: as, R, h => by
    obtain ⟨ε', e1, h1, h2⟩ := h a List.mem_cons_self
    have ih := fun R : List D → Mu → Prop => run_lcA (R := R) (as := as) hp (fun y hy => h y (List.mem_cons_of_mem _ hy))
    show (p μ ∧ ((W.opt (dg (e a) ε)).bnd fun ε1 => W.bnd (ft ε1) fun b => if b = true then W.bnd (fe ε1) fun y => W.bnd (lcW dg ft fe ε p (as.map e)) fun ys => W.ret (y :: ys) else lcW dg ft fe ε p (as.map e)).run R E μ) = _
    rw [propext (and_iff_right hp), e1]
    show (W.bnd (ft ε') fun b => if b = true then W.bnd (fe ε') fun y => W.bnd (lcW dg ft fe ε p (as.map e)) fun ys => W.ret (y :: ys) else lcW dg ft fe ε p (as.map e)).run R E μ = _
    rw [run_bnd, h1]
    cases ht : t a with
    | true =>
      rw [if_pos rfl, run_bnd, h2 ht, run_bnd, ih, List.filter_cons_of_pos ht]
      rfl
    | false =>
      rw [if_neg (by decide), ih, List.filter_cons_of_neg (by rw [ht]; decide)]
theorem run_dcA {kt : Bool} {dg : D → DS → Option DS} {ft : DS → W Bool} {fk fv : DS → W D} {ε : DS} {p : Mu → Prop} {e : α → D} {t : α → Bool} {k v : α → D} (hp : p μ) : ∀ {as : List α} {acc : List (D × D)} {R : List (D × D) → Mu → Prop}, acc.length + as.length ≤ sizeLine →
    (∀ x ∈ as, ∃ ε', dg (e x) ε = some ε' ∧ (∀ Q' : Bool → Mu → Prop, (ft ε').run Q' E μ = Q' (t x) μ) ∧ (t x = true → (∀ Q' : D → Mu → Prop, (fk ε').run Q' E μ = Q' (k x) μ) ∧ (∀ Q' : D → Mu → Prop, (fv ε').run Q' E μ = Q' (v x) μ) ∧ okKey kt (k x) = true)) →
    (dcW kt dg ft fk fv ε p (as.map e) acc).run R E μ = R (dputs acc ((as.filter t).map fun x => (k x, v x))) μ
  | [], acc, R, _, _ => by
    show (p μ ∧ R acc μ) = R acc μ
    rw [propext (and_iff_right hp)]
  | x :: xs, acc, R, hl, h => by
    obtain ⟨ε', e1, h1, h2⟩ := h x List.mem_cons_self
    rw [List.length_cons] at hl
    have ih := fun (acc : List (D × D)) (hl : acc.length + xs.length ≤ sizeLine) (R : List (D × D) → Mu → Prop) => run_dcA (R := R) (as := xs) hp hl (fun y hy => h y (List.mem_cons_of_mem _ hy))
    show (p μ ∧ ((W.opt (dg (e x) ε)).bnd fun ε1 => W.bnd (ft ε1) fun b => if b = true then W.bnd (fk ε1) fun k => W.bnd (fv ε1) fun v => W.chk (okKey kt k = true ∧ acc.length < sizeLine) (dcW kt dg ft fk fv ε p (xs.map e) (dputL acc k v)) else dcW kt dg ft fk fv ε p (xs.map e) acc).run R E μ) = _
    rw [propext (and_iff_right hp), e1]
    show (W.bnd (ft ε') fun b => if b = true then W.bnd (fk ε') fun k => W.bnd (fv ε') fun v => W.chk (okKey kt k = true ∧ acc.length < sizeLine) (dcW kt dg ft fk fv ε p (xs.map e) (dputL acc k v)) else dcW kt dg ft fk fv ε p (xs.map e) acc).run R E μ = _
    rw [run_bnd, h1]
    cases ht : t x with
    | true =>
      obtain ⟨hk, hv, ok⟩ := h2 ht
      have dl := @dputL_len acc (k x) (v x)
      rw [if_pos rfl, run_bnd, hk, run_bnd, hv, run_chk, propext (and_iff_right ⟨ok, by omega⟩), ih _ (by omega), List.filter_cons_of_pos ht]
      rfl
    | false =>
      rw [if_neg (by decide), ih _ (by omega), List.filter_cons_of_neg (by rw [ht]; decide)]
/-- two clauses, without tests -/
theorem run_dc2A {kt : Bool} {dg dg1 : D → DS → Option DS} {vs1 : List Nat} {fi1 : DS → W Itm} {fk fv : DS → W D} {ε : DS} {p : Mu → Prop} {e : α → D} {e1 : α → β → D} {ys : α → List β} {k v : α → β → D} (hp : p μ) : ∀ {as : List α} {acc : List (D × D)} {R : List (D × D) → Mu → Prop}, acc.length + (as.map fun a => (ys a).length).sum ≤ sizeLine →
    (∀ x ∈ as, ∃ ε', dg (e x) ε = some ε' ∧ (∀ Q' : Itm → Mu → Prop, (fi1 ε').run Q' E μ = Q' (itm ((ys x).map (e1 x))) μ) ∧ ∀ y ∈ ys x, ∃ ε2, dg1 (e1 x y) (wipeD ε' vs1) = some ε2 ∧ (∀ Q' : D → Mu → Prop, (fk ε2).run Q' E μ = Q' (k x y) μ) ∧ (∀ Q' : D → Mu → Prop, (fv ε2).run Q' E μ = Q' (v x y) μ) ∧ okKey kt (k x y) = true) →
    (dc2W kt dg dTrue vs1 fi1 dg1 dTrue fk fv ε p (as.map e) acc).run R E μ = R (dputs acc (as.flatMap fun x => (ys x).map fun y => (k x y, v x y))) μ
  | [], acc, R, _, _ => by
    show (p μ ∧ R acc μ) = R acc μ
    rw [propext (and_iff_right hp)]
  | x :: xs, acc, R, hl, h => by
    obtain ⟨ε', h0, h1, h2⟩ := h x List.mem_cons_self
    rw [List.map_cons, List.sum_cons] at hl
    have ih := fun (acc : List (D × D)) (hl : acc.length + (xs.map fun a => (ys a).length).sum ≤ sizeLine) (R : List (D × D) → Mu → Prop) => run_dc2A (R := R) (as := xs) hp hl (fun y hy => h y (List.mem_cons_of_mem _ hy))
    show (p μ ∧ ((W.opt (dg (e x) ε)).bnd fun ε1 => W.bnd (dTrue ε1) fun b => if b = true then W.bnd (fi1 ε1) fun u => W.bnd (dcW kt dg1 dTrue fk fv (wipeD ε1 vs1) u.inv u.xs acc) fun acc1 => dc2W kt dg dTrue vs1 fi1 dg1 dTrue fk fv ε p (xs.map e) acc1 else dc2W kt dg dTrue vs1 fi1 dg1 dTrue fk fv ε p (xs.map e) acc).run R E μ) = _
    rw [propext (and_iff_right hp), h0]
    show (W.bnd (fi1 ε') fun u => W.bnd (dcW kt dg1 dTrue fk fv (wipeD ε' vs1) u.inv u.xs acc) fun acc1 => dc2W kt dg dTrue vs1 fi1 dg1 dTrue fk fv ε p (xs.map e) acc1).run R E μ = _
    rw [run_bnd, h1, run_bnd]
    show (dcW kt dg1 dTrue fk fv (wipeD ε' vs1) (fun _ => True) ((ys x).map (e1 x)) acc).run _ E μ = _
    rw [run_dcA (e := e1 x) (t := fun _ => true) (k := k x) (v := v x) True.intro (by omega) fun y hy => by
      obtain ⟨ε2, g0, g1, g2, g3⟩ := h2 y hy
      exact ⟨ε2, g0, fun _ => rfl, fun _ => ⟨g1, g2, g3⟩⟩]
    rw [List.filter_eq_self.mpr (fun _ _ => rfl)]
    have dl := dputs_len ((ys x).map fun y => (k x y, v x y)) acc
    rw [List.length_map] at dl
    rw [ih _ (by omega), List.flatMap_cons, dputs_app]
end
end DL
namespace DL
open PySem PySem.Spec PyProof.Rows L2 Kit X22
/-! ### what a dict holds behind a put -/
theorem find_map {k v : D} {a : D} : ∀ ks : List (D × D), (dval (ks.map fun p => if p.1 = a then (p.1, v) else p) k) = if a = k then (if (ks.any fun p => decide (p.1 = k)) = true then some v else none) else dval ks k
  | [] => by
    by_cases h : a = k
    · rw [if_pos h]
      rfl
    · rw [if_neg h]
      rfl
  | q :: ks => by
    have ih := find_map (k := k) (v := v) (a := a) ks
    unfold dval at ih ⊢
    rw [List.map_cons]
    have e1 : (if q.1 = a then (q.1, v) else q).1 = q.1 := by split <;> rfl
    by_cases hq : q.1 = k
    · rw [List.find?_cons_of_pos (p := fun p : D × D => decide (p.1 = k)) (a := if q.1 = a then (q.1, v) else q) (by rw [e1]; exact decide_eq_true hq), List.find?_cons_of_pos (p := fun p : D × D => decide (p.1 = k)) (a := q) (decide_eq_true hq)]
      by_cases h : a = k
      · rw [if_pos h, if_pos (hq.trans h.symm), if_pos (by rw [List.any_cons, decide_eq_true hq, Bool.true_or])]
        rfl
      · rw [if_neg h, if_neg (fun z => h (z.symm.trans hq))]
    · rw [List.find?_cons_of_neg (p := fun p : D × D => decide (p.1 = k)) (a := if q.1 = a then (q.1, v) else q) (by rw [e1]; exact fun z => hq (of_decide_eq_true z)), List.find?_cons_of_neg (p := fun p : D × D => decide (p.1 = k)) (a := q) (fun z => hq (of_decide_eq_true z)), ih, List.any_cons, decide_eq_false hq, Bool.false_or]
theorem dval_app {k : D} : ∀ {ks ls : List (D × D)}, dval (ks ++ ls) k = match dval ks k with
    | some v => some v
    | none => dval ls k
  | [], _ => rfl
  | q :: ks, ls => by
    have ih := @dval_app k ks ls
    unfold dval at ih ⊢
    by_cases hq : q.1 = k
    · rw [List.cons_append, List.find?_cons_of_pos (p := fun p : D × D => decide (p.1 = k)) (a := q) (decide_eq_true hq), List.find?_cons_of_pos (p := fun p : D × D => decide (p.1 = k)) (a := q) (decide_eq_true hq)]
      rfl
    · rw [List.cons_append, List.find?_cons_of_neg (p := fun p : D × D => decide (p.1 = k)) (a := q) (fun z => hq (of_decide_eq_true z)), List.find?_cons_of_neg (p := fun p : D × D => decide (p.1 = k)) (a := q) (fun z => hq (of_decide_eq_true z)), ih]
theorem dval_none {k : D} : ∀ {ks : List (D × D)}, (ks.any fun p => decide (p.1 = k)) = false → dval ks k = none
  | [], _ => rfl
  | q :: ks, h => by
    rw [List.any_cons, Bool.or_eq_false_iff] at h
    have ih := dval_none (ks := ks) h.2
    unfold dval at ih ⊢
    rw [List.find?_cons_of_neg (p := fun p : D × D => decide (p.1 = k)) (a := q) (by rw [h.1]; decide), ih]
theorem dval_dputL {ks : List (D × D)} {a b k : D} : dval (dputL ks a b) k = if a = k then some b else dval ks k := by
  unfold dputL
  by_cases h : (ks.any fun p => decide (p.1 = a)) = true
  · rw [if_pos h, find_map]
    by_cases e : a = k
    · subst e
      rw [if_pos rfl, if_pos rfl, if_pos h]
    · rw [if_neg e, if_neg e]
  · rw [if_neg h, dval_app]
    by_cases e : a = k
    · subst e
      rw [dval_none (by cases hx : (ks.any fun p => decide (p.1 = a)) with | false => rfl | true => exact absurd hx h), if_pos rfl]
      show Option.map _ (List.find? _ [(a, b)]) = _
      rw [List.find?_cons_of_pos (p := fun p : D × D => decide (p.1 = a)) (a := (a, b)) (decide_eq_true rfl)]
      rfl
    · rw [if_neg e]
      cases hv : dval ks k with
      | some v => rfl
      | none =>
        show Option.map _ (List.find? _ [(a, b)]) = _
        rw [List.find?_cons_of_neg (p := fun p : D × D => decide (p.1 = k)) (a := (a, b)) (fun z => e (of_decide_eq_true z))]
        rfl
/-- all that is put at k is v, and something is -/
theorem dval_dputs {k v : D} : ∀ (ps : List (D × D)) {acc : List (D × D)}, (dval acc k = some v ∨ ∃ x ∈ ps, x.1 = k) → (∀ x ∈ ps, x.1 = k → x.2 = v) → dval (dputs acc ps) k = some v
  | [], _, h, _ => h.elim id fun ⟨x, hx, _⟩ => by cases hx
  | p :: ps, acc, h, h2 => by
    show dval (dputs (dputL acc p.1 p.2) ps) k = _
    refine dval_dputs ps ?_ fun x hx => h2 x (List.mem_cons_of_mem _ hx)
    rw [dval_dputL]
    by_cases e : p.1 = k
    · rw [if_pos e, h2 p List.mem_cons_self e]
      exact .inl rfl
    · rw [if_neg e]
      refine h.imp id fun ⟨x, hx, ex⟩ => ?_
      rcases List.mem_cons.mp hx with rfl | hx
      · exact absurd ex e
      · exact ⟨x, hx, ex⟩
end DL

namespace K34
open PySem PySem.Spec PyProof.Rows L2 Kit DL
/-! ### gates, and what they are in a beat -/
inductive Gt where
  | inp (p : Str) (k : Nat) | iz (b : Int) | box (c : Str) (b : Int) (f : Nat) | nt (a : Nat) | two (w : Str) (a c : Nat)
abbrev nD (n : Nat) : D := .int (n : Int)
def dG : Gt → D
  | .inp p k => .tup [.str "in", .str p, nD k]
  | .iz b => .tup [.str "is", .int b]
  | .box c b f => .tup [.str "box", .str c, .int b, nD f]
  | .nt a => .tup [.str "not", nD a]
  | .two w a c => .tup [.str w, nD a, nD c]
def bop (w : Str) (x y : Int) : Int := if w = "and" then Builtin.bitAnd x y else if w = "or" then Builtin.bitOr x y else Builtin.bitXor x y
def gv (bx : Nat → Int) (kn : Str → Nat → Int) (prev : List Int) (i : Nat) : Gt → Int
  | .inp p k => kn p k
  | .iz b => b
  | .box _ _ _ => bx i
  | .nt a => 1 - prev.getD a 0
  | .two w a c => bop w (prev.getD a 0) (prev.getD c 0)
def stp (bx : Nat → Int) (kn : Str → Nat → Int) : List Gt → List Int → List Int
  | [], acc => acc
  | g :: gs, acc => stp bx kn gs (acc ++ [gv bx kn acc acc.length g])
theorem stp_app {bx : Nat → Int} {kn : Str → Nat → Int} : ∀ {a b : List Gt} {acc : List Int}, stp bx kn (a ++ b) acc = stp bx kn b (stp bx kn a acc)
  | [], _, _ => rfl
  | g :: a, b, acc => stp_app (a := a)
theorem stp_len {bx : Nat → Int} {kn : Str → Nat → Int} : ∀ {a : List Gt} {acc : List Int}, (stp bx kn a acc).length = acc.length + a.length
  | [], _ => rfl
  | g :: a, acc => by
    rw [stp, stp_len, List.length_append, List.length_cons, List.length_cons, List.length_nil]
    omega
def b01 (x : Int) : Prop := x = 0 ∨ x = 1
instance (x : Int) : Decidable (b01 x) := inferInstanceAs (Decidable (x = 0 ∨ x = 1))
/-- a gate's right, at place i among n, by the bits Ks of ins -/
def okG (Ks : List (Str × Nat)) (n i : Nat) : Gt → Prop
  | .inp p k => (p, k) ∈ Ks
  | .iz b => b01 b
  | .box c b f => (c = "c" ∨ c = "d") ∧ b01 b ∧ f < n
  | .nt a => a < i
  | .two w a c => (w = "and" ∨ w = "or" ∨ w = "xor") ∧ a < i ∧ c < i
def okGs (Ks : List (Str × Nat)) (gs : List Gt) : Prop := ∀ (i : Nat) g, gs[i]? = some g → okG Ks gs.length i g
structure Vals01 (Ks : List (Str × Nat)) (bx : Nat → Int) (kn : Str → Nat → Int) : Prop where
  bx : ∀ i, b01 (bx i)
  kn : ∀ p k, (p, k) ∈ Ks → b01 (kn p k)
theorem b01_bop {w : Str} {x y : Int} (hx : b01 x) (hy : b01 y) : b01 (bop w x y) := by
  unfold bop b01
  rcases hx with rfl | rfl <;> rcases hy with rfl | rfl <;> split <;> (try split) <;> decide
theorem getD_01 {l : List Int} (h : ∀ x ∈ l, b01 x) (i : Nat) : b01 (l.getD i 0) := by
  rw [List.getD_eq_getElem?_getD]
  cases e : l[i]? with
  | none => exact .inl rfl
  | some x => exact h x (List.mem_of_getElem? e)
theorem gv_01 {Ks : List (Str × Nat)} {bx : Nat → Int} {kn : Str → Nat → Int} (V : Vals01 Ks bx kn) {prev : List Int} (h : ∀ x ∈ prev, b01 x) {n i : Nat} {g : Gt} (ok : okG Ks n i g) : b01 (gv bx kn prev i g) := by
  cases g with
  | inp p k => exact V.kn p k ok
  | iz b => exact ok
  | box c b f => exact V.bx i
  | nt a =>
    show b01 (1 - prev.getD a 0)
    rcases getD_01 h a with e | e <;> rw [e] <;> decide
  | two w a c => exact b01_bop (getD_01 h a) (getD_01 h c)
theorem stp_take {bx : Nat → Int} {kn : Str → Nat → Int} {gs : List Gt} {j : Nat} {g : Gt} (e : gs[j]? = some g) : stp bx kn (gs.take (j + 1)) [] = stp bx kn (gs.take j) [] ++ [gv bx kn (stp bx kn (gs.take j) []) j g] := by
  have lt := (List.getElem?_eq_some_iff.mp e).1
  have et : gs.take (j + 1) = gs.take j ++ [g] := by
    rw [List.take_succ, e]
    rfl
  have el : (stp bx kn (gs.take j) []).length = j := by
    rw [stp_len, List.length_take, List.length_nil]
    omega
  rw [et, stp_app, stp, stp, el]
theorem stp_01 {Ks : List (Str × Nat)} {bx : Nat → Int} {kn : Str → Nat → Int} (V : Vals01 Ks bx kn) {gs : List Gt} (ok : okGs Ks gs) : ∀ j, j ≤ gs.length → ∀ x ∈ stp bx kn (gs.take j) [], b01 x
  | 0, _ => fun x hx => by simp [stp] at hx
  | j + 1, hj => fun x hx => by
    have lt : j < gs.length := hj
    rw [stp_take (List.getElem?_eq_getElem lt)] at hx
    have ih := stp_01 V ok j (Nat.le_of_lt lt)
    rcases List.mem_append.mp hx with h | h
    · exact ih x h
    · rw [List.mem_singleton.mp h]
      exact gv_01 V ih (ok j _ (List.getElem?_eq_getElem lt))
theorem not_xor {x : Int} (h : b01 x) : Builtin.bitXor x 1 = 1 - x := by rcases h with rfl | rfl <;> decide
end K34

namespace K34
open PySem PySem.Spec PyProof.Rows L2 Kit DL
section
variable {Q : D → Mu → Prop} {E : Exn → Mu → Prop} {μ : Mu}
/-! ### words -/
theorem w_nn : decide (("not" : Str) = "not") = true := by decide +kernel
theorem w_an : decide (("and" : Str) = "not") = false := by decide +kernel
theorem w_on : decide (("or" : Str) = "not") = false := by decide +kernel
theorem w_xn : decide (("xor" : Str) = "not") = false := by decide +kernel
theorem w_aa : decide (("and" : Str) = "and") = true := by decide +kernel
theorem w_oa : decide (("or" : Str) = "and") = false := by decide +kernel
theorem w_xa : decide (("xor" : Str) = "and") = false := by decide +kernel
theorem w_oo : decide (("or" : Str) = "or") = true := by decide +kernel
theorem w_xo : decide (("xor" : Str) = "or") = false := by decide +kernel
theorem bop_a {x y : Int} : bop "and" x y = Builtin.bitAnd x y := if_pos rfl
theorem bop_o {x y : Int} : bop "or" x y = Builtin.bitOr x y := by
  unfold bop
  rw [if_neg (of_decide_eq_false w_oa), if_pos rfl]
theorem bop_x {x y : Int} : bop "xor" x y = Builtin.bitXor x y := by
  unfold bop
  rw [if_neg (of_decide_eq_false w_xa), if_neg (of_decide_eq_false w_xo)]
theorem two_sz : (2 : Nat) ≤ sizeLine := by decide
theorem run_told_not {x : Int} (hx : b01 x) : (F_told_of_feeds [.str "not", .lst [.int x], .int 1]).run Q E μ = Q (.int (1 - x)) μ := by
  simp only [F_told_of_feeds, B_told_of_feeds, defW, sSeq, sIf, sSet, sRet, sRetN, sExpr, sPar, two, sFor, sRaise, dB, dOp, dUn, dV, dC, dIfE, dM1, dJoin.isS, dSl, dPart, dNoPart, dNot, dAnd, dOr, dNotV, dOrV, dAndV, dChain, dCall, dOwn, dTup, dLst, dLstM, dMet, isL, aCons, aNil, dTru, slot, startD, iOf, its, itsOf, itm, run_bnd, run_ret, run_fail, run_chk, run_rd, run_wr, run_any, run_nox, run_exn, run_tag, see, look, lookM, W.opt, s1, s2, c1, c2, asB, List.map, List.replicate, List.append_eq, List.cons_append, List.nil_append, List.set, andThen, endF, sNil, wipeD, dTrue, gE2, run_atT, run_atL, atI_0, atI_1, atI_2, atI_3, atI_4, run_optS, if_true, if_false, Bool.false_eq_true, decide_true, decide_false, Bool.not_true, Bool.not_false, true_and, and_true, gXorI, gOrI, gAndI, gShl, gShr, DL.gSub, gNeg, oI0, oI, gLt, gGt, gLe, gGe, gOrd, w_nn, not_xor hx]
theorem run_told_two {w : Str} {x y : Int} (hw : w = "and" ∨ w = "or" ∨ w = "xor") : (F_told_of_feeds [.str w, .lst [.int x, .int y], .int 1]).run Q E μ = Q (.int (bop w x y)) μ := by
  rcases hw with rfl | rfl | rfl
  · simp only [F_told_of_feeds, B_told_of_feeds, defW, sSeq, sIf, sSet, sRet, sRetN, sExpr, sPar, two, sFor, sRaise, dB, dOp, dUn, dV, dC, dIfE, dM1, dJoin.isS, dSl, dPart, dNoPart, dNot, dAnd, dOr, dNotV, dOrV, dAndV, dChain, dCall, dOwn, dTup, dLst, dLstM, dMet, isL, aCons, aNil, dTru, slot, startD, iOf, its, itsOf, itm, run_bnd, run_ret, run_fail, run_chk, run_rd, run_wr, run_any, run_nox, run_exn, run_tag, see, look, lookM, W.opt, s1, s2, c1, c2, asB, List.map, List.replicate, List.append_eq, List.cons_append, List.nil_append, List.set, andThen, endF, sNil, wipeD, dTrue, gE2, run_atT, run_atL, atI_0, atI_1, atI_2, atI_3, atI_4, run_optS, if_true, if_false, Bool.false_eq_true, decide_true, decide_false, Bool.not_true, Bool.not_false, true_and, and_true, gXorI, gOrI, gAndI, gShl, gShr, DL.gSub, gNeg, oI0, oI, gLt, gGt, gLe, gGe, gOrd, w_an, w_aa, bop_a]
  · simp only [F_told_of_feeds, B_told_of_feeds, defW, sSeq, sIf, sSet, sRet, sRetN, sExpr, sPar, two, sFor, sRaise, dB, dOp, dUn, dV, dC, dIfE, dM1, dJoin.isS, dSl, dPart, dNoPart, dNot, dAnd, dOr, dNotV, dOrV, dAndV, dChain, dCall, dOwn, dTup, dLst, dLstM, dMet, isL, aCons, aNil, dTru, slot, startD, iOf, its, itsOf, itm, run_bnd, run_ret, run_fail, run_chk, run_rd, run_wr, run_any, run_nox, run_exn, run_tag, see, look, lookM, W.opt, s1, s2, c1, c2, asB, List.map, List.replicate, List.append_eq, List.cons_append, List.nil_append, List.set, andThen, endF, sNil, wipeD, dTrue, gE2, run_atT, run_atL, atI_0, atI_1, atI_2, atI_3, atI_4, run_optS, if_true, if_false, Bool.false_eq_true, decide_true, decide_false, Bool.not_true, Bool.not_false, true_and, and_true, gXorI, gOrI, gAndI, gShl, gShr, DL.gSub, gNeg, oI0, oI, gLt, gGt, gLe, gGe, gOrd, w_on, w_oa, w_oo, bop_o]
  · simp only [F_told_of_feeds, B_told_of_feeds, defW, sSeq, sIf, sSet, sRet, sRetN, sExpr, sPar, two, sFor, sRaise, dB, dOp, dUn, dV, dC, dIfE, dM1, dJoin.isS, dSl, dPart, dNoPart, dNot, dAnd, dOr, dNotV, dOrV, dAndV, dChain, dCall, dOwn, dTup, dLst, dLstM, dMet, isL, aCons, aNil, dTru, slot, startD, iOf, its, itsOf, itm, run_bnd, run_ret, run_fail, run_chk, run_rd, run_wr, run_any, run_nox, run_exn, run_tag, see, look, lookM, W.opt, s1, s2, c1, c2, asB, List.map, List.replicate, List.append_eq, List.cons_append, List.nil_append, List.set, andThen, endF, sNil, wipeD, dTrue, gE2, run_atT, run_atL, atI_0, atI_1, atI_2, atI_3, atI_4, run_optS, if_true, if_false, Bool.false_eq_true, decide_true, decide_false, Bool.not_true, Bool.not_false, true_and, and_true, gXorI, gOrI, gAndI, gShl, gShr, DL.gSub, gNeg, oI0, oI, gLt, gGt, gLe, gGe, gOrd, w_xn, w_xa, w_xo, bop_x]
end
end K34

set_option maxHeartbeats 8000000
namespace K34
open PySem PySem.Spec PyProof.Rows L2 Kit DL
section
variable {Q : D → Mu → Prop} {E : Exn → Mu → Prop} {μ : Mu}
theorem w_is_is : decide (("is" : Str) = "is") = true := by decide +kernel
theorem w_in_is : decide (("in" : Str) = "is") = false := by decide +kernel
theorem w_in_in : decide (("in" : Str) = "in") = true := by decide +kernel
theorem w_bx_is : decide (("box" : Str) = "is") = false := by decide +kernel
theorem w_bx_in : decide (("box" : Str) = "in") = false := by decide +kernel
theorem w_bx_bx : decide (("box" : Str) = "box") = true := by decide +kernel
theorem w_nt_is : decide (("not" : Str) = "is") = false := by decide +kernel
theorem w_nt_in : decide (("not" : Str) = "in") = false := by decide +kernel
theorem w_nt_bx : decide (("not" : Str) = "box") = false := by decide +kernel
theorem w_op_is {w : Str} (hw : w = "and" ∨ w = "or" ∨ w = "xor") : decide (w = "is") = false ∧ decide (w = "in") = false ∧ decide (w = "box") = false ∧ decide (w = "not") = false ∧ decide (w = "out") = false := by
  rcases hw with rfl | rfl | rfl <;> decide +kernel
abbrev iD (l : List Int) : List D := l.map D.int
theorem iD_get {l : List Int} {i : Nat} (h : i < l.length) : atI (iD l) (i : Int) = some (.int (l.getD i 0)) := atI_nat (by
  rw [List.getElem?_map, List.getElem?_eq_getElem h, List.getD_eq_getElem?_getD, List.getElem?_eq_getElem h]
  rfl)
/-- what is asked of the dicts -/
structure Known (Ks : List (Str × Nat)) (gs : List Gt) (bx : Nat → Int) (kn : Str → Nat → Int) (bxs kns : List (D × D)) : Prop where
  v : Vals01 Ks bx kn
  ok : okGs Ks gs
  few : gs.length ≤ 1000
  bxs : ∀ (i : Nat) c b f, gs[i]? = some (.box c b f) → dval bxs (nD i) = some (.int (bx i))
  kns : ∀ p k, (p, k) ∈ Ks → dval kns (.tup [.str p, nD k]) = some (.int (kn p k))
theorem okT (p : Str) (k : Int) : okKey true (.tup [.str p, .int k]) = true := rfl
theorem okI (k : Int) : okKey false (.int k) = true := rfl
theorem okS (k : Str) : okKey false (.str k) = true := rfl
theorem sl1000 : 1000 < sizeLine := by decide
theorem cutD_1 {α : Type} (xs : List α) : DL.cutD xs (some 1) none = xs.drop 1 := cutD_from xs 1
theorem one_sz : 0 + 1 < sizeLine := by decide
theorem two_lt : 0 + 1 + 1 < sizeLine := by decide
variable {Ks : List (Str × Nat)} {gs : List Gt} {bx : Nat → Int} {kn : Str → Nat → Int} {bxs kns : List (D × D)}
theorem run_gib_step (K : Known Ks gs bx kn bxs kns) {i : Nat} {g : Gt} (e : gs[i]? = some g) {x6 : Option D} {G : D} {R : Fl → Mu → Prop}
    (q : ∀ y6, R (.nx [some G, some (.dct false bxs), some (.dct true kns), some (.ref μ.length), some (nD i), some (dG g), y6]) (μ ++ [.lst (iD (stp bx kn (gs.take (i + 1)) []))])) :
    (L_gates_in_beat_1 [some G, some (.dct false bxs), some (.dct true kns), some (.ref μ.length), some (nD i), some (dG g), x6]).run R E (μ ++ [.lst (iD (stp bx kn (gs.take i) []))]) := by
  have lt := (List.getElem?_eq_some_iff.mp e).1
  have ok := K.ok i g e
  have el : (stp bx kn (gs.take i) []).length = i := by
    rw [stp_len, List.length_take, List.length_nil]
    omega
  have p01 := stp_01 K.v K.ok i (Nat.le_of_lt lt)
  have few := K.few
  have big := sl1000
  rw [stp_take e] at q
  generalize stp bx kn (gs.take i) [] = acc at el p01 q ⊢
  have hlen : (iD acc).length < sizeLine := by rw [List.length_map]; omega
  have app : ∀ (y : Int) (y6 : Option D), y = gv bx kn acc i g → (gAppend (.ref μ.length) [.int y]).run (fun _ μ' => R (.nx [some G, some (.dct false bxs), some (.dct true kns), some (.ref μ.length), some (nD i), some (dG g), y6]) μ') E (μ ++ [.lst (iD acc)]) := fun y y6 ey => by
    rw [run_append get_last hlen, set_last]
    have := q y6
    rw [show iD (acc ++ [gv bx kn acc i g]) = iD acc ++ [.int (gv bx kn acc i g)] from List.map_append] at this
    rw [ey]
    exact this
  have met : ∀ {fa : DS → W (List D)} {g' : D → List D → W D} {R' : D → Mu → Prop} {ε : DS}, dV 3 ε = W.ret (.ref μ.length) → (dMet g' (dV 3) fa ε).run R' E (μ ++ [.lst (iD acc)]) = (fa ε).run (fun ds μ1 => (g' (.ref μ.length) ds).run R' E μ1) E (μ ++ [.lst (iD acc)]) := fun h => run_met h get_last
  cases g with
  | inp p k =>
    have ek := K.kns p k ok
    simp only [L_gates_in_beat_1, dG, defW, sSeq, sIf, sSet, sRet, sRetN, sExpr, sPar, two, sFor, sRaise, dB, dOp, dUn, dV, dC, dIfE, dM1, dJoin.isS, dSl, dPart, dNoPart, dNot, dAnd, dOr, dNotV, dOrV, dAndV, dChain, dCall, dOwn, dTup, dLst, dLstM, aCons, aNil, dTru, slot, startD, iOf, its, itsOf, itm, run_bnd, run_ret, run_fail, run_chk, run_rd, run_wr, run_any, run_nox, run_exn, run_tag, see, look, lookM, W.opt, s1, s2, c1, c2, asB, List.map, List.replicate, List.append_eq, List.cons_append, List.nil_append, List.set, andThen, endF, sNil, wipeD, dTrue, gE2, run_atT, run_atL, atI_0, atI_1, atI_2, atI_3, atI_4, run_optS, if_true, if_false, Bool.false_eq_true, decide_true, decide_false, Bool.not_true, Bool.not_false, true_and, and_true, gXorI, gOrI, gAndI, gShl, gShr, DL.gSub, gNeg, oI0, oI, gLt, gGt, gLe, gGe, gOrd, w_in_is, w_in_in, sExpr]
    rw [met rfl]
    simp only [defW, sSeq, sIf, sSet, sRet, sRetN, sExpr, sPar, two, sFor, sRaise, dB, dOp, dUn, dV, dC, dIfE, dM1, dJoin.isS, dSl, dPart, dNoPart, dNot, dAnd, dOr, dNotV, dOrV, dAndV, dChain, dCall, dOwn, dTup, dLst, dLstM, aCons, aNil, dTru, slot, startD, iOf, its, itsOf, itm, run_bnd, run_ret, run_fail, run_chk, run_rd, run_wr, run_any, run_nox, run_exn, run_tag, see, look, lookM, W.opt, s1, s2, c1, c2, asB, List.map, List.replicate, List.append_eq, List.cons_append, List.nil_append, List.set, andThen, endF, sNil, wipeD, dTrue, gE2, run_atT, run_atL, atI_0, atI_1, atI_2, atI_3, atI_4, run_optS, if_true, if_false, Bool.false_eq_true, decide_true, decide_false, Bool.not_true, Bool.not_false, true_and, and_true, gXorI, gOrI, gAndI, gShl, gShr, DL.gSub, gNeg, oI0, oI, gLt, gGt, gLe, gGe, gOrd, gSl, cutD_1, List.drop_succ_cons, List.drop_zero, run_atD, okT, ek]
    exact app _ x6 rfl
  | iz b =>
    simp only [L_gates_in_beat_1, dG, defW, sSeq, sIf, sSet, sRet, sRetN, sExpr, sPar, two, sFor, sRaise, dB, dOp, dUn, dV, dC, dIfE, dM1, dJoin.isS, dSl, dPart, dNoPart, dNot, dAnd, dOr, dNotV, dOrV, dAndV, dChain, dCall, dOwn, dTup, dLst, dLstM, aCons, aNil, dTru, slot, startD, iOf, its, itsOf, itm, run_bnd, run_ret, run_fail, run_chk, run_rd, run_wr, run_any, run_nox, run_exn, run_tag, see, look, lookM, W.opt, s1, s2, c1, c2, asB, List.map, List.replicate, List.append_eq, List.cons_append, List.nil_append, List.set, andThen, endF, sNil, wipeD, dTrue, gE2, run_atT, run_atL, atI_0, atI_1, atI_2, atI_3, atI_4, run_optS, if_true, if_false, Bool.false_eq_true, decide_true, decide_false, Bool.not_true, Bool.not_false, true_and, and_true, gXorI, gOrI, gAndI, gShl, gShr, DL.gSub, gNeg, oI0, oI, gLt, gGt, gLe, gGe, gOrd, w_is_is, sExpr]
    rw [met rfl]
    simp only [defW, sSeq, sIf, sSet, sRet, sRetN, sExpr, sPar, two, sFor, sRaise, dB, dOp, dUn, dV, dC, dIfE, dM1, dJoin.isS, dSl, dPart, dNoPart, dNot, dAnd, dOr, dNotV, dOrV, dAndV, dChain, dCall, dOwn, dTup, dLst, dLstM, aCons, aNil, dTru, slot, startD, iOf, its, itsOf, itm, run_bnd, run_ret, run_fail, run_chk, run_rd, run_wr, run_any, run_nox, run_exn, run_tag, see, look, lookM, W.opt, s1, s2, c1, c2, asB, List.map, List.replicate, List.append_eq, List.cons_append, List.nil_append, List.set, andThen, endF, sNil, wipeD, dTrue, gE2, run_atT, run_atL, atI_0, atI_1, atI_2, atI_3, atI_4, run_optS, if_true, if_false, Bool.false_eq_true, decide_true, decide_false, Bool.not_true, Bool.not_false, true_and, and_true, gXorI, gOrI, gAndI, gShl, gShr, DL.gSub, gNeg, oI0, oI, gLt, gGt, gLe, gGe, gOrd]
    exact app _ x6 rfl
  | box c b f =>
    have eb := K.bxs i c b f e
    simp only [L_gates_in_beat_1, dG, defW, sSeq, sIf, sSet, sRet, sRetN, sExpr, sPar, two, sFor, sRaise, dB, dOp, dUn, dV, dC, dIfE, dM1, dJoin.isS, dSl, dPart, dNoPart, dNot, dAnd, dOr, dNotV, dOrV, dAndV, dChain, dCall, dOwn, dTup, dLst, dLstM, aCons, aNil, dTru, slot, startD, iOf, its, itsOf, itm, run_bnd, run_ret, run_fail, run_chk, run_rd, run_wr, run_any, run_nox, run_exn, run_tag, see, look, lookM, W.opt, s1, s2, c1, c2, asB, List.map, List.replicate, List.append_eq, List.cons_append, List.nil_append, List.set, andThen, endF, sNil, wipeD, dTrue, gE2, run_atT, run_atL, atI_0, atI_1, atI_2, atI_3, atI_4, run_optS, if_true, if_false, Bool.false_eq_true, decide_true, decide_false, Bool.not_true, Bool.not_false, true_and, and_true, gXorI, gOrI, gAndI, gShl, gShr, DL.gSub, gNeg, oI0, oI, gLt, gGt, gLe, gGe, gOrd, w_bx_is, w_bx_in, w_bx_bx, sExpr]
    rw [met rfl]
    simp only [defW, sSeq, sIf, sSet, sRet, sRetN, sExpr, sPar, two, sFor, sRaise, dB, dOp, dUn, dV, dC, dIfE, dM1, dJoin.isS, dSl, dPart, dNoPart, dNot, dAnd, dOr, dNotV, dOrV, dAndV, dChain, dCall, dOwn, dTup, dLst, dLstM, aCons, aNil, dTru, slot, startD, iOf, its, itsOf, itm, run_bnd, run_ret, run_fail, run_chk, run_rd, run_wr, run_any, run_nox, run_exn, run_tag, see, look, lookM, W.opt, s1, s2, c1, c2, asB, List.map, List.replicate, List.append_eq, List.cons_append, List.nil_append, List.set, andThen, endF, sNil, wipeD, dTrue, gE2, run_atT, run_atL, atI_0, atI_1, atI_2, atI_3, atI_4, run_optS, if_true, if_false, Bool.false_eq_true, decide_true, decide_false, Bool.not_true, Bool.not_false, true_and, and_true, gXorI, gOrI, gAndI, gShl, gShr, DL.gSub, gNeg, oI0, oI, gLt, gGt, gLe, gGe, gOrd, run_atD, okI, eb]
    exact app _ x6 rfl
  | nt a =>
    have ha : a < acc.length := by rw [el]; exact ok
    simp only [L_gates_in_beat_1, dG, defW, sSeq, sIf, sSet, sRet, sRetN, sExpr, sPar, two, sFor, sRaise, dB, dOp, dUn, dV, dC, dIfE, dM1, dJoin.isS, dSl, dPart, dNoPart, dNot, dAnd, dOr, dNotV, dOrV, dAndV, dChain, dCall, dOwn, dTup, dLst, dLstM, aCons, aNil, dTru, slot, startD, iOf, its, itsOf, itm, run_bnd, run_ret, run_fail, run_chk, run_rd, run_wr, run_any, run_nox, run_exn, run_tag, see, look, lookM, W.opt, s1, s2, c1, c2, asB, List.map, List.replicate, List.append_eq, List.cons_append, List.nil_append, List.set, andThen, endF, sNil, wipeD, dTrue, gE2, run_atT, run_atL, atI_0, atI_1, atI_2, atI_3, atI_4, run_optS, if_true, if_false, Bool.false_eq_true, decide_true, decide_false, Bool.not_true, Bool.not_false, true_and, and_true, gXorI, gOrI, gAndI, gShl, gShr, DL.gSub, gNeg, oI0, oI, gLt, gGt, gLe, gGe, gOrd, w_nt_is, w_nt_in, w_nt_bx, sExpr]
    rw [met rfl]
    simp only [defW, sSeq, sIf, sSet, sRet, sRetN, sExpr, sPar, two, sFor, sRaise, dB, dOp, dUn, dV, dC, dIfE, dM1, dJoin.isS, dSl, dPart, dNoPart, dNot, dAnd, dOr, dNotV, dOrV, dAndV, dChain, dCall, dOwn, dTup, dLst, dLstM, aCons, aNil, dTru, slot, startD, iOf, its, itsOf, itm, run_bnd, run_ret, run_fail, run_chk, run_rd, run_wr, run_any, run_nox, run_exn, run_tag, see, look, lookM, W.opt, s1, s2, c1, c2, asB, List.map, List.replicate, List.append_eq, List.cons_append, List.nil_append, List.set, andThen, endF, sNil, wipeD, dTrue, gE2, run_atT, run_atL, atI_0, atI_1, atI_2, atI_3, atI_4, run_optS, if_true, if_false, Bool.false_eq_true, decide_true, decide_false, Bool.not_true, Bool.not_false, true_and, and_true, gXorI, gOrI, gAndI, gShl, gShr, DL.gSub, gNeg, oI0, oI, gLt, gGt, gLe, gGe, gOrd, gSl, cutD_1, List.drop_succ_cons, List.drop_zero, dLc, lcW, gd, gN, List.length_cons, List.length_nil, one_sz, run_atR get_last, iD_get ha, run_told_not (getD_01 p01 a)]
    exact app _ x6 rfl
  | two w a c =>
    obtain ⟨hw, ha, hc⟩ := ok
    rw [← el] at ha hc
    obtain ⟨w1, w2, w3, _, _⟩ := w_op_is hw
    simp only [L_gates_in_beat_1, dG, defW, sSeq, sIf, sSet, sRet, sRetN, sExpr, sPar, two, sFor, sRaise, dB, dOp, dUn, dV, dC, dIfE, dM1, dJoin.isS, dSl, dPart, dNoPart, dNot, dAnd, dOr, dNotV, dOrV, dAndV, dChain, dCall, dOwn, dTup, dLst, dLstM, aCons, aNil, dTru, slot, startD, iOf, its, itsOf, itm, run_bnd, run_ret, run_fail, run_chk, run_rd, run_wr, run_any, run_nox, run_exn, run_tag, see, look, lookM, W.opt, s1, s2, c1, c2, asB, List.map, List.replicate, List.append_eq, List.cons_append, List.nil_append, List.set, andThen, endF, sNil, wipeD, dTrue, gE2, run_atT, run_atL, atI_0, atI_1, atI_2, atI_3, atI_4, run_optS, if_true, if_false, Bool.false_eq_true, decide_true, decide_false, Bool.not_true, Bool.not_false, true_and, and_true, gXorI, gOrI, gAndI, gShl, gShr, DL.gSub, gNeg, oI0, oI, gLt, gGt, gLe, gGe, gOrd, w1, w2, w3, sExpr]
    rw [met rfl]
    simp only [defW, sSeq, sIf, sSet, sRet, sRetN, sExpr, sPar, two, sFor, sRaise, dB, dOp, dUn, dV, dC, dIfE, dM1, dJoin.isS, dSl, dPart, dNoPart, dNot, dAnd, dOr, dNotV, dOrV, dAndV, dChain, dCall, dOwn, dTup, dLst, dLstM, aCons, aNil, dTru, slot, startD, iOf, its, itsOf, itm, run_bnd, run_ret, run_fail, run_chk, run_rd, run_wr, run_any, run_nox, run_exn, run_tag, see, look, lookM, W.opt, s1, s2, c1, c2, asB, List.map, List.replicate, List.append_eq, List.cons_append, List.nil_append, List.set, andThen, endF, sNil, wipeD, dTrue, gE2, run_atT, run_atL, atI_0, atI_1, atI_2, atI_3, atI_4, run_optS, if_true, if_false, Bool.false_eq_true, decide_true, decide_false, Bool.not_true, Bool.not_false, true_and, and_true, gXorI, gOrI, gAndI, gShl, gShr, DL.gSub, gNeg, oI0, oI, gLt, gGt, gLe, gGe, gOrd, gSl, cutD_1, List.drop_succ_cons, List.drop_zero, dLc, lcW, gd, gN, List.length_cons, List.length_nil, two_lt, run_atR get_last, iD_get ha, iD_get hc, run_told_two hw]
    exact app _ x6 rfl
end
end K34

namespace K34
open PySem PySem.Spec PyProof.Rows L2 Kit DL
section
variable {Q : D → Mu → Prop} {E : Exn → Mu → Prop} {μ : Mu}
variable {Ks : List (Str × Nat)} {gs : List Gt} {bx : Nat → Int} {kn : Str → Nat → Int} {bxs kns : List (D × D)}
theorem enum_at {gs : List Gt} {j : Nat} {x : D} (h : (enumD 0 (gs.map dG))[j]? = some x) : ∃ g, gs[j]? = some g ∧ x = .tup [nD j, dG g] := by
  rw [enumD_get, List.getElem?_map] at h
  cases e : gs[j]? with
  | none => rw [e] at h; cases h
  | some g =>
    rw [e] at h
    cases h
    exact ⟨g, rfl, by rw [Nat.zero_add]⟩
theorem run_gib (K : Known Ks gs bx kn bxs kns) (q : Q (.lst (iD (stp bx kn gs []))) (μ ++ [.gone])) : (F_gates_in_beat [.tup (gs.map dG), .dct false bxs, .dct true kns]).run Q E μ := by
  have z0 : (0 : Nat) ≤ sizeLine := Nat.zero_le _
  simp only [F_gates_in_beat, B_gates_in_beat, defW, sSeq, sIf, sSet, sRet, sRetN, sExpr, sPar, two, sFor, sRaise, dB, dOp, dUn, dV, dC, dIfE, dM1, dJoin.isS, dSl, dPart, dNoPart, dNot, dAnd, dOr, dNotV, dOrV, dAndV, dChain, dCall, dOwn, dTup, dLst, dLstM, aCons, aNil, dTru, slot, startD, iOf, its, itsOf, itm, run_bnd, run_ret, run_fail, run_chk, run_rd, run_wr, run_any, run_nox, run_exn, run_tag, see, look, lookM, W.opt, s1, s2, c1, c2, asB, List.map, List.replicate, List.append_eq, List.cons_append, List.nil_append, List.set, andThen, endF, sNil, wipeD, dTrue, gE2, run_atT, run_atL, atI_0, atI_1, atI_2, atI_3, atI_4, run_optS, if_true, if_false, Bool.false_eq_true, decide_true, decide_false, Bool.not_true, Bool.not_false, true_and, and_true, gXorI, gOrI, gAndI, gShl, gShr, DL.gSub, gNeg, oI0, oI, gLt, gGt, gLe, gGe, gOrd, List.length_nil, z0, DL.alloc, gIts, gEnum, kdOk]
  refine run_forI (fun j ε μ' => ∃ x4 x5 x6, ε = [some (.tup (gs.map dG)), some (.dct false bxs), some (.dct true kns), some (.ref μ.length), x4, x5, x6] ∧ μ' = μ ++ [.lst (iD (stp bx kn (gs.take j) []))]) _ 0 ?_ ?_ ⟨none, none, none, rfl, rfl⟩
  · rintro j x ε μ' ex ⟨x4, x5, x6, rfl, rfl⟩
    rw [Nat.zero_add]
    obtain ⟨g, eg, rfl⟩ := enum_at ex
    refine ⟨True.intro, _, rfl, run_gib_step K eg fun y6 => ⟨_, _, y6, rfl, rfl⟩⟩
  · rintro ε μ' ⟨x4, x5, x6, rfl, rfl⟩
    refine ⟨True.intro, ?_⟩
    rw [Nat.zero_add, enumD_len, List.length_map, List.take_length]
    simp only [defW, sSeq, sIf, sSet, sRet, sRetN, sExpr, sPar, two, sFor, sRaise, dB, dOp, dUn, dV, dC, dIfE, dM1, dJoin.isS, dSl, dPart, dNoPart, dNot, dAnd, dOr, dNotV, dOrV, dAndV, dChain, dCall, dOwn, dTup, dLst, dLstM, aCons, aNil, dTru, slot, startD, iOf, its, itsOf, itm, run_bnd, run_ret, run_fail, run_chk, run_rd, run_wr, run_any, run_nox, run_exn, run_tag, see, look, lookM, W.opt, s1, s2, c1, c2, asB, List.map, List.replicate, List.append_eq, List.cons_append, List.nil_append, List.set, andThen, endF, sNil, wipeD, dTrue, gE2, run_atT, run_atL, atI_0, atI_1, atI_2, atI_3, atI_4, run_optS, if_true, if_false, Bool.false_eq_true, decide_true, decide_false, Bool.not_true, Bool.not_false, true_and, and_true, gXorI, gOrI, gAndI, gShl, gShr, DL.gSub, gNeg, oI0, oI, gLt, gGt, gLe, gGe, gOrd]
    rw [run_frz get_last, set_last]
    exact q
end
end K34

namespace K34
open PySem PySem.Spec PyProof.Rows L2 Kit DL
section
variable {Q : D → Mu → Prop} {E : Exn → Mu → Prop} {μ : Mu}
/-! ### the bits of a beat's worths -/
abbrev In := Str × Nat
def inD (a : In) : D := .tup [.str a.1, nD a.2]
def wbit (w : Int) (k : Nat) : Int := Builtin.bitAnd (w / 2 ^ k) 1
def knD (ins : List In) (ws : List Int) : List (D × D) := (ins.zip ws).flatMap fun x => (List.range x.1.2).map fun k => (.tup [.str x.1.1, nD k], .int (wbit x.2 k))
theorem zipD_map {α β : Type} {f : α → D} {g : β → D} : ∀ (xs : List α) (ys : List β), zipD (xs.map f) (ys.map g) = (xs.zip ys).map fun z => .tup [f z.1, g z.2]
  | [], _ => by simp [zipD]
  | _ :: _, [] => by simp [zipD]
  | x :: xs, y :: ys => by
    have := zipD_map (f := f) (g := g) xs ys
    unfold zipD at this ⊢
    rw [List.map_cons, List.map_cons, List.zipWith_cons_cons, this, List.zip_cons_cons, List.map_cons]
theorem rngD_map (n : Nat) : rngD 0 n = (List.range n).map fun k : Nat => nD k := by
  unfold rngD
  refine List.map_congr_left fun i _ => ?_
  rw [Int.zero_add]
theorem sum_le {α : Type} {f : α → Nat} {c : Nat} : ∀ l : List α, (∀ a ∈ l, f a ≤ c) → (l.map f).sum ≤ l.length * c
  | [], _ => Nat.zero_le _
  | a :: l, h => by
    have h1 := sum_le l fun x hx => h x (List.mem_cons_of_mem _ hx)
    have h2 := h a List.mem_cons_self
    rw [List.map_cons, List.sum_cons, List.length_cons, Nat.succ_mul]
    omega
theorem run_inbits {ins : List In} {ws : List Int} (few : ins.length ≤ 100) (small : ∀ a ∈ ins, a.2 ≤ 100) : (F_in_bits [.tup (ins.map inD), .tup (iD ws)]).run Q E μ = Q (.dct true (dputs [] (knD ins ws))) μ := by
  have sl : sizeLine = 16777216 := sizeLine_eq
  simp only [F_in_bits, B_in_bits, defW, sSeq, sIf, sSet, sRet, sRetN, sExpr, sPar, two, sFor, sRaise, dB, dOp, dUn, dV, dC, dIfE, dM1, dJoin.isS, dSl, dPart, dNoPart, dNot, dAnd, dOr, dNotV, dOrV, dAndV, dChain, dCall, dOwn, dTup, dLst, dLstM, aCons, aNil, dTru, slot, startD, iOf, its, itsOf, itm, run_bnd, run_ret, run_fail, run_chk, run_rd, run_wr, run_any, run_nox, run_exn, run_tag, see, look, lookM, W.opt, s1, s2, c1, c2, asB, List.map, List.replicate, List.append_eq, List.cons_append, List.nil_append, List.set, andThen, endF, sNil, wipeD, dTrue, gE2, run_atT, run_atL, atI_0, atI_1, atI_2, atI_3, atI_4, run_optS, if_true, if_false, Bool.false_eq_true, decide_true, decide_false, Bool.not_true, Bool.not_false, true_and, and_true, gXorI, gOrI, gAndI, gShl, gShr, DL.gSub, gNeg, oI0, oI, gLt, gGt, gLe, gGe, gOrd, dDc2, gZip, kdOk, zipD_map]
  rw [run_dc2A (e := fun z : In × Int => D.tup [inD z.1, .int z.2]) (e1 := fun _ k => nD k) (ys := fun z => List.range z.1.2) (k := fun z k => .tup [.str z.1.1, nD k]) (v := fun z k => .int (wbit z.2 k)) True.intro]
  · simp only [gMkD, defW, sSeq, sIf, sSet, sRet, sRetN, sExpr, sPar, two, sFor, sRaise, dB, dOp, dUn, dV, dC, dIfE, dM1, dJoin.isS, dSl, dPart, dNoPart, dNot, dAnd, dOr, dNotV, dOrV, dAndV, dChain, dCall, dOwn, dTup, dLst, dLstM, aCons, aNil, dTru, slot, startD, iOf, its, itsOf, itm, run_bnd, run_ret, run_fail, run_chk, run_rd, run_wr, run_any, run_nox, run_exn, run_tag, see, look, lookM, W.opt, s1, s2, c1, c2, asB, List.map, List.replicate, List.append_eq, List.cons_append, List.nil_append, List.set, andThen, endF, sNil, wipeD, dTrue, gE2, run_atT, run_atL, atI_0, atI_1, atI_2, atI_3, atI_4, run_optS, if_true, if_false, Bool.false_eq_true, decide_true, decide_false, Bool.not_true, Bool.not_false, true_and, and_true, gXorI, gOrI, gAndI, gShl, gShr, DL.gSub, gNeg, oI0, oI, gLt, gGt, gLe, gGe, gOrd, knD]
  · rw [List.length_nil, Nat.zero_add]
    have h := sum_le (f := fun a : In × Int => (List.range a.1.2).length) (c := 100) (ins.zip ws) fun a ha => by
      rw [List.length_range]
      exact small a.1 (List.of_mem_zip ha).1
    have hl : (ins.zip ws).length ≤ 100 := by
      rw [List.length_zip]
      omega
    omega
  · rintro ⟨⟨p, n⟩, w⟩ hm
    refine ⟨_, rfl, fun Q' => ?_, fun k hk => ⟨_, rfl, fun Q' => ?_, fun Q' => ?_, rfl⟩⟩
    · have hn : n ≤ 100 := small (p, n) (List.of_mem_zip hm).1
      have h1 : -(2 ^ 62) ≤ (n : Int) ∧ (n : Int) < 2 ^ 62 := ⟨by omega, by omega⟩
      simp only [defW, sSeq, sIf, sSet, sRet, sRetN, sExpr, sPar, two, sFor, sRaise, dB, dOp, dUn, dV, dC, dIfE, dM1, dJoin.isS, dSl, dPart, dNoPart, dNot, dAnd, dOr, dNotV, dOrV, dAndV, dChain, dCall, dOwn, dTup, dLst, dLstM, aCons, aNil, dTru, slot, startD, iOf, its, itsOf, itm, run_bnd, run_ret, run_fail, run_chk, run_rd, run_wr, run_any, run_nox, run_exn, run_tag, see, look, lookM, W.opt, s1, s2, c1, c2, asB, List.map, List.replicate, List.append_eq, List.cons_append, List.nil_append, List.set, andThen, endF, sNil, wipeD, dTrue, gE2, run_atT, run_atL, atI_0, atI_1, atI_2, atI_3, atI_4, run_optS, if_true, if_false, Bool.false_eq_true, decide_true, decide_false, Bool.not_true, Bool.not_false, true_and, and_true, gXorI, gOrI, gAndI, gShl, gShr, DL.gSub, gNeg, oI0, oI, gLt, gGt, gLe, gGe, gOrd, rng1, h1, Int.toNat_natCast, rngD_map]
    · simp only [defW, sSeq, sIf, sSet, sRet, sRetN, sExpr, sPar, two, sFor, sRaise, dB, dOp, dUn, dV, dC, dIfE, dM1, dJoin.isS, dSl, dPart, dNoPart, dNot, dAnd, dOr, dNotV, dOrV, dAndV, dChain, dCall, dOwn, dTup, dLst, dLstM, aCons, aNil, dTru, slot, startD, iOf, its, itsOf, itm, run_bnd, run_ret, run_fail, run_chk, run_rd, run_wr, run_any, run_nox, run_exn, run_tag, see, look, lookM, W.opt, s1, s2, c1, c2, asB, List.map, List.replicate, List.append_eq, List.cons_append, List.nil_append, List.set, andThen, endF, sNil, wipeD, dTrue, gE2, run_atT, run_atL, atI_0, atI_1, atI_2, atI_3, atI_4, run_optS, if_true, if_false, Bool.false_eq_true, decide_true, decide_false, Bool.not_true, Bool.not_false, true_and, and_true, gXorI, gOrI, gAndI, gShl, gShr, DL.gSub, gNeg, oI0, oI, gLt, gGt, gLe, gGe, gOrd, List.length_cons, List.length_nil, (by decide : 0 + 1 + 1 ≤ sizeLine)]
    · have hk0 : (0 : Int) ≤ (k : Nat) := by omega
      simp only [defW, sSeq, sIf, sSet, sRet, sRetN, sExpr, sPar, two, sFor, sRaise, dB, dOp, dUn, dV, dC, dIfE, dM1, dJoin.isS, dSl, dPart, dNoPart, dNot, dAnd, dOr, dNotV, dOrV, dAndV, dChain, dCall, dOwn, dTup, dLst, dLstM, aCons, aNil, dTru, slot, startD, iOf, its, itsOf, itm, run_bnd, run_ret, run_fail, run_chk, run_rd, run_wr, run_any, run_nox, run_exn, run_tag, see, look, lookM, W.opt, s1, s2, c1, c2, asB, List.map, List.replicate, List.append_eq, List.cons_append, List.nil_append, List.set, andThen, endF, sNil, wipeD, dTrue, gE2, run_atT, run_atL, atI_0, atI_1, atI_2, atI_3, atI_4, run_optS, if_true, if_false, Bool.false_eq_true, decide_true, decide_false, Bool.not_true, Bool.not_false, true_and, and_true, gXorI, gOrI, gAndI, gShl, gShr, DL.gSub, gNeg, oI0, oI, gLt, gGt, gLe, gGe, gOrd, hk0, Int.toNat_natCast]
      rfl
end
end K34

namespace K34
open PySem PySem.Spec PyProof.Rows L2 Kit DL
/-! ### beats -/
abbrev Beat := List Str × List Int
def bD (b : Beat) : D := .tup [.tup (b.1.map D.str), .tup (iD b.2)]
def worthOf (ins : List In) (ws : List Int) (p : Str) : Int := (((ins.zip ws).find? fun z => decide (z.1.1 = p)).map (·.2)).getD 0
def knV (ins : List In) (ws : List Int) (p : Str) (k : Nat) : Int := wbit (worthOf ins ws p) k
def KsOf (ins : List In) : List (Str × Nat) := ins.flatMap fun a => (List.range a.2).map fun k => (a.1, k)
theorem zip_uniq {ins : List In} : ∀ {ws : List Int}, (ins.map (·.1)).Nodup → ∀ {z z' : In × Int}, z ∈ ins.zip ws → z' ∈ ins.zip ws → z.1.1 = z'.1.1 → z = z' := by
  induction ins with
  | nil => intro ws _ z z' h; simp at h
  | cons a ins ih =>
    intro ws nd z z' h h' e
    cases ws with
    | nil => simp at h
    | cons w ws =>
      rw [List.map_cons, List.nodup_cons] at nd
      rw [List.zip_cons_cons] at h h'
      have out : ∀ y ∈ ins.zip ws, y.1.1 ≠ a.1 := fun y hy e => nd.1 (by rw [← e]; exact List.mem_map_of_mem (f := fun a : In => a.1) (List.of_mem_zip hy).1)
      rcases List.mem_cons.mp h with rfl | h <;> rcases List.mem_cons.mp h' with rfl | h'
      · rfl
      · exact absurd e.symm (out _ h')
      · exact absurd e (out _ h)
      · exact ih nd.2 h h' e
theorem zip_has {ins : List In} : ∀ {ws : List Int}, ws.length = ins.length → ∀ a ∈ ins, ∃ w, (a, w) ∈ ins.zip ws := by
  induction ins with
  | nil => intro ws _ a h; cases h
  | cons b ins ih =>
    intro ws hl a h
    cases ws with
    | nil => cases hl
    | cons w ws =>
      rw [List.zip_cons_cons]
      rcases List.mem_cons.mp h with rfl | h
      · exact ⟨w, List.mem_cons_self⟩
      · obtain ⟨v, hv⟩ := ih (by simpa using hl) a h
        exact ⟨v, List.mem_cons_of_mem _ hv⟩
/-- a beat's worths are of these ins -/
structure OkIns (ins : List In) : Prop where
  nd : (ins.map (·.1)).Nodup
  few : ins.length ≤ 100
  small : ∀ a ∈ ins, a.2 ≤ 100
structure OkWs (ins : List In) (ws : List Int) : Prop where
  len : ws.length = ins.length
  pos : ∀ w ∈ ws, 0 ≤ w ∧ w ≤ 1000
theorem worth_at {ins : List In} {ws : List Int} (I : OkIns ins) {z : In × Int} (hz : z ∈ ins.zip ws) : worthOf ins ws z.1.1 = z.2 := by
  unfold worthOf
  cases e : (ins.zip ws).find? fun y => decide (y.1.1 = z.1.1) with
  | none =>
    rw [List.find?_eq_none] at e
    exact absurd (decide_eq_true rfl) (e z hz)
  | some y =>
    have h1 := List.find?_some e
    have h2 := List.mem_of_find?_eq_some e
    rw [zip_uniq I.nd h2 hz (of_decide_eq_true h1)]
    rfl
theorem kn_at {ins : List In} {ws : List Int} (I : OkIns ins) (O : OkWs ins ws) {p : Str} {k : Nat} (h : (p, k) ∈ KsOf ins) : dval (dputs [] (knD ins ws)) (.tup [.str p, nD k]) = some (.int (knV ins ws p k)) := by
  obtain ⟨a, ha, h⟩ := List.mem_flatMap.mp h
  obtain ⟨k', hk, e⟩ := List.mem_map.mp h
  cases e
  obtain ⟨w, hw⟩ := zip_has O.len a ha
  refine dval_dputs _ (.inr ⟨(.tup [.str a.1, nD k], .int (wbit w k)), ?_, rfl⟩) fun x hx ex => ?_
  · exact List.mem_flatMap.mpr ⟨(a, w), hw, List.mem_map.mpr ⟨k, hk, rfl⟩⟩
  · obtain ⟨z, hz, hx⟩ := List.mem_flatMap.mp hx
    obtain ⟨k2, hk2, rfl⟩ := List.mem_map.mp hx
    have e1 : z.1.1 = a.1 ∧ (k2 : Int) = (k : Nat) := by
      have e2 : D.tup [.str z.1.1, nD k2] = .tup [.str a.1, nD k] := ex
      injection e2 with e3
      injection e3 with e4 e5
      injection e5 with e6 _
      exact ⟨D.str.inj e4, D.int.inj e6⟩
    have e2 : k2 = k := by omega
    subst e2
    have := zip_uniq I.nd hz hw e1.1
    subst this
    show D.int (wbit _ _) = _
    unfold knV
    rw [worth_at I hw]
theorem wbit_01 {w : Int} (h : 0 ≤ w) (k : Nat) : b01 (wbit w k) := by
  obtain ⟨n, rfl⟩ := Int.eq_ofNat_of_zero_le h
  unfold wbit
  have e : ((n : Int) / 2 ^ k) = ((n / 2 ^ k : Nat) : Int) := by
    rw [Int.natCast_ediv, Int.natCast_pow]
    rfl
  rw [e, bitAnd_m1]
  generalize n / 2 ^ k = m
  unfold b01
  omega
theorem worth_pos {ins : List In} {ws : List Int} (O : OkWs ins ws) (p : Str) : 0 ≤ worthOf ins ws p := by
  unfold worthOf
  cases e : (ins.zip ws).find? fun y => decide (y.1.1 = p) with
  | none => exact Int.le_refl 0
  | some y => exact (O.pos _ (List.of_mem_zip (List.mem_of_find?_eq_some e)).2).1
def isBx : Gt → Bool
  | .box _ _ _ => true
  | _ => false
/-- the boxes' places -/
def bl (gs : List Gt) : List Nat := (gs.zipIdx.filter fun z => isBx z.1).map (·.2)
theorem bl_mem {gs : List Gt} {i : Nat} : i ∈ bl gs ↔ ∃ c b f, gs[i]? = some (.box c b f) := by
  unfold bl
  constructor
  · intro h
    obtain ⟨z, hz, rfl⟩ := List.mem_map.mp h
    obtain ⟨h1, h2⟩ := List.mem_filter.mp hz
    obtain ⟨g, i⟩ := z
    have e := List.mem_zipIdx_iff_getElem?.mp h1
    cases g with
    | box c b f => exact ⟨c, b, f, e⟩
    | _ => cases h2
  · rintro ⟨c, b, f, e⟩
    exact List.mem_map.mpr ⟨(.box c b f, i), List.mem_filter.mpr ⟨List.mem_zipIdx_iff_getElem?.mpr e, rfl⟩, rfl⟩
theorem bl_nodup (gs : List Gt) : (bl gs).Nodup := by
  unfold bl
  have h : (gs.zipIdx.map (·.2)).Nodup := by
    rw [List.zipIdx_map_snd]
    exact List.nodup_range' _
  exact List.Sublist.nodup (List.Sublist.map _ List.filter_sublist) h
def bxD (gs : List Gt) (v : Nat → Int) : List (D × D) := (bl gs).map fun g => (nD g, .int (v g))
theorem nD_inj {a b : Nat} (h : nD a = nD b) : a = b := by
  have := D.int.inj h
  omega
theorem bxD_nodup (gs : List Gt) (v : Nat → Int) : ((bxD gs v).map (·.1)).Nodup := by
  unfold bxD
  rw [List.map_map]
  exact List.Pairwise.map _ (fun a b h e => h (nD_inj e)) (bl_nodup gs)
theorem bxD_at {gs : List Gt} {v : Nat → Int} {i : Nat} (h : i ∈ bl gs) : dval (bxD gs v) (nD i) = some (.int (v i)) := dval_mem (bxD_nodup gs v) (List.mem_map.mpr ⟨i, h, rfl⟩)
def binit (gs : List Gt) (i : Nat) : Int := match gs[i]? with
  | some (.box _ b _) => b
  | _ => 0
/-- the boxes behind a beat -/
def nxt (gs : List Gt) (ticks : List Str) (bits : List Int) (v : Nat → Int) (i : Nat) : Int := match gs[i]? with
  | some (.box c _ f) => if c ∈ ticks then bits.getD f 0 else v i
  | _ => v i
def beatV (gs : List Gt) (ins : List In) (v : Nat → Int) (b : Beat) : List Int := stp v (knV ins b.2) gs []
/-- boxes and rows, beat by beat -/
def walk (gs : List Gt) (ins : List In) (x : (Nat → Int) × List (List Int)) (b : Beat) : (Nat → Int) × List (List Int) := (nxt gs b.1 (beatV gs ins x.1 b) x.1, x.2 ++ [beatV gs ins x.1 b])
def after (gs : List Gt) (ins : List In) (bs : List Beat) (j : Nat) : (Nat → Int) × List (List Int) := (bs.take j).foldl (walk gs ins) (binit gs, [])
theorem after_succ {gs : List Gt} {ins : List In} {bs : List Beat} {j : Nat} {b : Beat} (e : bs[j]? = some b) : after gs ins bs (j + 1) = walk gs ins (after gs ins bs j) b := by
  unfold after
  rw [List.take_succ, e, List.foldl_append]
  rfl
theorem after_len {gs : List Gt} {ins : List In} {bs : List Beat} : ∀ j, j ≤ bs.length → (after gs ins bs j).2.length = j
  | 0, _ => rfl
  | j + 1, h => by
    rw [after_succ (List.getElem?_eq_getElem (show j < bs.length from h))]
    show ((after gs ins bs j).2 ++ [_]).length = _
    rw [List.length_append, after_len j (Nat.le_of_succ_le h)]
    rfl
structure OkAll (gs : List Gt) (ins : List In) (bs : List Beat) : Prop where
  g : okGs (KsOf ins) gs
  i : OkIns ins
  few : gs.length ≤ 1000
  w : ∀ b ∈ bs, OkWs ins b.2
  nb : bs.length ≤ 1000
theorem binit_01 {gs : List Gt} {ins : List In} (ok : okGs (KsOf ins) gs) (i : Nat) : b01 (binit gs i) := by
  unfold binit
  split
  · next c b f e => exact (ok i _ e).2.1
  · exact .inl rfl
theorem kn_01 {ins : List In} {ws : List Int} (O : OkWs ins ws) (p : Str) (k : Nat) : b01 (knV ins ws p k) := wbit_01 (worth_pos O p) k
theorem after_01 {gs : List Gt} {ins : List In} {bs : List Beat} (A : OkAll gs ins bs) : ∀ j, j ≤ bs.length → ∀ i, b01 ((after gs ins bs j).1 i)
  | 0, _ => binit_01 A.g
  | j + 1, h => fun i => by
    have lt : j < bs.length := h
    rw [after_succ (List.getElem?_eq_getElem lt)]
    have ih := after_01 A j (Nat.le_of_lt lt)
    show b01 (nxt gs _ _ _ i)
    unfold nxt
    split
    · split
      · refine getD_01 (fun x hx => ?_) _
        have V : Vals01 (KsOf ins) (after gs ins bs j).1 (knV ins bs[j].2) := ⟨ih, fun p k _ => kn_01 (A.w _ (List.getElem_mem _)) p k⟩
        have := stp_01 V A.g gs.length (Nat.le_refl _) x
        rw [List.take_length] at this
        exact this hx
      · exact ih i
    · exact ih i
theorem known_at {gs : List Gt} {ins : List In} {bs : List Beat} (A : OkAll gs ins bs) {j : Nat} {b : Beat} (e : bs[j]? = some b) : Known (KsOf ins) gs (after gs ins bs j).1 (knV ins b.2) (bxD gs (after gs ins bs j).1) (dputs [] (knD ins b.2)) := by
  have O := A.w b (List.mem_of_getElem? e)
  have lt := (List.getElem?_eq_some_iff.mp e).1
  exact ⟨⟨after_01 A j (Nat.le_of_lt lt), fun p k _ => kn_01 O p k⟩, A.g, A.few, fun i c b f eg => bxD_at (bl_mem.mpr ⟨c, b, f, eg⟩), fun p k h => kn_at A.i O h⟩
/-- a box is in a beat what it was set to -/
theorem stp_box {bx : Nat → Int} {kn : Str → Nat → Int} {gs : List Gt} {i : Nat} {c : Str} {b : Int} {f : Nat} (e : gs[i]? = some (.box c b f)) : (stp bx kn gs []).getD i 0 = bx i := by
  have lt := (List.getElem?_eq_some_iff.mp e).1
  have key : ∀ j, i < j → j ≤ gs.length → (stp bx kn (gs.take j) []).getD i 0 = bx i := by
    intro j
    induction j with
    | zero => intro h; omega
    | succ j ih =>
      intro h1 h2
      have el : (stp bx kn (gs.take j) []).length = j := by
        rw [stp_len, List.length_take, List.length_nil]
        omega
      rw [stp_take (List.getElem?_eq_getElem (show j < gs.length by omega)), List.getD_eq_getElem?_getD]
      by_cases hij : i < j
      · rw [List.getElem?_append_left (by omega), ← List.getD_eq_getElem?_getD]
        exact ih hij (by omega)
      · obtain rfl : i = j := by omega
        rw [List.getElem?_append_right (by omega), el, Nat.sub_self]
        have eg : gs[i] = .box c b f := by
          rw [List.getElem?_eq_getElem lt] at e
          exact Option.some.inj e
        rw [eg]
        rfl
  have := key gs.length lt (Nat.le_refl _)
  rw [List.take_length] at this
  exact this
end K34

namespace K34
open PySem PySem.Spec PyProof.Rows L2 Kit DL
section
variable {Q : D → Mu → Prop} {E : Exn → Mu → Prop} {μ : Mu}
/-! ### the program's waves -/
theorem enum_zip (gs : List Gt) : enumD 0 (gs.map dG) = gs.zipIdx.map fun z => .tup [nD z.2, dG z.1] := by
  refine List.ext_getElem? fun i => ?_
  rw [enumD_get, List.getElem?_map, List.getElem?_map, List.getElem?_zipIdx]
  cases gs[i]? with
  | none => rfl
  | some g =>
    show some (D.tup [nD (0 + i), dG g]) = some (D.tup [nD (0 + i), dG g])
    rfl
theorem bl_len (gs : List Gt) : (bl gs).length ≤ gs.length := by
  unfold bl
  rw [List.length_map]
  refine Nat.le_trans (List.length_filter_le _ _) ?_
  rw [List.length_zipIdx]
  exact Nat.le_refl _
theorem bxD_len (gs : List Gt) (v : Nat → Int) : (bxD gs v).length ≤ gs.length := by
  unfold bxD
  rw [List.length_map]
  exact bl_len gs
theorem dputs_bxD (gs : List Gt) (v : Nat → Int) : dputs [] (bxD gs v) = bxD gs v := dputs_new _ [] (bxD_nodup gs v)
theorem w_in_bx : decide (("in" : Str) = "box") = false := by decide +kernel
theorem w_is_bx : decide (("is" : Str) = "box") = false := by decide +kernel
theorem w_op_bx {w : Str} (hw : w = "and" ∨ w = "or" ∨ w = "xor") : decide (w = "box") = false := (w_op_is hw).2.2.1
theorem word_box {Ks : List (Str × Nat)} {n i : Nat} {g : Gt} (ok : okG Ks n i g) : ∃ w r, dG g = .tup (.str w :: r) ∧ decide (w = "box") = isBx g := by
  cases g with
  | inp p k => exact ⟨_, _, rfl, w_in_bx⟩
  | iz b => exact ⟨_, _, rfl, w_is_bx⟩
  | box c b f => exact ⟨_, _, rfl, w_bx_bx⟩
  | nt a => exact ⟨_, _, rfl, w_nt_bx⟩
  | two w a c => exact ⟨_, _, rfl, w_op_bx ok.1⟩
theorem gs_at {gs : List Gt} {i : Nat} {g : Gt} (e : gs[i]? = some g) : atI (gs.map dG) (nD i |> fun _ => (i : Int)) = some (dG g) := atI_nat (by rw [List.getElem?_map, e]; rfl)
def wavesD (gs : List Gt) (ins : List In) (bs : List Beat) : D := .tup ((List.range gs.length).map fun g => .tup ((after gs ins bs bs.length).2.map fun r => .int (r.getD g 0)))
variable {gs : List Gt} {ins : List In} {bs : List Beat} {rest : List D}
theorem run_boxes {fi : DS → W Itm} {ε : DS} {μ : Mu} {Q : D → Mu → Prop} {Ks : List (Str × Nat)} (ok : okGs Ks gs) (few : gs.length ≤ 1000) {dg : D → DS → Option DS} {ft : DS → W Bool} {fe : DS → W D} {vs : List Nat} {f : Gt × Nat → D}
    (hi : ∀ Q' : Itm → Mu → Prop, (fi ε).run Q' E μ = Q' (itm (enumD 0 (gs.map dG))) μ)
    (h : ∀ (i : Nat) g, gs[i]? = some g → ∃ ε', dg (.tup [nD i, dG g]) (wipeD ε vs) = some ε' ∧ (∀ Q' : Bool → Mu → Prop, (ft ε').run Q' (fun _ _ => False) μ = Q' (isBx g) μ) ∧ (isBx g = true → ∀ Q' : D → Mu → Prop, (fe ε').run Q' (fun _ _ => False) μ = Q' (f (g, i)) μ)) :
    (dLc vs fi dg ft fe ε).run Q E μ = Q (.lst ((gs.zipIdx.filter fun z => isBx z.1).map f)) μ := by
  have big := sl1000
  unfold dLc
  rw [run_bnd, hi, enum_zip, run_chk, propext (and_iff_right (by rw [List.length_map, List.length_zipIdx]; omega)), run_bnd, run_nox]
  exact run_lcA (p := fun _ => True) (e := fun z : Gt × Nat => D.tup [nD z.2, dG z.1]) (t := fun z => isBx z.1) (f := f) True.intro fun z hz => by
    obtain ⟨g, i⟩ := z
    exact h i g (List.mem_zipIdx_iff_getElem?.mp hz)
theorem mem_strs {c : Str} {ss : List Str} : (gMem false (.str c) (.tup (ss.map D.str))).run Q E μ = Q (.bl (decide (c ∈ ss))) μ := by
  rw [run_memT (fun n h => by cases h), propext (and_iff_right ⟨rfl, by rw [List.all_map]; exact List.all_eq_true.mpr fun _ _ => rfl⟩)]
  have e : ((ss.map D.str).any fun x => eqD x (.str c)) = decide (c ∈ ss) := by
    rw [List.any_map]
    induction ss with
    | nil => rfl
    | cons a ss ih =>
      rw [List.any_cons, ih]
      show (decide (a = c) || _) = _
      by_cases h : a = c
      · subst h
        simp
      · have h' : ¬ c = a := fun z => h z.symm
        simp [h, h']
  rw [e]
  rfl
theorem get_mid {x : MO} {m : Mu} : (μ ++ x :: m)[μ.length]? = some x := by
  rw [List.getElem?_append_right (Nat.le_refl _), Nat.sub_self]
  rfl
theorem set_mid {x y : MO} {m : Mu} : (μ ++ x :: m).set μ.length y = μ ++ y :: m := by
  rw [List.set_append_right _ _ (Nat.le_refl _), Nat.sub_self]
  rfl
theorem bl_map (gs : List Gt) : ((gs.zipIdx.filter fun z => isBx z.1).map fun z => nD z.2) = (bl gs).map nD := by
  unfold bl
  rw [List.map_map]
  rfl
theorem bd_at {bs : List Beat} {j : Nat} {x : D} (h : (bs.map bD)[j]? = some x) : ∃ b, bs[j]? = some b ∧ x = bD b := by
  rw [List.getElem?_map] at h
  cases e : bs[j]? with
  | none => rw [e] at h; cases h
  | some b =>
    rw [e] at h
    cases h
    exact ⟨b, rfl, rfl⟩
theorem after_row (A : OkAll gs ins bs) {r : List Int} : ∀ {j : Nat}, r ∈ (after gs ins bs j).2 → r.length = gs.length
  | 0, h => by cases h
  | j + 1, h => by
    cases e : bs[j]? with
    | none =>
      have : after gs ins bs (j + 1) = after gs ins bs j := by
        unfold after
        rw [List.take_succ, e]
        simp
      rw [this] at h
      exact after_row A h
    | some b =>
      rw [after_succ e] at h
      rcases List.mem_append.mp h with h | h
      · exact after_row A h
      · rw [List.mem_singleton.mp h]
        show (stp _ _ _ _).length = _
        rw [stp_len, List.length_nil, Nat.zero_add]
theorem run_gw_body {μ : Mu} {R : Fl → Mu → Prop} (A : OkAll gs ins bs) {j : Nat} {b : Beat} (e : bs[j]? = some b) {e5 e6 e11 e12 : Option D} {e0 e1 : D} {m : Mu} 
    (q : ∀ e5 e6 e11, ∀ m : Mu, R (.nx [some e0, some e1, some (.tup (ins.map inD)), some (.tup (gs.map dG)), some (.lst ((bl gs).map nD)), e5, e6, some (.dct false (bxD gs (after gs ins bs (j + 1)).1)), some (.ref μ.length), some (.tup (b.1.map D.str)), some (.tup (iD b.2)), e11, e12]) (μ ++ .lst ((after gs ins bs (j + 1)).2.map fun r => .lst (iD r)) :: m)) :
    (L_gate_waves_1 [some e0, some e1, some (.tup (ins.map inD)), some (.tup (gs.map dG)), some (.lst ((bl gs).map nD)), e5, e6, some (.dct false (bxD gs (after gs ins bs j).1)), some (.ref μ.length), some (.tup (b.1.map D.str)), some (.tup (iD b.2)), e11, e12]).run R E (μ ++ .lst ((after gs ins bs j).2.map fun r => .lst (iD r)) :: m) := by
  have K := known_at A e
  have nb := A.nb
  have few := A.few
  have lt := (List.getElem?_eq_some_iff.mp e).1
  have big := sl1000
  have al := after_len (gs := gs) (ins := ins) j (Nat.le_of_lt lt)
  simp only [L_gate_waves_1, defW, sSeq, sIf, sSet, sRet, sRetN, sExpr, sPar, two, sFor, sRaise, dB, dOp, dUn, dV, dC, dIfE, dM1, dJoin.isS, dSl, dPart, dNoPart, dNot, dAnd, dOr, dNotV, dOrV, dAndV, dChain, dCall, dOwn, dTup, dLst, dLstM, aCons, aNil, dTru, slot, startD, iOf, its, itsOf, itm, run_bnd, run_ret, run_fail, run_chk, run_rd, run_wr, run_any, run_nox, run_exn, run_tag, see, look, lookM, W.opt, s1, s2, c1, c2, asB, List.map, List.replicate, List.append_eq, List.cons_append, List.nil_append, List.set, andThen, endF, sNil, wipeD, dTrue, gE2, run_atT, run_atL, atI_0, atI_1, atI_2, atI_3, atI_4, run_optS, if_true, if_false, Bool.false_eq_true, decide_true, decide_false, Bool.not_true, Bool.not_false, true_and, and_true, gXorI, gOrI, gAndI, gShl, gShr, DL.gSub, gNeg, oI0, oI, gLt, gGt, gLe, gGe, gOrd, run_inbits A.i.few A.i.small]
  refine ⟨rfl, rfl, run_gib K ?_⟩
  simp only [dDc, defW, sSeq, sIf, sSet, sRet, sRetN, sExpr, sPar, two, sFor, sRaise, dB, dOp, dUn, dV, dC, dIfE, dM1, dJoin.isS, dSl, dPart, dNoPart, dNot, dAnd, dOr, dNotV, dOrV, dAndV, dChain, dCall, dOwn, dTup, dLst, dLstM, aCons, aNil, dTru, slot, startD, iOf, its, itsOf, itm, run_bnd, run_ret, run_fail, run_chk, run_rd, run_wr, run_any, run_nox, run_exn, run_tag, see, look, lookM, W.opt, s1, s2, c1, c2, asB, List.map, List.replicate, List.append_eq, List.cons_append, List.nil_append, List.set, andThen, endF, sNil, wipeD, dTrue, gE2, run_atT, run_atL, atI_0, atI_1, atI_2, atI_3, atI_4, run_optS, if_true, if_false, Bool.false_eq_true, decide_true, decide_false, Bool.not_true, Bool.not_false, true_and, and_true, gXorI, gOrI, gAndI, gShl, gShr, DL.gSub, gNeg, oI0, oI, gLt, gGt, gLe, gGe, gOrd]
  rw [run_dcA (p := fun _ => True) (e := nD) (t := fun _ => true) (k := nD) (v := fun g => .int (nxt gs b.1 (beatV gs ins (after gs ins bs j).1 b) (after gs ins bs j).1 g)) True.intro]
  · rw [List.filter_eq_self.mpr (fun _ _ => rfl)]
    rw [show ((bl gs).map fun x => (nD x, D.int (nxt gs b.1 (beatV gs ins (after gs ins bs j).1 b) (after gs ins bs j).1 x))) = bxD gs (after gs ins bs (j + 1)).1 by rw [after_succ e]; rfl, dputs_bxD]
    simp only [gMkD, defW, sSeq, sIf, sSet, sRet, sRetN, sExpr, sPar, two, sFor, sRaise, dB, dOp, dUn, dV, dC, dIfE, dM1, dJoin.isS, dSl, dPart, dNoPart, dNot, dAnd, dOr, dNotV, dOrV, dAndV, dChain, dCall, dOwn, dTup, dLst, dLstM, aCons, aNil, dTru, slot, startD, iOf, its, itsOf, itm, run_bnd, run_ret, run_fail, run_chk, run_rd, run_wr, run_any, run_nox, run_exn, run_tag, see, look, lookM, W.opt, s1, s2, c1, c2, asB, List.map, List.replicate, List.append_eq, List.cons_append, List.nil_append, List.set, andThen, endF, sNil, wipeD, dTrue, gE2, run_atT, run_atL, atI_0, atI_1, atI_2, atI_3, atI_4, run_optS, if_true, if_false, Bool.false_eq_true, decide_true, decide_false, Bool.not_true, Bool.not_false, true_and, and_true, gXorI, gOrI, gAndI, gShl, gShr, DL.gSub, gNeg, oI0, oI, gLt, gGt, gLe, gGe, gOrd, List.append_assoc, List.cons_append]
    rw [run_met rfl get_mid]
    simp only [defW, sSeq, sIf, sSet, sRet, sRetN, sExpr, sPar, two, sFor, sRaise, dB, dOp, dUn, dV, dC, dIfE, dM1, dJoin.isS, dSl, dPart, dNoPart, dNot, dAnd, dOr, dNotV, dOrV, dAndV, dChain, dCall, dOwn, dTup, dLst, dLstM, aCons, aNil, dTru, slot, startD, iOf, its, itsOf, itm, run_bnd, run_ret, run_fail, run_chk, run_rd, run_wr, run_any, run_nox, run_exn, run_tag, see, look, lookM, W.opt, s1, s2, c1, c2, asB, List.map, List.replicate, List.append_eq, List.cons_append, List.nil_append, List.set, andThen, endF, sNil, wipeD, dTrue, gE2, run_atT, run_atL, atI_0, atI_1, atI_2, atI_3, atI_4, run_optS, if_true, if_false, Bool.false_eq_true, decide_true, decide_false, Bool.not_true, Bool.not_false, true_and, and_true, gXorI, gOrI, gAndI, gShl, gShr, DL.gSub, gNeg, oI0, oI, gLt, gGt, gLe, gGe, gOrd]
    rw [run_append get_mid (by rw [List.length_map]; omega), set_mid]
    have := q e5 e6 (some (.lst (iD (beatV gs ins (after gs ins bs j).1 b)))) (m ++ [.gone])
    rw [show ((after gs ins bs (j + 1)).2.map fun r => D.lst (iD r)) = ((after gs ins bs j).2.map fun r => D.lst (iD r)) ++ [.lst (iD (beatV gs ins (after gs ins bs j).1 b))] by rw [after_succ e]; exact List.map_append] at this
    exact this
  · have := bl_len gs
    rw [List.length_nil]
    omega
  · intro i hi
    obtain ⟨c, v, f, eg⟩ := bl_mem.mp hi
    refine ⟨_, rfl, fun _ => rfl, fun _ => ⟨fun Q' => ?_, fun Q' => ?_, rfl⟩⟩
    · simp only [defW, sSeq, sIf, sSet, sRet, sRetN, sExpr, sPar, two, sFor, sRaise, dB, dOp, dUn, dV, dC, dIfE, dM1, dJoin.isS, dSl, dPart, dNoPart, dNot, dAnd, dOr, dNotV, dOrV, dAndV, dChain, dCall, dOwn, dTup, dLst, dLstM, aCons, aNil, dTru, slot, startD, iOf, its, itsOf, itm, run_bnd, run_ret, run_fail, run_chk, run_rd, run_wr, run_any, run_nox, run_exn, run_tag, see, look, lookM, W.opt, s1, s2, c1, c2, asB, List.map, List.replicate, List.append_eq, List.cons_append, List.nil_append, List.set, andThen, endF, sNil, wipeD, dTrue, gE2, run_atT, run_atL, atI_0, atI_1, atI_2, atI_3, atI_4, run_optS, if_true, if_false, Bool.false_eq_true, decide_true, decide_false, Bool.not_true, Bool.not_false, true_and, and_true, gXorI, gOrI, gAndI, gShl, gShr, DL.gSub, gNeg, oI0, oI, gLt, gGt, gLe, gGe, gOrd]
    · have lf : f < (stp (after gs ins bs j).1 (knV ins b.2) gs []).length := by
        rw [stp_len, List.length_nil, Nat.zero_add]
        exact (A.g i _ eg).2.2
      have li : i < (stp (after gs ins bs j).1 (knV ins b.2) gs []).length := by
        rw [stp_len, List.length_nil, Nat.zero_add]
        exact (List.getElem?_eq_some_iff.mp eg).1
      have en : nxt gs b.1 (beatV gs ins (after gs ins bs j).1 b) (after gs ins bs j).1 i = if c ∈ b.1 then (beatV gs ins (after gs ins bs j).1 b).getD f 0 else (after gs ins bs j).1 i := by
        unfold nxt
        rw [eg]
      simp only [defW, sSeq, sIf, sSet, sRet, sRetN, sExpr, sPar, two, sFor, sRaise, dB, dOp, dUn, dV, dC, dIfE, dM1, dJoin.isS, dSl, dPart, dNoPart, dNot, dAnd, dOr, dNotV, dOrV, dAndV, dChain, dCall, dOwn, dTup, dLst, dLstM, aCons, aNil, dTru, slot, startD, iOf, its, itsOf, itm, run_bnd, run_ret, run_fail, run_chk, run_rd, run_wr, run_any, run_nox, run_exn, run_tag, see, look, lookM, W.opt, s1, s2, c1, c2, asB, List.map, List.replicate, List.append_eq, List.cons_append, List.nil_append, List.set, andThen, endF, sNil, wipeD, dTrue, gE2, run_atT, run_atL, atI_0, atI_1, atI_2, atI_3, atI_4, run_optS, if_true, if_false, Bool.false_eq_true, decide_true, decide_false, Bool.not_true, Bool.not_false, true_and, and_true, gXorI, gOrI, gAndI, gShl, gShr, DL.gSub, gNeg, oI0, oI, gLt, gGt, gLe, gGe, gOrd, run_atT, gs_at eg, dG, mem_strs, en]
      by_cases h : c ∈ b.1
      · simp only [h, decide_true, if_true, defW, sSeq, sIf, sSet, sRet, sRetN, sExpr, sPar, two, sFor, sRaise, dB, dOp, dUn, dV, dC, dIfE, dM1, dJoin.isS, dSl, dPart, dNoPart, dNot, dAnd, dOr, dNotV, dOrV, dAndV, dChain, dCall, dOwn, dTup, dLst, dLstM, aCons, aNil, dTru, slot, startD, iOf, its, itsOf, itm, run_bnd, run_ret, run_fail, run_chk, run_rd, run_wr, run_any, run_nox, run_exn, run_tag, see, look, lookM, W.opt, s1, s2, c1, c2, asB, List.map, List.replicate, List.append_eq, List.cons_append, List.nil_append, List.set, andThen, endF, sNil, wipeD, dTrue, gE2, run_atT, run_atL, atI_0, atI_1, atI_2, atI_3, atI_4, run_optS, if_true, if_false, Bool.false_eq_true, decide_true, decide_false, Bool.not_true, Bool.not_false, true_and, and_true, gXorI, gOrI, gAndI, gShl, gShr, DL.gSub, gNeg, oI0, oI, gLt, gGt, gLe, gGe, gOrd, run_atT, gs_at eg, dG, run_atL, iD_get lf]
        rfl
      · simp only [h, decide_false, if_false, defW, sSeq, sIf, sSet, sRet, sRetN, sExpr, sPar, two, sFor, sRaise, dB, dOp, dUn, dV, dC, dIfE, dM1, dJoin.isS, dSl, dPart, dNoPart, dNot, dAnd, dOr, dNotV, dOrV, dAndV, dChain, dCall, dOwn, dTup, dLst, dLstM, aCons, aNil, dTru, slot, startD, iOf, its, itsOf, itm, run_bnd, run_ret, run_fail, run_chk, run_rd, run_wr, run_any, run_nox, run_exn, run_tag, see, look, lookM, W.opt, s1, s2, c1, c2, asB, List.map, List.replicate, List.append_eq, List.cons_append, List.nil_append, List.set, andThen, endF, sNil, wipeD, dTrue, gE2, run_atT, run_atL, atI_0, atI_1, atI_2, atI_3, atI_4, run_optS, if_true, if_false, Bool.false_eq_true, decide_true, decide_false, Bool.not_true, Bool.not_false, true_and, and_true, gXorI, gOrI, gAndI, gShl, gShr, DL.gSub, gNeg, oI0, oI, gLt, gGt, gLe, gGe, gOrd, run_atL, iD_get li, stp_box eg, Bool.false_eq_true]
def netD (gs : List Gt) (rest : List D) : D := .tup (.tup (gs.map dG) :: rest)
theorem run_waves (A : OkAll gs ins bs) (q : ∀ m, Q (wavesD gs ins bs) (μ ++ m)) : (F_gate_waves [netD gs rest, .tup (bs.map bD), .tup (ins.map inD)]).run Q E μ := by
  have nb := A.nb
  have few := A.few
  have big := sl1000
  have z0 : (0 : Nat) ≤ sizeLine := Nat.zero_le _
  unfold F_gate_waves
  simp only [B_gate_waves, netD, defW, sSeq, sIf, sSet, sRet, sRetN, sExpr, sPar, two, sFor, sRaise, dB, dOp, dUn, dV, dC, dIfE, dM1, dJoin.isS, dSl, dPart, dNoPart, dNot, dAnd, dOr, dNotV, dOrV, dAndV, dChain, dCall, dOwn, dTup, dLst, dLstM, aCons, aNil, dTru, slot, startD, iOf, its, itsOf, itm, run_bnd, run_ret, run_fail, run_chk, run_rd, run_wr, run_any, run_nox, run_exn, run_tag, see, look, lookM, W.opt, s1, s2, c1, c2, asB, List.map, List.replicate, List.append_eq, List.cons_append, List.nil_append, List.set, andThen, endF, sNil, wipeD, dTrue, gE2, run_atT, run_atL, atI_0, atI_1, atI_2, atI_3, atI_4, run_optS, if_true, if_false, Bool.false_eq_true, decide_true, decide_false, Bool.not_true, Bool.not_false, true_and, and_true, gXorI, gOrI, gAndI, gShl, gShr, DL.gSub, gNeg, oI0, oI, gLt, gGt, gLe, gGe, gOrd]
  rw [run_boxes (f := fun z => nD z.2) A.g few]
  · rw [bl_map]
    simp only [dDc, defW, sSeq, sIf, sSet, sRet, sRetN, sExpr, sPar, two, sFor, sRaise, dB, dOp, dUn, dV, dC, dIfE, dM1, dJoin.isS, dSl, dPart, dNoPart, dNot, dAnd, dOr, dNotV, dOrV, dAndV, dChain, dCall, dOwn, dTup, dLst, dLstM, aCons, aNil, dTru, slot, startD, iOf, its, itsOf, itm, run_bnd, run_ret, run_fail, run_chk, run_rd, run_wr, run_any, run_nox, run_exn, run_tag, see, look, lookM, W.opt, s1, s2, c1, c2, asB, List.map, List.replicate, List.append_eq, List.cons_append, List.nil_append, List.set, andThen, endF, sNil, wipeD, dTrue, gE2, run_atT, run_atL, atI_0, atI_1, atI_2, atI_3, atI_4, run_optS, if_true, if_false, Bool.false_eq_true, decide_true, decide_false, Bool.not_true, Bool.not_false, true_and, and_true, gXorI, gOrI, gAndI, gShl, gShr, DL.gSub, gNeg, oI0, oI, gLt, gGt, gLe, gGe, gOrd]
    rw [run_dcA (p := fun _ => True) (e := nD) (t := fun _ => true) (k := nD) (v := fun g => .int (binit gs g)) True.intro]
    · rw [List.filter_eq_self.mpr (fun _ _ => rfl)]
      rw [show ((bl gs).map fun x => (nD x, D.int (binit gs x))) = bxD gs (after gs ins bs 0).1 from rfl, dputs_bxD]
      simp only [gMkD, defW, sSeq, sIf, sSet, sRet, sRetN, sExpr, sPar, two, sFor, sRaise, dB, dOp, dUn, dV, dC, dIfE, dM1, dJoin.isS, dSl, dPart, dNoPart, dNot, dAnd, dOr, dNotV, dOrV, dAndV, dChain, dCall, dOwn, dTup, dLst, dLstM, aCons, aNil, dTru, slot, startD, iOf, its, itsOf, itm, run_bnd, run_ret, run_fail, run_chk, run_rd, run_wr, run_any, run_nox, run_exn, run_tag, see, look, lookM, W.opt, s1, s2, c1, c2, asB, List.map, List.replicate, List.append_eq, List.cons_append, List.nil_append, List.set, andThen, endF, sNil, wipeD, dTrue, gE2, run_atT, run_atL, atI_0, atI_1, atI_2, atI_3, atI_4, run_optS, if_true, if_false, Bool.false_eq_true, decide_true, decide_false, Bool.not_true, Bool.not_false, true_and, and_true, gXorI, gOrI, gAndI, gShl, gShr, DL.gSub, gNeg, oI0, oI, gLt, gGt, gLe, gGe, gOrd, List.length_nil, z0, DL.alloc]
      refine run_forI (fun j ε μ' => ∃ e5 e6 e9 e10 e11 m, ε = [some (.tup (.tup (gs.map dG) :: rest)), some (.tup (bs.map bD)), some (.tup (ins.map inD)), some (.tup (gs.map dG)), some (.lst ((bl gs).map nD)), e5, e6, some (.dct false (bxD gs (after gs ins bs j).1)), some (.ref μ.length), e9, e10, e11, none] ∧ μ' = μ ++ .lst ((after gs ins bs j).2.map fun r => .lst (iD r)) :: m) _ 0 ?_ ?_ ⟨none, none, none, none, none, [], rfl, rfl⟩
      · rintro j x ε μ' ex ⟨e5, e6, e9, e10, e11, m, rfl, rfl⟩
        rw [Nat.zero_add]
        obtain ⟨b, eb, rfl⟩ := bd_at ex
        refine ⟨True.intro, _, rfl, run_gw_body A eb fun e5 e6 e11 m => ⟨_, _, _, _, _, _, rfl, rfl⟩⟩
      · rintro ε μ' ⟨e5, e6, e9, e10, e11, m, rfl, rfl⟩
        refine ⟨True.intro, ?_⟩
        rw [Nat.zero_add, List.length_map]
        have h1 : -(2 ^ 62) ≤ (gs.length : Int) ∧ (gs.length : Int) < 2 ^ 62 := ⟨by omega, by omega⟩
        have h2 : gs.length < sizeLine := by omega
        have h3 : bs.length < sizeLine := by omega
        simp only [defW, sSeq, sIf, sSet, sRet, sRetN, sExpr, sPar, two, sFor, sRaise, dB, dOp, dUn, dV, dC, dIfE, dM1, dJoin.isS, dSl, dPart, dNoPart, dNot, dAnd, dOr, dNotV, dOrV, dAndV, dChain, dCall, dOwn, dTup, dLst, dLstM, aCons, aNil, dTru, slot, startD, iOf, its, itsOf, itm, run_bnd, run_ret, run_fail, run_chk, run_rd, run_wr, run_any, run_nox, run_exn, run_tag, see, look, lookM, W.opt, s1, s2, c1, c2, asB, List.map, List.replicate, List.append_eq, List.cons_append, List.nil_append, List.set, andThen, endF, sNil, wipeD, dTrue, gE2, run_atT, run_atL, atI_0, atI_1, atI_2, atI_3, atI_4, run_optS, if_true, if_false, Bool.false_eq_true, decide_true, decide_false, Bool.not_true, Bool.not_false, true_and, and_true, gXorI, gOrI, gAndI, gShl, gShr, DL.gSub, gNeg, oI0, oI, gLt, gGt, gLe, gGe, gOrd, dLc, gLen, rng1, h1, Int.toNat_natCast, rngD_map, List.length_map, List.length_range, h2]
        rw [run_lcA (p := fun _ => True) (e := nD) (t := fun _ => true) (f := fun g => .tup ((after gs ins bs bs.length).2.map fun r => .int (r.getD g 0))) True.intro]
        · rw [List.filter_eq_self.mpr (fun _ _ => rfl)]
          exact q (.lst ((after gs ins bs bs.length).2.map fun r => .lst (iD r)) :: m)
        · intro i hi
          have li : i < gs.length := List.mem_range.mp hi
          refine ⟨_, rfl, fun _ => rfl, fun _ Q' => ?_⟩
          simp only [defW, sSeq, sIf, sSet, sRet, sRetN, sExpr, sPar, two, sFor, sRaise, dB, dOp, dUn, dV, dC, dIfE, dM1, dJoin.isS, dSl, dPart, dNoPart, dNot, dAnd, dOr, dNotV, dOrV, dAndV, dChain, dCall, dOwn, dTup, dLst, dLstM, aCons, aNil, dTru, slot, startD, iOf, its, itsOf, itm, run_bnd, run_ret, run_fail, run_chk, run_rd, run_wr, run_any, run_nox, run_exn, run_tag, see, look, lookM, W.opt, s1, s2, c1, c2, asB, List.map, List.replicate, List.append_eq, List.cons_append, List.nil_append, List.set, andThen, endF, sNil, wipeD, dTrue, gE2, run_atT, run_atL, atI_0, atI_1, atI_2, atI_3, atI_4, run_optS, if_true, if_false, Bool.false_eq_true, decide_true, decide_false, Bool.not_true, Bool.not_false, true_and, and_true, gXorI, gOrI, gAndI, gShl, gShr, DL.gSub, gNeg, oI0, oI, gLt, gGt, gLe, gGe, gOrd, dLc, get_mid, List.length_map, after_len (gs := gs) (ins := ins) bs.length (Nat.le_refl _), h3]
          rw [run_lcA (p := fun μ' => μ'[μ.length]? = some (.lst ((after gs ins bs bs.length).2.map fun r => .lst (iD r)))) (e := fun r => D.lst (iD r)) (t := fun _ => true) (f := fun r => .int (r.getD i 0)) get_mid]
          · rw [List.filter_eq_self.mpr (fun _ _ => rfl)]
            rfl
          · intro r hr
            refine ⟨_, rfl, fun _ => rfl, fun _ Q' => ?_⟩
            have lr : i < r.length := by
              rw [after_row A hr]
              exact li
            simp only [defW, sSeq, sIf, sSet, sRet, sRetN, sExpr, sPar, two, sFor, sRaise, dB, dOp, dUn, dV, dC, dIfE, dM1, dJoin.isS, dSl, dPart, dNoPart, dNot, dAnd, dOr, dNotV, dOrV, dAndV, dChain, dCall, dOwn, dTup, dLst, dLstM, aCons, aNil, dTru, slot, startD, iOf, its, itsOf, itm, run_bnd, run_ret, run_fail, run_chk, run_rd, run_wr, run_any, run_nox, run_exn, run_tag, see, look, lookM, W.opt, s1, s2, c1, c2, asB, List.map, List.replicate, List.append_eq, List.cons_append, List.nil_append, List.set, andThen, endF, sNil, wipeD, dTrue, gE2, run_atT, run_atL, atI_0, atI_1, atI_2, atI_3, atI_4, run_optS, if_true, if_false, Bool.false_eq_true, decide_true, decide_false, Bool.not_true, Bool.not_false, true_and, and_true, gXorI, gOrI, gAndI, gShl, gShr, DL.gSub, gNeg, oI0, oI, gLt, gGt, gLe, gGe, gOrd, iD_get lr]
    · have := bl_len gs
      rw [List.length_nil]
      omega
    · intro i hi
      obtain ⟨c, v, f, eg⟩ := bl_mem.mp hi
      have en : binit gs i = v := by
        unfold binit
        rw [eg]
      refine ⟨_, rfl, fun _ => rfl, fun _ => ⟨fun Q' => ?_, fun Q' => ?_, rfl⟩⟩
      · simp only [defW, sSeq, sIf, sSet, sRet, sRetN, sExpr, sPar, two, sFor, sRaise, dB, dOp, dUn, dV, dC, dIfE, dM1, dJoin.isS, dSl, dPart, dNoPart, dNot, dAnd, dOr, dNotV, dOrV, dAndV, dChain, dCall, dOwn, dTup, dLst, dLstM, aCons, aNil, dTru, slot, startD, iOf, its, itsOf, itm, run_bnd, run_ret, run_fail, run_chk, run_rd, run_wr, run_any, run_nox, run_exn, run_tag, see, look, lookM, W.opt, s1, s2, c1, c2, asB, List.map, List.replicate, List.append_eq, List.cons_append, List.nil_append, List.set, andThen, endF, sNil, wipeD, dTrue, gE2, run_atT, run_atL, atI_0, atI_1, atI_2, atI_3, atI_4, run_optS, if_true, if_false, Bool.false_eq_true, decide_true, decide_false, Bool.not_true, Bool.not_false, true_and, and_true, gXorI, gOrI, gAndI, gShl, gShr, DL.gSub, gNeg, oI0, oI, gLt, gGt, gLe, gGe, gOrd]
      · simp only [defW, sSeq, sIf, sSet, sRet, sRetN, sExpr, sPar, two, sFor, sRaise, dB, dOp, dUn, dV, dC, dIfE, dM1, dJoin.isS, dSl, dPart, dNoPart, dNot, dAnd, dOr, dNotV, dOrV, dAndV, dChain, dCall, dOwn, dTup, dLst, dLstM, aCons, aNil, dTru, slot, startD, iOf, its, itsOf, itm, run_bnd, run_ret, run_fail, run_chk, run_rd, run_wr, run_any, run_nox, run_exn, run_tag, see, look, lookM, W.opt, s1, s2, c1, c2, asB, List.map, List.replicate, List.append_eq, List.cons_append, List.nil_append, List.set, andThen, endF, sNil, wipeD, dTrue, gE2, run_atT, run_atL, atI_0, atI_1, atI_2, atI_3, atI_4, run_optS, if_true, if_false, Bool.false_eq_true, decide_true, decide_false, Bool.not_true, Bool.not_false, true_and, and_true, gXorI, gOrI, gAndI, gShl, gShr, DL.gSub, gNeg, oI0, oI, gLt, gGt, gLe, gGe, gOrd, run_atT, gs_at eg, dG, en]
  · intro Q'
    simp only [defW, sSeq, sIf, sSet, sRet, sRetN, sExpr, sPar, two, sFor, sRaise, dB, dOp, dUn, dV, dC, dIfE, dM1, dJoin.isS, dSl, dPart, dNoPart, dNot, dAnd, dOr, dNotV, dOrV, dAndV, dChain, dCall, dOwn, dTup, dLst, dLstM, aCons, aNil, dTru, slot, startD, iOf, its, itsOf, itm, run_bnd, run_ret, run_fail, run_chk, run_rd, run_wr, run_any, run_nox, run_exn, run_tag, see, look, lookM, W.opt, s1, s2, c1, c2, asB, List.map, List.replicate, List.append_eq, List.cons_append, List.nil_append, List.set, andThen, endF, sNil, wipeD, dTrue, gE2, run_atT, run_atL, atI_0, atI_1, atI_2, atI_3, atI_4, run_optS, if_true, if_false, Bool.false_eq_true, decide_true, decide_false, Bool.not_true, Bool.not_false, true_and, and_true, gXorI, gOrI, gAndI, gShl, gShr, DL.gSub, gNeg, oI0, oI, gLt, gGt, gLe, gGe, gOrd, gIts, gEnum, kdOk]
  · intro i g eg
    refine ⟨_, rfl, fun Q' => ?_, fun _ Q' => ?_⟩
    · obtain ⟨w, r, e1, e2⟩ := word_box (A.g i g eg)
      simp only [defW, sSeq, sIf, sSet, sRet, sRetN, sExpr, sPar, two, sFor, sRaise, dB, dOp, dUn, dV, dC, dIfE, dM1, dJoin.isS, dSl, dPart, dNoPart, dNot, dAnd, dOr, dNotV, dOrV, dAndV, dChain, dCall, dOwn, dTup, dLst, dLstM, aCons, aNil, dTru, slot, startD, iOf, its, itsOf, itm, run_bnd, run_ret, run_fail, run_chk, run_rd, run_wr, run_any, run_nox, run_exn, run_tag, see, look, lookM, W.opt, s1, s2, c1, c2, asB, List.map, List.replicate, List.append_eq, List.cons_append, List.nil_append, List.set, andThen, endF, sNil, wipeD, dTrue, gE2, run_atT, run_atL, atI_0, atI_1, atI_2, atI_3, atI_4, run_optS, if_true, if_false, Bool.false_eq_true, decide_true, decide_false, Bool.not_true, Bool.not_false, true_and, and_true, gXorI, gOrI, gAndI, gShl, gShr, DL.gSub, gNeg, oI0, oI, gLt, gGt, gLe, gGe, gOrd, e1, e2]
    · simp only [defW, sSeq, sIf, sSet, sRet, sRetN, sExpr, sPar, two, sFor, sRaise, dB, dOp, dUn, dV, dC, dIfE, dM1, dJoin.isS, dSl, dPart, dNoPart, dNot, dAnd, dOr, dNotV, dOrV, dAndV, dChain, dCall, dOwn, dTup, dLst, dLstM, aCons, aNil, dTru, slot, startD, iOf, its, itsOf, itm, run_bnd, run_ret, run_fail, run_chk, run_rd, run_wr, run_any, run_nox, run_exn, run_tag, see, look, lookM, W.opt, s1, s2, c1, c2, asB, List.map, List.replicate, List.append_eq, List.cons_append, List.nil_append, List.set, andThen, endF, sNil, wipeD, dTrue, gE2, run_atT, run_atL, atI_0, atI_1, atI_2, atI_3, atI_4, run_optS, if_true, if_false, Bool.false_eq_true, decide_true, decide_false, Bool.not_true, Bool.not_false, true_and, and_true, gXorI, gOrI, gAndI, gShl, gShr, DL.gSub, gNeg, oI0, oI, gLt, gGt, gLe, gGe, gOrd]
end
end K34

namespace K34
open PySem PySem.Spec PyProof.Rows L2 Kit DL
section
variable {Q : D → Mu → Prop} {E : Exn → Mu → Prop} {μ : Mu}
/-! ### the law's step -/
theorem w_is_in : decide (("is" : Str) = "in") = false := by decide +kernel
theorem two_le : 0 + 1 + 1 ≤ sizeLine := by decide
theorem mem_ib {w : Str} : (gMem false (.str w) (.tup [.str "is", .str "box"])).run Q E μ = Q (.bl (decide (w = "is") || decide (w = "box"))) μ := by
  have h : (gMem false (.str w) (.tup (([("is" : Str), "box"]).map D.str))).run Q E μ = Q (.bl (decide (w ∈ [("is" : Str), "box"]))) μ := mem_strs (ss := [("is" : Str), "box"])
  refine h.trans ?_
  have e : decide (w ∈ (["is", "box"] : List Str)) = (decide (w = "is") || decide (w = "box")) := by simp
  rw [e]
theorem w_in_nt : decide (("in" : Str) = "not") = false := by decide +kernel
theorem w_bx_nt : decide (("box" : Str) = "not") = false := by decide +kernel
def wordsD : List D := [.str "and", .str "or", .str "xor"]
theorem ix_and : ([PyData.str "and", .str "or", .str "xor"].findIdx? fun z => PyData.eqv z (.str "and")) = some 0 := by decide +kernel
theorem ix_or : ([PyData.str "and", .str "or", .str "xor"].findIdx? fun z => PyData.eqv z (.str "or")) = some 1 := by decide +kernel
theorem ix_xor : ([PyData.str "and", .str "or", .str "xor"].findIdx? fun z => PyData.eqv z (.str "xor")) = some 2 := by decide +kernel
theorem run_ix {w : Str} {j : Nat} (hw : SeqAt.shaped (PyData.str w) = true) (h : ([PyData.str "and", .str "or", .str "xor"].findIdx? fun z => PyData.eqv z (.str w)) = some j) : (gIndex (.lst [.str "and", .str "or", .str "xor"]) [.str w]).run Q E μ = Q (nD j) μ := by
  show ((SeqAt.shaped (.list [PyData.str "and", .str "or", .str "xor"]) = true ∧ SeqAt.shaped (PyData.str w) = true) ∧ (W.bnd (W.opt ([PyData.str "and", .str "or", .str "xor"].findIdx? fun z => PyData.eqv z (.str w))) fun j => W.ret (D.int (j : Nat))).run Q E μ) = _
  rw [h, propext (and_iff_right (⟨by decide +kernel, hw⟩ : SeqAt.shaped (.list [PyData.str "and", .str "or", .str "xor"]) = true ∧ SeqAt.shaped (PyData.str w) = true))]
  rfl
theorem run_metL {g : D → List D → W D} {f : DS → W D} {fa : DS → W (List D)} {ε : DS} {xs : List D} (hf : ∀ Q' : D → Mu → Prop, (f ε).run Q' E μ = Q' (.lst xs) μ) : (dMet g f fa ε).run Q E μ = (fa ε).run (fun ds μ1 => (g (.lst xs) ds).run Q E μ1) E μ := by
  unfold dMet
  rw [run_bnd, hf]
  rfl
theorem three_sz : 0 + 1 + 1 + 1 ≤ sizeLine := by decide
/-- what is asked of the law's dicts -/
structure Known2 (Ks : List (Str × Nat)) (gs : List Gt) (bx : Nat → Int) (kn : Str → Nat → Int) (bxs kns : List (D × D)) : Prop where
  v : Vals01 Ks bx kn
  ok : okGs Ks gs
  few : gs.length ≤ 1000
  bxs : ∀ (i : Nat) c b f, gs[i]? = some (.box c b f) → dval bxs (nD i) = some (.int (bx i))
  kns : ∀ p k, (p, k) ∈ Ks → ∃ w, dval kns (.str p) = some (.int w) ∧ kn p k = wbit w k
variable {Ks : List (Str × Nat)} {gs : List Gt} {bx : Nat → Int} {kn : Str → Nat → Int} {bxs kns : List (D × D)}
theorem run_step_step (K : Known2 Ks gs bx kn bxs kns) {i r : Nat} {g : Gt} (e : gs[i]? = some g) {e6 e7 : Option D} {G : D} {R : Fl → Mu → Prop} (hr : μ[r]? = some (.dct false bxs))
    (q : ∀ e6 e7, R (.nx [some G, some (.ref r), some (.dct false kns), some (.ref μ.length), some (nD i), some (dG g), e6, e7]) (μ ++ [.lst (iD (stp bx kn (gs.take (i + 1)) []))])) :
    (L_l_stepped_1 [some G, some (.ref r), some (.dct false kns), some (.ref μ.length), some (nD i), some (dG g), e6, e7]).run R E (μ ++ [.lst (iD (stp bx kn (gs.take i) []))]) := by
  have lt := (List.getElem?_eq_some_iff.mp e).1
  have ok := K.ok i g e
  have el : (stp bx kn (gs.take i) []).length = i := by
    rw [stp_len, List.length_take, List.length_nil]
    omega
  have p01 := stp_01 K.v K.ok i (Nat.le_of_lt lt)
  have few := K.few
  have big := sl1000
  rw [stp_take e] at q
  generalize stp bx kn (gs.take i) [] = acc at el p01 q ⊢
  have hlen : (iD acc).length < sizeLine := by rw [List.length_map]; omega
  have hr' : (μ ++ [.lst (iD acc)])[r]? = some (.dct false bxs) := by
    rw [List.getElem?_append_left (List.getElem?_eq_some_iff.mp hr).1]
    exact hr
  have app : ∀ (y : Int) (e6 e7 : Option D), y = gv bx kn acc i g → (gAppend (.ref μ.length) [.int y]).run (fun _ μ' => R (.nx [some G, some (.ref r), some (.dct false kns), some (.ref μ.length), some (nD i), some (dG g), e6, e7]) μ') E (μ ++ [.lst (iD acc)]) := fun y e6 e7 ey => by
    rw [run_append get_last hlen, set_last]
    have := q e6 e7
    rw [show iD (acc ++ [gv bx kn acc i g]) = iD acc ++ [.int (gv bx kn acc i g)] from List.map_append] at this
    rw [ey]
    exact this
  have met : ∀ {fa : DS → W (List D)} {g' : D → List D → W D} {R' : D → Mu → Prop} {ε : DS}, dV 3 ε = W.ret (.ref μ.length) → (dMet g' (dV 3) fa ε).run R' E (μ ++ [.lst (iD acc)]) = (fa ε).run (fun ds μ1 => (g' (.ref μ.length) ds).run R' E μ1) E (μ ++ [.lst (iD acc)]) := fun h => run_met h get_last
  cases g with
  | inp p k =>
    obtain ⟨w, ek, ew⟩ := K.kns p k ok
    have k0 : (0 : Int) ≤ (k : Int) := by omega
    simp only [L_l_stepped_1, dG, defW, sSeq, sIf, sSet, sRet, sRetN, sExpr, sPar, two, sFor, sRaise, dB, dOp, dUn, dV, dC, dIfE, dM1, dJoin.isS, dSl, dPart, dNoPart, dNot, dAnd, dOr, dNotV, dOrV, dAndV, dChain, dCall, dOwn, dTup, dLst, dLstM, aCons, aNil, dTru, slot, startD, iOf, its, itsOf, itm, run_bnd, run_ret, run_fail, run_chk, run_rd, run_wr, run_any, run_nox, run_exn, run_tag, see, look, lookM, W.opt, s1, s2, c1, c2, asB, List.map, List.replicate, List.append_eq, List.cons_append, List.nil_append, List.set, andThen, endF, sNil, wipeD, dTrue, gE2, run_atT, run_atL, atI_0, atI_1, atI_2, atI_3, atI_4, run_optS, if_true, if_false, Bool.false_eq_true, decide_true, decide_false, Bool.not_true, Bool.not_false, true_and, and_true, gXorI, gOrI, gAndI, gShl, gShr, DL.gSub, gNeg, oI0, oI, gLt, gGt, gLe, gGe, gOrd, w_in_is, w_in_in, sExpr]
    rw [met rfl]
    simp only [defW, sSeq, sIf, sSet, sRet, sRetN, sExpr, sPar, two, sFor, sRaise, dB, dOp, dUn, dV, dC, dIfE, dM1, dJoin.isS, dSl, dPart, dNoPart, dNot, dAnd, dOr, dNotV, dOrV, dAndV, dChain, dCall, dOwn, dTup, dLst, dLstM, aCons, aNil, dTru, slot, startD, iOf, its, itsOf, itm, run_bnd, run_ret, run_fail, run_chk, run_rd, run_wr, run_any, run_nox, run_exn, run_tag, see, look, lookM, W.opt, s1, s2, c1, c2, asB, List.map, List.replicate, List.append_eq, List.cons_append, List.nil_append, List.set, andThen, endF, sNil, wipeD, dTrue, gE2, run_atT, run_atL, atI_0, atI_1, atI_2, atI_3, atI_4, run_optS, if_true, if_false, Bool.false_eq_true, decide_true, decide_false, Bool.not_true, Bool.not_false, true_and, and_true, gXorI, gOrI, gAndI, gShl, gShr, DL.gSub, gNeg, oI0, oI, gLt, gGt, gLe, gGe, gOrd, run_atD, okS, ek, k0, Int.toNat_natCast]
    exact app _ e6 e7 ew.symm
  | iz b =>
    simp only [L_l_stepped_1, dG, defW, sSeq, sIf, sSet, sRet, sRetN, sExpr, sPar, two, sFor, sRaise, dB, dOp, dUn, dV, dC, dIfE, dM1, dJoin.isS, dSl, dPart, dNoPart, dNot, dAnd, dOr, dNotV, dOrV, dAndV, dChain, dCall, dOwn, dTup, dLst, dLstM, aCons, aNil, dTru, slot, startD, iOf, its, itsOf, itm, run_bnd, run_ret, run_fail, run_chk, run_rd, run_wr, run_any, run_nox, run_exn, run_tag, see, look, lookM, W.opt, s1, s2, c1, c2, asB, List.map, List.replicate, List.append_eq, List.cons_append, List.nil_append, List.set, andThen, endF, sNil, wipeD, dTrue, gE2, run_atT, run_atL, atI_0, atI_1, atI_2, atI_3, atI_4, run_optS, if_true, if_false, Bool.false_eq_true, decide_true, decide_false, Bool.not_true, Bool.not_false, true_and, and_true, gXorI, gOrI, gAndI, gShl, gShr, DL.gSub, gNeg, oI0, oI, gLt, gGt, gLe, gGe, gOrd, w_is_is, w_is_in, sExpr, List.length_cons, List.length_nil, two_le, mem_ib, Bool.true_or]
    rw [met rfl]
    simp only [defW, sSeq, sIf, sSet, sRet, sRetN, sExpr, sPar, two, sFor, sRaise, dB, dOp, dUn, dV, dC, dIfE, dM1, dJoin.isS, dSl, dPart, dNoPart, dNot, dAnd, dOr, dNotV, dOrV, dAndV, dChain, dCall, dOwn, dTup, dLst, dLstM, aCons, aNil, dTru, slot, startD, iOf, its, itsOf, itm, run_bnd, run_ret, run_fail, run_chk, run_rd, run_wr, run_any, run_nox, run_exn, run_tag, see, look, lookM, W.opt, s1, s2, c1, c2, asB, List.map, List.replicate, List.append_eq, List.cons_append, List.nil_append, List.set, andThen, endF, sNil, wipeD, dTrue, gE2, run_atT, run_atL, atI_0, atI_1, atI_2, atI_3, atI_4, run_optS, if_true, if_false, Bool.false_eq_true, decide_true, decide_false, Bool.not_true, Bool.not_false, true_and, and_true, gXorI, gOrI, gAndI, gShl, gShr, DL.gSub, gNeg, oI0, oI, gLt, gGt, gLe, gGe, gOrd, w_is_is]
    exact app _ e6 e7 rfl
  | box c b f =>
    have eb := K.bxs i c b f e
    simp only [L_l_stepped_1, dG, defW, sSeq, sIf, sSet, sRet, sRetN, sExpr, sPar, two, sFor, sRaise, dB, dOp, dUn, dV, dC, dIfE, dM1, dJoin.isS, dSl, dPart, dNoPart, dNot, dAnd, dOr, dNotV, dOrV, dAndV, dChain, dCall, dOwn, dTup, dLst, dLstM, aCons, aNil, dTru, slot, startD, iOf, its, itsOf, itm, run_bnd, run_ret, run_fail, run_chk, run_rd, run_wr, run_any, run_nox, run_exn, run_tag, see, look, lookM, W.opt, s1, s2, c1, c2, asB, List.map, List.replicate, List.append_eq, List.cons_append, List.nil_append, List.set, andThen, endF, sNil, wipeD, dTrue, gE2, run_atT, run_atL, atI_0, atI_1, atI_2, atI_3, atI_4, run_optS, if_true, if_false, Bool.false_eq_true, decide_true, decide_false, Bool.not_true, Bool.not_false, true_and, and_true, gXorI, gOrI, gAndI, gShl, gShr, DL.gSub, gNeg, oI0, oI, gLt, gGt, gLe, gGe, gOrd, w_bx_is, w_bx_in, w_bx_bx, sExpr, List.length_cons, List.length_nil, two_le, mem_ib, Bool.false_or]
    rw [met rfl]
    simp only [defW, sSeq, sIf, sSet, sRet, sRetN, sExpr, sPar, two, sFor, sRaise, dB, dOp, dUn, dV, dC, dIfE, dM1, dJoin.isS, dSl, dPart, dNoPart, dNot, dAnd, dOr, dNotV, dOrV, dAndV, dChain, dCall, dOwn, dTup, dLst, dLstM, aCons, aNil, dTru, slot, startD, iOf, its, itsOf, itm, run_bnd, run_ret, run_fail, run_chk, run_rd, run_wr, run_any, run_nox, run_exn, run_tag, see, look, lookM, W.opt, s1, s2, c1, c2, asB, List.map, List.replicate, List.append_eq, List.cons_append, List.nil_append, List.set, andThen, endF, sNil, wipeD, dTrue, gE2, run_atT, run_atL, atI_0, atI_1, atI_2, atI_3, atI_4, run_optS, if_true, if_false, Bool.false_eq_true, decide_true, decide_false, Bool.not_true, Bool.not_false, true_and, and_true, gXorI, gOrI, gAndI, gShl, gShr, DL.gSub, gNeg, oI0, oI, gLt, gGt, gLe, gGe, gOrd, w_bx_is, run_atRd hr', okI, eb]
    exact app _ e6 e7 rfl
  | nt a =>
    have ha : a < acc.length := by rw [el]; exact ok
    simp only [L_l_stepped_1, dG, defW, sSeq, sIf, sSet, sRet, sRetN, sExpr, sPar, two, sFor, sRaise, dB, dOp, dUn, dV, dC, dIfE, dM1, dJoin.isS, dSl, dPart, dNoPart, dNot, dAnd, dOr, dNotV, dOrV, dAndV, dChain, dCall, dOwn, dTup, dLst, dLstM, aCons, aNil, dTru, slot, startD, iOf, its, itsOf, itm, run_bnd, run_ret, run_fail, run_chk, run_rd, run_wr, run_any, run_nox, run_exn, run_tag, see, look, lookM, W.opt, s1, s2, c1, c2, asB, List.map, List.replicate, List.append_eq, List.cons_append, List.nil_append, List.set, andThen, endF, sNil, wipeD, dTrue, gE2, run_atT, run_atL, atI_0, atI_1, atI_2, atI_3, atI_4, run_optS, if_true, if_false, Bool.false_eq_true, decide_true, decide_false, Bool.not_true, Bool.not_false, true_and, and_true, gXorI, gOrI, gAndI, gShl, gShr, DL.gSub, gNeg, oI0, oI, gLt, gGt, gLe, gGe, gOrd, w_nt_is, w_nt_in, w_nt_bx, w_nn, sExpr, List.length_cons, List.length_nil, two_le, mem_ib, Bool.or_self]
    rw [met rfl]
    simp only [defW, sSeq, sIf, sSet, sRet, sRetN, sExpr, sPar, two, sFor, sRaise, dB, dOp, dUn, dV, dC, dIfE, dM1, dJoin.isS, dSl, dPart, dNoPart, dNot, dAnd, dOr, dNotV, dOrV, dAndV, dChain, dCall, dOwn, dTup, dLst, dLstM, aCons, aNil, dTru, slot, startD, iOf, its, itsOf, itm, run_bnd, run_ret, run_fail, run_chk, run_rd, run_wr, run_any, run_nox, run_exn, run_tag, see, look, lookM, W.opt, s1, s2, c1, c2, asB, List.map, List.replicate, List.append_eq, List.cons_append, List.nil_append, List.set, andThen, endF, sNil, wipeD, dTrue, gE2, run_atT, run_atL, atI_0, atI_1, atI_2, atI_3, atI_4, run_optS, if_true, if_false, Bool.false_eq_true, decide_true, decide_false, Bool.not_true, Bool.not_false, true_and, and_true, gXorI, gOrI, gAndI, gShl, gShr, DL.gSub, gNeg, oI0, oI, gLt, gGt, gLe, gGe, gOrd, run_atR get_last, iD_get ha]
    exact app _ e6 e7 rfl
  | two w a c =>
    obtain ⟨hw, ha, hc⟩ := ok
    rw [← el] at ha hc
    obtain ⟨w1, w2, w3, w4, _⟩ := w_op_is hw
    simp only [L_l_stepped_1, dG, defW, sSeq, sIf, sSet, sRet, sRetN, sExpr, sPar, two, sFor, sRaise, dB, dOp, dUn, dV, dC, dIfE, dM1, dJoin.isS, dSl, dPart, dNoPart, dNot, dAnd, dOr, dNotV, dOrV, dAndV, dChain, dCall, dOwn, dTup, dLst, dLstM, aCons, aNil, dTru, slot, startD, iOf, its, itsOf, itm, run_bnd, run_ret, run_fail, run_chk, run_rd, run_wr, run_any, run_nox, run_exn, run_tag, see, look, lookM, W.opt, s1, s2, c1, c2, asB, List.map, List.replicate, List.append_eq, List.cons_append, List.nil_append, List.set, andThen, endF, sNil, wipeD, dTrue, gE2, run_atT, run_atL, atI_0, atI_1, atI_2, atI_3, atI_4, run_optS, if_true, if_false, Bool.false_eq_true, decide_true, decide_false, Bool.not_true, Bool.not_false, true_and, and_true, gXorI, gOrI, gAndI, gShl, gShr, DL.gSub, gNeg, oI0, oI, gLt, gGt, gLe, gGe, gOrd, w1, w2, w3, w4, sExpr, List.length_cons, List.length_nil, two_le, mem_ib, Bool.or_self, run_atR get_last, iD_get ha, iD_get hc]
    rw [met rfl]
    rcases hw with rfl | rfl | rfl
    · simp only [defW, sSeq, sIf, sSet, sRet, sRetN, sExpr, sPar, two, sFor, sRaise, dB, dOp, dUn, dV, dC, dIfE, dM1, dJoin.isS, dSl, dPart, dNoPart, dNot, dAnd, dOr, dNotV, dOrV, dAndV, dChain, dCall, dOwn, dTup, dLst, dLstM, aCons, aNil, dTru, slot, startD, iOf, its, itsOf, itm, run_bnd, run_ret, run_fail, run_chk, run_rd, run_wr, run_any, run_nox, run_exn, run_tag, see, look, lookM, W.opt, s1, s2, c1, c2, asB, List.map, List.replicate, List.append_eq, List.cons_append, List.nil_append, List.set, andThen, endF, sNil, wipeD, dTrue, gE2, run_atT, run_atL, atI_0, atI_1, atI_2, atI_3, atI_4, run_optS, if_true, if_false, Bool.false_eq_true, decide_true, decide_false, Bool.not_true, Bool.not_false, true_and, and_true, gXorI, gOrI, gAndI, gShl, gShr, DL.gSub, gNeg, oI0, oI, gLt, gGt, gLe, gGe, gOrd, List.length_cons, List.length_nil, three_sz]
      rw [run_metL (xs := [.str "and", .str "or", .str "xor"]) fun _ => by simp only [defW, sSeq, sIf, sSet, sRet, sRetN, sExpr, sPar, two, sFor, sRaise, dB, dOp, dUn, dV, dC, dIfE, dM1, dJoin.isS, dSl, dPart, dNoPart, dNot, dAnd, dOr, dNotV, dOrV, dAndV, dChain, dCall, dOwn, dTup, dLst, dLstM, aCons, aNil, dTru, slot, startD, iOf, its, itsOf, itm, run_bnd, run_ret, run_fail, run_chk, run_rd, run_wr, run_any, run_nox, run_exn, run_tag, see, look, lookM, W.opt, s1, s2, c1, c2, asB, List.map, List.replicate, List.append_eq, List.cons_append, List.nil_append, List.set, andThen, endF, sNil, wipeD, dTrue, gE2, run_atT, run_atL, atI_0, atI_1, atI_2, atI_3, atI_4, run_optS, if_true, if_false, Bool.false_eq_true, decide_true, decide_false, Bool.not_true, Bool.not_false, true_and, and_true, gXorI, gOrI, gAndI, gShl, gShr, DL.gSub, gNeg, oI0, oI, gLt, gGt, gLe, gGe, gOrd, List.length_cons, List.length_nil, three_sz]]
      simp only [defW, sSeq, sIf, sSet, sRet, sRetN, sExpr, sPar, two, sFor, sRaise, dB, dOp, dUn, dV, dC, dIfE, dM1, dJoin.isS, dSl, dPart, dNoPart, dNot, dAnd, dOr, dNotV, dOrV, dAndV, dChain, dCall, dOwn, dTup, dLst, dLstM, aCons, aNil, dTru, slot, startD, iOf, its, itsOf, itm, run_bnd, run_ret, run_fail, run_chk, run_rd, run_wr, run_any, run_nox, run_exn, run_tag, see, look, lookM, W.opt, s1, s2, c1, c2, asB, List.map, List.replicate, List.append_eq, List.cons_append, List.nil_append, List.set, andThen, endF, sNil, wipeD, dTrue, gE2, run_atT, run_atL, atI_0, atI_1, atI_2, atI_3, atI_4, run_optS, if_true, if_false, Bool.false_eq_true, decide_true, decide_false, Bool.not_true, Bool.not_false, true_and, and_true, gXorI, gOrI, gAndI, gShl, gShr, DL.gSub, gNeg, oI0, oI, gLt, gGt, gLe, gGe, gOrd, run_ix (by decide +kernel) ix_and]
      exact app _ _ _ bop_a.symm
    · simp only [defW, sSeq, sIf, sSet, sRet, sRetN, sExpr, sPar, two, sFor, sRaise, dB, dOp, dUn, dV, dC, dIfE, dM1, dJoin.isS, dSl, dPart, dNoPart, dNot, dAnd, dOr, dNotV, dOrV, dAndV, dChain, dCall, dOwn, dTup, dLst, dLstM, aCons, aNil, dTru, slot, startD, iOf, its, itsOf, itm, run_bnd, run_ret, run_fail, run_chk, run_rd, run_wr, run_any, run_nox, run_exn, run_tag, see, look, lookM, W.opt, s1, s2, c1, c2, asB, List.map, List.replicate, List.append_eq, List.cons_append, List.nil_append, List.set, andThen, endF, sNil, wipeD, dTrue, gE2, run_atT, run_atL, atI_0, atI_1, atI_2, atI_3, atI_4, run_optS, if_true, if_false, Bool.false_eq_true, decide_true, decide_false, Bool.not_true, Bool.not_false, true_and, and_true, gXorI, gOrI, gAndI, gShl, gShr, DL.gSub, gNeg, oI0, oI, gLt, gGt, gLe, gGe, gOrd, List.length_cons, List.length_nil, three_sz]
      rw [run_metL (xs := [.str "and", .str "or", .str "xor"]) fun _ => by simp only [defW, sSeq, sIf, sSet, sRet, sRetN, sExpr, sPar, two, sFor, sRaise, dB, dOp, dUn, dV, dC, dIfE, dM1, dJoin.isS, dSl, dPart, dNoPart, dNot, dAnd, dOr, dNotV, dOrV, dAndV, dChain, dCall, dOwn, dTup, dLst, dLstM, aCons, aNil, dTru, slot, startD, iOf, its, itsOf, itm, run_bnd, run_ret, run_fail, run_chk, run_rd, run_wr, run_any, run_nox, run_exn, run_tag, see, look, lookM, W.opt, s1, s2, c1, c2, asB, List.map, List.replicate, List.append_eq, List.cons_append, List.nil_append, List.set, andThen, endF, sNil, wipeD, dTrue, gE2, run_atT, run_atL, atI_0, atI_1, atI_2, atI_3, atI_4, run_optS, if_true, if_false, Bool.false_eq_true, decide_true, decide_false, Bool.not_true, Bool.not_false, true_and, and_true, gXorI, gOrI, gAndI, gShl, gShr, DL.gSub, gNeg, oI0, oI, gLt, gGt, gLe, gGe, gOrd, List.length_cons, List.length_nil, three_sz]]
      simp only [defW, sSeq, sIf, sSet, sRet, sRetN, sExpr, sPar, two, sFor, sRaise, dB, dOp, dUn, dV, dC, dIfE, dM1, dJoin.isS, dSl, dPart, dNoPart, dNot, dAnd, dOr, dNotV, dOrV, dAndV, dChain, dCall, dOwn, dTup, dLst, dLstM, aCons, aNil, dTru, slot, startD, iOf, its, itsOf, itm, run_bnd, run_ret, run_fail, run_chk, run_rd, run_wr, run_any, run_nox, run_exn, run_tag, see, look, lookM, W.opt, s1, s2, c1, c2, asB, List.map, List.replicate, List.append_eq, List.cons_append, List.nil_append, List.set, andThen, endF, sNil, wipeD, dTrue, gE2, run_atT, run_atL, atI_0, atI_1, atI_2, atI_3, atI_4, run_optS, if_true, if_false, Bool.false_eq_true, decide_true, decide_false, Bool.not_true, Bool.not_false, true_and, and_true, gXorI, gOrI, gAndI, gShl, gShr, DL.gSub, gNeg, oI0, oI, gLt, gGt, gLe, gGe, gOrd, run_ix (by decide +kernel) ix_or]
      exact app _ _ _ bop_o.symm
    · simp only [defW, sSeq, sIf, sSet, sRet, sRetN, sExpr, sPar, two, sFor, sRaise, dB, dOp, dUn, dV, dC, dIfE, dM1, dJoin.isS, dSl, dPart, dNoPart, dNot, dAnd, dOr, dNotV, dOrV, dAndV, dChain, dCall, dOwn, dTup, dLst, dLstM, aCons, aNil, dTru, slot, startD, iOf, its, itsOf, itm, run_bnd, run_ret, run_fail, run_chk, run_rd, run_wr, run_any, run_nox, run_exn, run_tag, see, look, lookM, W.opt, s1, s2, c1, c2, asB, List.map, List.replicate, List.append_eq, List.cons_append, List.nil_append, List.set, andThen, endF, sNil, wipeD, dTrue, gE2, run_atT, run_atL, atI_0, atI_1, atI_2, atI_3, atI_4, run_optS, if_true, if_false, Bool.false_eq_true, decide_true, decide_false, Bool.not_true, Bool.not_false, true_and, and_true, gXorI, gOrI, gAndI, gShl, gShr, DL.gSub, gNeg, oI0, oI, gLt, gGt, gLe, gGe, gOrd, List.length_cons, List.length_nil, three_sz]
      rw [run_metL (xs := [.str "and", .str "or", .str "xor"]) fun _ => by simp only [defW, sSeq, sIf, sSet, sRet, sRetN, sExpr, sPar, two, sFor, sRaise, dB, dOp, dUn, dV, dC, dIfE, dM1, dJoin.isS, dSl, dPart, dNoPart, dNot, dAnd, dOr, dNotV, dOrV, dAndV, dChain, dCall, dOwn, dTup, dLst, dLstM, aCons, aNil, dTru, slot, startD, iOf, its, itsOf, itm, run_bnd, run_ret, run_fail, run_chk, run_rd, run_wr, run_any, run_nox, run_exn, run_tag, see, look, lookM, W.opt, s1, s2, c1, c2, asB, List.map, List.replicate, List.append_eq, List.cons_append, List.nil_append, List.set, andThen, endF, sNil, wipeD, dTrue, gE2, run_atT, run_atL, atI_0, atI_1, atI_2, atI_3, atI_4, run_optS, if_true, if_false, Bool.false_eq_true, decide_true, decide_false, Bool.not_true, Bool.not_false, true_and, and_true, gXorI, gOrI, gAndI, gShl, gShr, DL.gSub, gNeg, oI0, oI, gLt, gGt, gLe, gGe, gOrd, List.length_cons, List.length_nil, three_sz]]
      simp only [defW, sSeq, sIf, sSet, sRet, sRetN, sExpr, sPar, two, sFor, sRaise, dB, dOp, dUn, dV, dC, dIfE, dM1, dJoin.isS, dSl, dPart, dNoPart, dNot, dAnd, dOr, dNotV, dOrV, dAndV, dChain, dCall, dOwn, dTup, dLst, dLstM, aCons, aNil, dTru, slot, startD, iOf, its, itsOf, itm, run_bnd, run_ret, run_fail, run_chk, run_rd, run_wr, run_any, run_nox, run_exn, run_tag, see, look, lookM, W.opt, s1, s2, c1, c2, asB, List.map, List.replicate, List.append_eq, List.cons_append, List.nil_append, List.set, andThen, endF, sNil, wipeD, dTrue, gE2, run_atT, run_atL, atI_0, atI_1, atI_2, atI_3, atI_4, run_optS, if_true, if_false, Bool.false_eq_true, decide_true, decide_false, Bool.not_true, Bool.not_false, true_and, and_true, gXorI, gOrI, gAndI, gShl, gShr, DL.gSub, gNeg, oI0, oI, gLt, gGt, gLe, gGe, gOrd, run_ix (by decide +kernel) ix_xor]
      exact app _ _ _ bop_x.symm
end
end K34

namespace K34
open PySem PySem.Spec PyProof.Rows L2 Kit DL
section
variable {Q : D → Mu → Prop} {E : Exn → Mu → Prop} {μ : Mu}
variable {Ks : List (Str × Nat)} {gs : List Gt} {bx : Nat → Int} {kn : Str → Nat → Int} {bxs kns : List (D × D)}
theorem run_stepped (K : Known2 Ks gs bx kn bxs kns) {r : Nat} (hr : μ[r]? = some (.dct false bxs)) (q : Q (.lst (iD (stp bx kn gs []))) (μ ++ [.gone])) : (F_l_stepped [.tup (gs.map dG), .ref r, .dct false kns]).run Q E μ := by
  have z0 : (0 : Nat) ≤ sizeLine := Nat.zero_le _
  simp only [F_l_stepped, B_l_stepped, defW, sSeq, sIf, sSet, sRet, sRetN, sExpr, sPar, two, sFor, sRaise, dB, dOp, dUn, dV, dC, dIfE, dM1, dJoin.isS, dSl, dPart, dNoPart, dNot, dAnd, dOr, dNotV, dOrV, dAndV, dChain, dCall, dOwn, dTup, dLst, dLstM, aCons, aNil, dTru, slot, startD, iOf, its, itsOf, itm, run_bnd, run_ret, run_fail, run_chk, run_rd, run_wr, run_any, run_nox, run_exn, run_tag, see, look, lookM, W.opt, s1, s2, c1, c2, asB, List.map, List.replicate, List.append_eq, List.cons_append, List.nil_append, List.set, andThen, endF, sNil, wipeD, dTrue, gE2, run_atT, run_atL, atI_0, atI_1, atI_2, atI_3, atI_4, run_optS, if_true, if_false, Bool.false_eq_true, decide_true, decide_false, Bool.not_true, Bool.not_false, true_and, and_true, gXorI, gOrI, gAndI, gShl, gShr, DL.gSub, gNeg, oI0, oI, gLt, gGt, gLe, gGe, gOrd, List.length_nil, z0, DL.alloc, gIts, gEnum, kdOk]
  refine run_forI (fun j ε μ' => ∃ x4 x5 x6 x7, ε = [some (.tup (gs.map dG)), some (.ref r), some (.dct false kns), some (.ref μ.length), x4, x5, x6, x7] ∧ μ' = μ ++ [.lst (iD (stp bx kn (gs.take j) []))]) _ 0 ?_ ?_ ⟨none, none, none, none, rfl, rfl⟩
  · rintro j x ε μ' ex ⟨x4, x5, x6, x7, rfl, rfl⟩
    rw [Nat.zero_add]
    obtain ⟨g, eg, rfl⟩ := enum_at ex
    refine ⟨True.intro, _, rfl, run_step_step K eg hr fun e6 e7 => ⟨_, _, e6, e7, rfl, rfl⟩⟩
  · rintro ε μ' ⟨x4, x5, x6, x7, rfl, rfl⟩
    refine ⟨True.intro, ?_⟩
    rw [Nat.zero_add, enumD_len, List.length_map, List.take_length]
    simp only [defW, sSeq, sIf, sSet, sRet, sRetN, sExpr, sPar, two, sFor, sRaise, dB, dOp, dUn, dV, dC, dIfE, dM1, dJoin.isS, dSl, dPart, dNoPart, dNot, dAnd, dOr, dNotV, dOrV, dAndV, dChain, dCall, dOwn, dTup, dLst, dLstM, aCons, aNil, dTru, slot, startD, iOf, its, itsOf, itm, run_bnd, run_ret, run_fail, run_chk, run_rd, run_wr, run_any, run_nox, run_exn, run_tag, see, look, lookM, W.opt, s1, s2, c1, c2, asB, List.map, List.replicate, List.append_eq, List.cons_append, List.nil_append, List.set, andThen, endF, sNil, wipeD, dTrue, gE2, run_atT, run_atL, atI_0, atI_1, atI_2, atI_3, atI_4, run_optS, if_true, if_false, Bool.false_eq_true, decide_true, decide_false, Bool.not_true, Bool.not_false, true_and, and_true, gXorI, gOrI, gAndI, gShl, gShr, DL.gSub, gNeg, oI0, oI, gLt, gGt, gLe, gGe, gOrd]
    rw [run_frz get_last, set_last]
    exact q
/-! ### dicts of pairs -/
theorem pairs_map {α : Type} {k v : α → D} : ∀ {as : List α}, (∀ a ∈ as, okKey false (k a) = true) → pairsK (as.map fun a => .tup [k a, v a]) = some (as.map fun a => (k a, v a))
  | [], _ => rfl
  | a :: as, h => by
    rw [List.map_cons, pairsK, show pairK (.tup [k a, v a]) = some (k a, v a) from if_pos (h a List.mem_cons_self), pairs_map fun b hb => h b (List.mem_cons_of_mem _ hb)]
    rfl
theorem run_dict {m : Bool} {α : Type} {k v : α → D} {as : List α} (h : ∀ a ∈ as, okKey false (k a) = true) : (gDict m (.lst (as.map fun a => .tup [k a, v a]))).run Q E μ = (gMkD m false (dputs [] (as.map fun a => (k a, v a)))).run Q E μ := by
  show ((W.opt (pairsK _)).bnd fun ps => gMkD m false (dputs [] ps)).run Q E μ = _
  rw [pairs_map h]
  rfl
/-! ### flat rows -/
inductive Rw where
  | inr (a : In) (c : Str) | out (n : Nat) (p : Str)
def dR : Rw → D
  | .inr a c => .tup [.str "in", .str a.1, nD a.2, .str c]
  | .out n p => .tup [.str "out", .str "y", nD n, .tup [.str "name", .str p]]
def isI : Rw → Bool
  | .inr _ _ => true
  | .out _ _ => false
def inOf : Rw → In
  | .inr a _ => a
  | .out _ _ => ("", 0)
def flatR (fl : List (In × Str)) (n : Nat) (p : Str) : List Rw := fl.map (fun x => .inr x.1 x.2) ++ [.out n p]
def flD (fl : List (In × Str)) (n : Nat) (p : Str) : D := .tup ((flatR fl n p).map dR)
theorem flat_ins {α : Type} {f : In → α} (fl : List (In × Str)) (n : Nat) (p : Str) : ((flatR fl n p).filter isI).map (fun r => f (inOf r)) = (fl.map (·.1)).map f := by
  unfold flatR
  rw [List.filter_append, List.map_append]
  have e1 : (fl.map fun x => Rw.inr x.1 x.2).filter isI = fl.map fun x => Rw.inr x.1 x.2 := List.filter_eq_self.mpr fun a ha => by
    obtain ⟨x, _, rfl⟩ := List.mem_map.mp ha
    rfl
  rw [e1, List.map_map, List.map_map]
  show _ ++ [] = _
  rw [List.append_nil]
  rfl
theorem w_out_in : decide (("out" : Str) = "in") = false := by decide +kernel
theorem word_row (r : Rw) : ∃ w t, dR r = .tup (.str w :: t) ∧ decide (w = "in") = isI r := by
  cases r with
  | inr a c => exact ⟨_, _, rfl, w_in_in⟩
  | out n p => exact ⟨_, _, rfl, w_out_in⟩
variable {ins : List In} {bs : List Beat}
theorem known2_at (A : OkAll gs ins bs) {j : Nat} {b : Beat} (e : bs[j]? = some b) : Known2 (KsOf ins) gs (after gs ins bs j).1 (knV ins b.2) (bxD gs (after gs ins bs j).1) (dputs [] ((ins.zip b.2).map fun z => (.str z.1.1, .int z.2))) := by
  have K := known_at A e
  refine ⟨K.v, K.ok, K.few, K.bxs, fun p k h => ⟨worthOf ins b.2 p, ?_, rfl⟩⟩
  obtain ⟨a, ha, h⟩ := List.mem_flatMap.mp h
  obtain ⟨k', hk, e'⟩ := List.mem_map.mp h
  cases e'
  obtain ⟨w, hw⟩ := zip_has (A.w b (List.mem_of_getElem? e)).len a ha
  rw [worth_at A.i hw]
  refine dval_dputs _ (.inr ⟨(.str a.1, .int w), List.mem_map.mpr ⟨(a, w), hw, rfl⟩, rfl⟩) fun x hx ex => ?_
  obtain ⟨z, hz, rfl⟩ := List.mem_map.mp hx
  have := zip_uniq A.i.nd hz hw (D.str.inj ex)
  subst this
  rfl
/-- a box set -/
theorem bxD_put {v : Nat → Int} {i : Nat} {x : Int} (h : i ∈ bl gs) : dputL (bxD gs v) (nD i) (.int x) = bxD gs fun k => if k = i then x else v k := by
  have hm : (nD i, D.int (v i)) ∈ bxD gs v := List.mem_map.mpr ⟨i, h, rfl⟩
  unfold dputL
  rw [if_pos (List.any_eq_true.mpr ⟨_, hm, decide_eq_true rfl⟩)]
  unfold bxD
  rw [List.map_map]
  refine List.map_congr_left fun k _ => ?_
  show (if nD k = nD i then (nD k, D.int x) else (nD k, .int (v k))) = (nD k, .int (if k = i then x else v k))
  by_cases hk : k = i
  · subst hk
    rw [if_pos rfl, if_pos rfl]
  · rw [if_neg (fun z => hk (nD_inj z)), if_neg hk]
/-- the boxes when the first j of them are set -/
def part (gs : List Gt) (v w : Nat → Int) (j : Nat) (k : Nat) : Int := if k ∈ (bl gs).take j then w k else v k
theorem part_all (v w : Nat → Int) : bxD gs (part gs v w (bl gs).length) = bxD gs w := by
  unfold bxD
  refine List.map_congr_left fun k hk => ?_
  show (nD k, D.int (if k ∈ (bl gs).take (bl gs).length then w k else v k)) = _
  rw [List.take_length, if_pos hk]
theorem part_zero (v w : Nat → Int) : part gs v w 0 = v := funext fun k => if_neg (by simp)
theorem part_put {v w : Nat → Int} {j i : Nat} (e : (bl gs)[j]? = some i) : dputL (bxD gs (part gs v w j)) (nD i) (.int (w i)) = bxD gs (part gs v w (j + 1)) := by
  rw [bxD_put (List.mem_of_getElem? e)]
  refine congrArg _ (funext fun k => ?_)
  unfold part
  rw [List.take_succ, e]
  by_cases h : k = i
  · subst h
    rw [if_pos rfl]
    exact (if_pos (List.mem_append_right _ (show k ∈ [k] from List.mem_singleton.mpr rfl))).symm
  · rw [if_neg h]
    by_cases h2 : k ∈ (bl gs).take j
    · rw [if_pos h2, if_pos (List.mem_append_left _ h2)]
    · rw [if_neg h2, if_neg]
      intro h3
      rcases List.mem_append.mp h3 with h3 | h3
      · exact h2 h3
      · exact h (List.mem_singleton.mp h3)
theorem part_keep {v w : Nat → Int} {j i : Nat} (e : (bl gs)[j]? = some i) (h : w i = v i) : bxD gs (part gs v w j) = bxD gs (part gs v w (j + 1)) := by
  refine congrArg _ (funext fun k => ?_)
  unfold part
  rw [List.take_succ, e]
  by_cases h2 : k ∈ (bl gs).take j
  · rw [if_pos h2, if_pos (List.mem_append_left _ h2)]
  · rw [if_neg h2]
    by_cases h : k = i
    · subst h
      have hk : k ∈ (bl gs).take j ++ (some k).toList := List.mem_append_right _ (show k ∈ [k] from List.mem_singleton.mpr rfl)
      exact ((if_pos hk).trans h).symm
    · rw [if_neg]
      intro h3
      rcases List.mem_append.mp h3 with h3 | h3
      · exact h2 h3
      · exact h (List.mem_singleton.mp h3)
theorem run_gb_1 {G F R6 : D} {e5 e7 e10 : Option D} {b : Beat} {n8 : D} {v : Nat → Int} {row : List Int} {j i : Nat} {m : Mu} {Ks : List (Str × Nat)} (ok : okGs Ks gs) (few : gs.length ≤ 1000) (er : row.length = gs.length) (e : (bl gs)[j]? = some i) {R : Fl → Mu → Prop}
    (q : R (.nx [some (.tup (gs.map dG)), some F, some G, some (.ref μ.length), some (nD i), e5, some R6, e7, some n8, some (.tup (b.1.map D.str)), e10, some (.lst (iD row))]) (μ ++ .dct false (bxD gs (part gs v (nxt gs b.1 row v) (j + 1))) :: m)) :
    (L_l_gate_beats_1 [some (.tup (gs.map dG)), some F, some G, some (.ref μ.length), some (nD i), e5, some R6, e7, some n8, some (.tup (b.1.map D.str)), e10, some (.lst (iD row))]).run R E (μ ++ .dct false (bxD gs (part gs v (nxt gs b.1 row v) j)) :: m) := by
  have big := sl1000
  obtain ⟨c, w, f, eg⟩ := bl_mem.mp (List.mem_of_getElem? e)
  have lf : f < row.length := by
    rw [er]
    exact (ok i _ eg).2.2
  have en : nxt gs b.1 row v i = if c ∈ b.1 then row.getD f 0 else v i := by
    unfold nxt
    rw [eg]
  have bll := bxD_len gs (part gs v (nxt gs b.1 row v) j)
  simp only [L_l_gate_beats_1, defW, sSeq, sIf, sSet, sRet, sRetN, sExpr, sPar, two, sFor, sRaise, dB, dOp, dUn, dV, dC, dIfE, dM1, dJoin.isS, dSl, dPart, dNoPart, dNot, dAnd, dOr, dNotV, dOrV, dAndV, dChain, dCall, dOwn, dTup, dLst, dLstM, aCons, aNil, dTru, slot, startD, iOf, its, itsOf, itm, run_bnd, run_ret, run_fail, run_chk, run_rd, run_wr, run_any, run_nox, run_exn, run_tag, see, look, lookM, W.opt, s1, s2, c1, c2, asB, List.map, List.replicate, List.append_eq, List.cons_append, List.nil_append, List.set, andThen, endF, sNil, wipeD, dTrue, gE2, run_atT, run_atL, atI_0, atI_1, atI_2, atI_3, atI_4, run_optS, if_true, if_false, Bool.false_eq_true, decide_true, decide_false, Bool.not_true, Bool.not_false, true_and, and_true, gXorI, gOrI, gAndI, gShl, gShr, DL.gSub, gNeg, oI0, oI, gLt, gGt, gLe, gGe, gOrd, run_atT, gs_at eg, dG, mem_strs]
  by_cases h : c ∈ b.1
  · rw [if_pos h] at en
    simp only [h, decide_true, if_true, sPut, gPut, defW, sSeq, sIf, sSet, sRet, sRetN, sExpr, sPar, two, sFor, sRaise, dB, dOp, dUn, dV, dC, dIfE, dM1, dJoin.isS, dSl, dPart, dNoPart, dNot, dAnd, dOr, dNotV, dOrV, dAndV, dChain, dCall, dOwn, dTup, dLst, dLstM, aCons, aNil, dTru, slot, startD, iOf, its, itsOf, itm, run_bnd, run_ret, run_fail, run_chk, run_rd, run_wr, run_any, run_nox, run_exn, run_tag, see, look, lookM, W.opt, s1, s2, c1, c2, asB, List.map, List.replicate, List.append_eq, List.cons_append, List.nil_append, List.set, andThen, endF, sNil, wipeD, dTrue, gE2, run_atT, run_atL, atI_0, atI_1, atI_2, atI_3, atI_4, run_optS, if_true, if_false, Bool.false_eq_true, decide_true, decide_false, Bool.not_true, Bool.not_false, true_and, and_true, gXorI, gOrI, gAndI, gShl, gShr, DL.gSub, gNeg, oI0, oI, gLt, gGt, gLe, gGe, gOrd, run_atT, gs_at eg, dG, run_atL, iD_get lf, get_mid, okI]
    refine ⟨by omega, ?_⟩
    rw [set_mid, ← en, part_put e]
    exact q
  · rw [if_neg h] at en
    simp only [h, decide_false, if_false, defW, sSeq, sIf, sSet, sRet, sRetN, sExpr, sPar, two, sFor, sRaise, dB, dOp, dUn, dV, dC, dIfE, dM1, dJoin.isS, dSl, dPart, dNoPart, dNot, dAnd, dOr, dNotV, dOrV, dAndV, dChain, dCall, dOwn, dTup, dLst, dLstM, aCons, aNil, dTru, slot, startD, iOf, its, itsOf, itm, run_bnd, run_ret, run_fail, run_chk, run_rd, run_wr, run_any, run_nox, run_exn, run_tag, see, look, lookM, W.opt, s1, s2, c1, c2, asB, List.map, List.replicate, List.append_eq, List.cons_append, List.nil_append, List.set, andThen, endF, sNil, wipeD, dTrue, gE2, run_atT, run_atL, atI_0, atI_1, atI_2, atI_3, atI_4, run_optS, if_true, if_false, Bool.false_eq_true, decide_true, decide_false, Bool.not_true, Bool.not_false, true_and, and_true, gXorI, gOrI, gAndI, gShl, gShr, DL.gSub, gNeg, oI0, oI, gLt, gGt, gLe, gGe, gOrd, Bool.false_eq_true]
    rw [part_keep e en]
    exact q
end
end K34

namespace K34
open PySem PySem.Spec PyProof.Rows L2 Kit DL
section
variable {Q : D → Mu → Prop} {E : Exn → Mu → Prop} {μ : Mu}
variable {gs : List Gt} {ins : List In} {bs : List Beat}
theorem get_mid1 {x y : MO} {m : Mu} : (μ ++ x :: y :: m)[μ.length + 1]? = some y := by
  rw [List.getElem?_append_right (Nat.le_succ _), Nat.succ_sub (Nat.le_refl _), Nat.sub_self]
  rfl
theorem set_mid1 {x y z : MO} {m : Mu} : (μ ++ x :: y :: m).set (μ.length + 1) z = μ ++ x :: z :: m := by
  rw [List.set_append_right _ _ (Nat.le_succ _), Nat.succ_sub (Nat.le_refl _), Nat.sub_self]
  rfl
theorem run_lz {paths : List Str} {ws : List Int} (h : paths.length ≤ 100) : (gLZ false .L .T [.lst (paths.map D.str), .tup (iD ws)]).run Q E μ = Q (.lst ((paths.zip ws).map fun z => .tup [.str z.1, .int z.2])) μ := by
  have big := sl1000
  show ((kdOk X16.Kd.L (.lst (paths.map D.str)) = true ∧ kdOk X16.Kd.T (.tup (iD ws)) = true ∧ min (paths.map D.str).length (iD ws).length ≤ sizeLine) ∧ (gMkL false (zipD (paths.map D.str) (iD ws))).run Q E μ) = _
  rw [zipD_map, propext (and_iff_right (⟨rfl, rfl, by rw [List.length_map]; omega⟩ : (kdOk X16.Kd.L (.lst (paths.map D.str)) = true ∧ kdOk X16.Kd.T (.tup (iD ws)) = true ∧ min (paths.map D.str).length (iD ws).length ≤ sizeLine)))]
  rfl
theorem zip_paths (ins : List In) (ws : List Int) : (((ins.map (·.1)).zip ws).map fun z => (D.str z.1, D.int z.2)) = (ins.zip ws).map fun z => (D.str z.1.1, D.int z.2) := by
  rw [List.zip_map_left, List.map_map]
  rfl
theorem run_lstD {ks : List (D × D)} : (DL.gLst false (.dct false ks)).run Q E μ = Q (.lst (ks.map (·.1))) μ := rfl
theorem bxD_keys (v : Nat → Int) : (bxD gs v).map (·.1) = (bl gs).map nD := by
  unfold bxD
  rw [List.map_map]
  rfl
theorem run_gb_2 (A : OkAll gs ins bs) {F G : D} {e5 e7 : Option D} {j : Nat} {b : Beat} (e : bs[j]? = some b) {m : Mu} {R : Fl → Mu → Prop} {e4 e11 : Option D}
    (q : ∀ e4 e11, ∀ m : Mu, R (.nx [some (.tup (gs.map dG)), some F, some G, some (.ref μ.length), e4, e5, some (.lst ((ins.map (·.1)).map D.str)), e7, some (.ref (μ.length + 1)), some (.tup (b.1.map D.str)), some (.tup (iD b.2)), e11]) (μ ++ .dct false (bxD gs (after gs ins bs (j + 1)).1) :: .lst ((after gs ins bs (j + 1)).2.map fun r => .lst (iD r)) :: m)) :
    (L_l_gate_beats_2 [some (.tup (gs.map dG)), some F, some G, some (.ref μ.length), e4, e5, some (.lst ((ins.map (·.1)).map D.str)), e7, some (.ref (μ.length + 1)), some (.tup (b.1.map D.str)), some (.tup (iD b.2)), e11]).run R E (μ ++ .dct false (bxD gs (after gs ins bs j).1) :: .lst ((after gs ins bs j).2.map fun r => .lst (iD r)) :: m) := by
  have K := known2_at A e
  have nb := A.nb
  have few := A.few
  have lt := (List.getElem?_eq_some_iff.mp e).1
  have big := sl1000
  have al := after_len (gs := gs) (ins := ins) j (Nat.le_of_lt lt)
  have ih : ((ins.map (·.1))).length ≤ 100 := by
    rw [List.length_map]
    exact A.i.few
  simp only [L_l_gate_beats_2, defW, sSeq, sIf, sSet, sRet, sRetN, sExpr, sPar, two, sFor, sRaise, dB, dOp, dUn, dV, dC, dIfE, dM1, dJoin.isS, dSl, dPart, dNoPart, dNot, dAnd, dOr, dNotV, dOrV, dAndV, dChain, dCall, dOwn, dTup, dLst, dLstM, aCons, aNil, dTru, slot, startD, iOf, its, itsOf, itm, run_bnd, run_ret, run_fail, run_chk, run_rd, run_wr, run_any, run_nox, run_exn, run_tag, see, look, lookM, W.opt, s1, s2, c1, c2, asB, List.map, List.replicate, List.append_eq, List.cons_append, List.nil_append, List.set, andThen, endF, sNil, wipeD, dTrue, gE2, run_atT, run_atL, atI_0, atI_1, atI_2, atI_3, atI_4, run_optS, if_true, if_false, Bool.false_eq_true, decide_true, decide_false, Bool.not_true, Bool.not_false, true_and, and_true, gXorI, gOrI, gAndI, gShl, gShr, DL.gSub, gNeg, oI0, oI, gLt, gGt, gLe, gGe, gOrd, run_lz ih]
  rw [run_dict (k := fun z : Str × Int => D.str z.1) (v := fun z => D.int z.2) fun _ _ => rfl, zip_paths]
  simp only [gMkD, defW, sSeq, sIf, sSet, sRet, sRetN, sExpr, sPar, two, sFor, sRaise, dB, dOp, dUn, dV, dC, dIfE, dM1, dJoin.isS, dSl, dPart, dNoPart, dNot, dAnd, dOr, dNotV, dOrV, dAndV, dChain, dCall, dOwn, dTup, dLst, dLstM, aCons, aNil, dTru, slot, startD, iOf, its, itsOf, itm, run_bnd, run_ret, run_fail, run_chk, run_rd, run_wr, run_any, run_nox, run_exn, run_tag, see, look, lookM, W.opt, s1, s2, c1, c2, asB, List.map, List.replicate, List.append_eq, List.cons_append, List.nil_append, List.set, andThen, endF, sNil, wipeD, dTrue, gE2, run_atT, run_atL, atI_0, atI_1, atI_2, atI_3, atI_4, run_optS, if_true, if_false, Bool.false_eq_true, decide_true, decide_false, Bool.not_true, Bool.not_false, true_and, and_true, gXorI, gOrI, gAndI, gShl, gShr, DL.gSub, gNeg, oI0, oI, gLt, gGt, gLe, gGe, gOrd]
  refine ⟨rfl, run_stepped K get_mid ?_⟩
  simp only [defW, sSeq, sIf, sSet, sRet, sRetN, sExpr, sPar, two, sFor, sRaise, dB, dOp, dUn, dV, dC, dIfE, dM1, dJoin.isS, dSl, dPart, dNoPart, dNot, dAnd, dOr, dNotV, dOrV, dAndV, dChain, dCall, dOwn, dTup, dLst, dLstM, aCons, aNil, dTru, slot, startD, iOf, its, itsOf, itm, run_bnd, run_ret, run_fail, run_chk, run_rd, run_wr, run_any, run_nox, run_exn, run_tag, see, look, lookM, W.opt, s1, s2, c1, c2, asB, List.map, List.replicate, List.append_eq, List.cons_append, List.nil_append, List.set, andThen, endF, sNil, wipeD, dTrue, gE2, run_atT, run_atL, atI_0, atI_1, atI_2, atI_3, atI_4, run_optS, if_true, if_false, Bool.false_eq_true, decide_true, decide_false, Bool.not_true, Bool.not_false, true_and, and_true, gXorI, gOrI, gAndI, gShl, gShr, DL.gSub, gNeg, oI0, oI, gLt, gGt, gLe, gGe, gOrd, List.append_assoc, List.cons_append]
  rw [run_met rfl get_mid1]
  simp only [defW, sSeq, sIf, sSet, sRet, sRetN, sExpr, sPar, two, sFor, sRaise, dB, dOp, dUn, dV, dC, dIfE, dM1, dJoin.isS, dSl, dPart, dNoPart, dNot, dAnd, dOr, dNotV, dOrV, dAndV, dChain, dCall, dOwn, dTup, dLst, dLstM, aCons, aNil, dTru, slot, startD, iOf, its, itsOf, itm, run_bnd, run_ret, run_fail, run_chk, run_rd, run_wr, run_any, run_nox, run_exn, run_tag, see, look, lookM, W.opt, s1, s2, c1, c2, asB, List.map, List.replicate, List.append_eq, List.cons_append, List.nil_append, List.set, andThen, endF, sNil, wipeD, dTrue, gE2, run_atT, run_atL, atI_0, atI_1, atI_2, atI_3, atI_4, run_optS, if_true, if_false, Bool.false_eq_true, decide_true, decide_false, Bool.not_true, Bool.not_false, true_and, and_true, gXorI, gOrI, gAndI, gShl, gShr, DL.gSub, gNeg, oI0, oI, gLt, gGt, gLe, gGe, gOrd]
  rw [run_append get_mid1 (by rw [List.length_map]; omega), set_mid1]
  simp only [defW, sSeq, sIf, sSet, sRet, sRetN, sExpr, sPar, two, sFor, sRaise, dB, dOp, dUn, dV, dC, dIfE, dM1, dJoin.isS, dSl, dPart, dNoPart, dNot, dAnd, dOr, dNotV, dOrV, dAndV, dChain, dCall, dOwn, dTup, dLst, dLstM, aCons, aNil, dTru, slot, startD, iOf, its, itsOf, itm, run_bnd, run_ret, run_fail, run_chk, run_rd, run_wr, run_any, run_nox, run_exn, run_tag, see, look, lookM, W.opt, s1, s2, c1, c2, asB, List.map, List.replicate, List.append_eq, List.cons_append, List.nil_append, List.set, andThen, endF, sNil, wipeD, dTrue, gE2, run_atT, run_atL, atI_0, atI_1, atI_2, atI_3, atI_4, run_optS, if_true, if_false, Bool.false_eq_true, decide_true, decide_false, Bool.not_true, Bool.not_false, true_and, and_true, gXorI, gOrI, gAndI, gShl, gShr, DL.gSub, gNeg, oI0, oI, gLt, gGt, gLe, gGe, gOrd, get_mid, run_lstD, bxD_keys]
  have e0 : bxD gs (after gs ins bs j).1 = bxD gs (part gs (after gs ins bs j).1 (nxt gs b.1 (beatV gs ins (after gs ins bs j).1 b) (after gs ins bs j).1) 0) := by rw [part_zero]
  rw [e0]
  have er : (beatV gs ins (after gs ins bs j).1 b).length = gs.length := by
    show (stp _ _ _ _).length = _
    rw [stp_len, List.length_nil, Nat.zero_add]
  have e1 : (after gs ins bs (j + 1)).1 = nxt gs b.1 (beatV gs ins (after gs ins bs j).1 b) (after gs ins bs j).1 := by rw [after_succ e]; rfl
  have e2 : ((after gs ins bs (j + 1)).2.map fun r => D.lst (iD r)) = ((after gs ins bs j).2.map fun r => D.lst (iD r)) ++ [.lst (iD (beatV gs ins (after gs ins bs j).1 b))] := by rw [after_succ e]; exact List.map_append
  rw [e1, e2] at q
  refine run_forI (fun i ε μ' => ∃ e4, ε = [some (.tup (gs.map dG)), some F, some G, some (.ref μ.length), e4, e5, some (.lst ((ins.map (·.1)).map D.str)), e7, some (.ref (μ.length + 1)), some (.tup (b.1.map D.str)), some (.tup (iD b.2)), some (.lst (iD (beatV gs ins (after gs ins bs j).1 b)))] ∧ μ' = μ ++ .dct false (bxD gs (part gs (after gs ins bs j).1 (nxt gs b.1 (beatV gs ins (after gs ins bs j).1 b) (after gs ins bs j).1) i)) :: .lst (((after gs ins bs j).2.map fun r => .lst (iD r)) ++ [.lst (iD (beatV gs ins (after gs ins bs j).1 b))]) :: (m ++ [.gone])) _ 0 ?_ ?_ ⟨_, rfl, rfl⟩
  · rintro i x ε μ' ex ⟨e4, rfl, rfl⟩
    rw [Nat.zero_add]
    rw [List.getElem?_map] at ex
    cases ei : (bl gs)[i]? with
    | none => rw [ei] at ex; cases ex
    | some k =>
      rw [ei] at ex
      cases ex
      exact ⟨True.intro, _, rfl, run_gb_1 A.g few er ei ⟨_, rfl, rfl⟩⟩
  · rintro ε μ' ⟨e4, rfl, rfl⟩
    refine ⟨True.intro, ?_⟩
    rw [Nat.zero_add, List.length_map, part_all]
    exact q _ _ _
end
end K34

namespace K34
open PySem PySem.Spec PyProof.Rows L2 Kit DL
section
variable {Q : D → Mu → Prop} {E : Exn → Mu → Prop} {μ : Mu}
variable {gs : List Gt} {bs : List Beat} {fl : List (In × Str)} {n : Nat} {p : Str}
theorem bl_map2 (gs : List Gt) (f : Nat → D) : ((gs.zipIdx.filter fun z => isBx z.1).map fun z => f z.2) = (bl gs).map f := by
  unfold bl
  rw [List.map_map]
  rfl
theorem run_gate_beats (A : OkAll gs (fl.map (·.1)) bs) (q : ∀ m, Q (.lst ((after gs (fl.map (·.1)) bs bs.length).2.map fun r => .lst (iD r))) (μ ++ m)) : (F_l_gate_beats [.tup (gs.map dG), flD fl n p, .tup (bs.map bD)]).run Q E μ := by
  have nb := A.nb
  have few := A.few
  have big := sl1000
  have z0 : (0 : Nat) ≤ sizeLine := Nat.zero_le _
  have hfl : fl.length ≤ 100 := by
    have := A.i.few
    rw [List.length_map] at this
    exact this
  unfold F_l_gate_beats
  simp only [B_l_gate_beats, flD, defW, sSeq, sIf, sSet, sRet, sRetN, sExpr, sPar, two, sFor, sRaise, dB, dOp, dUn, dV, dC, dIfE, dM1, dJoin.isS, dSl, dPart, dNoPart, dNot, dAnd, dOr, dNotV, dOrV, dAndV, dChain, dCall, dOwn, dTup, dLst, dLstM, aCons, aNil, dTru, slot, startD, iOf, its, itsOf, itm, run_bnd, run_ret, run_fail, run_chk, run_rd, run_wr, run_any, run_nox, run_exn, run_tag, see, look, lookM, W.opt, s1, s2, c1, c2, asB, List.map, List.replicate, List.append_eq, List.cons_append, List.nil_append, List.set, andThen, endF, sNil, wipeD, dTrue, gE2, run_atT, run_atL, atI_0, atI_1, atI_2, atI_3, atI_4, run_optS, if_true, if_false, Bool.false_eq_true, decide_true, decide_false, Bool.not_true, Bool.not_false, true_and, and_true, gXorI, gOrI, gAndI, gShl, gShr, DL.gSub, gNeg, oI0, oI, gLt, gGt, gLe, gGe, gOrd]
  rw [run_boxes (f := fun z => .tup [nD z.2, .int (binit gs z.2)]) A.g few]
  · rw [bl_map2 gs fun i => .tup [nD i, .int (binit gs i)]]
    simp only [defW, sSeq, sIf, sSet, sRet, sRetN, sExpr, sPar, two, sFor, sRaise, dB, dOp, dUn, dV, dC, dIfE, dM1, dJoin.isS, dSl, dPart, dNoPart, dNot, dAnd, dOr, dNotV, dOrV, dAndV, dChain, dCall, dOwn, dTup, dLst, dLstM, aCons, aNil, dTru, slot, startD, iOf, its, itsOf, itm, run_bnd, run_ret, run_fail, run_chk, run_rd, run_wr, run_any, run_nox, run_exn, run_tag, see, look, lookM, W.opt, s1, s2, c1, c2, asB, List.map, List.replicate, List.append_eq, List.cons_append, List.nil_append, List.set, andThen, endF, sNil, wipeD, dTrue, gE2, run_atT, run_atL, atI_0, atI_1, atI_2, atI_3, atI_4, run_optS, if_true, if_false, Bool.false_eq_true, decide_true, decide_false, Bool.not_true, Bool.not_false, true_and, and_true, gXorI, gOrI, gAndI, gShl, gShr, DL.gSub, gNeg, oI0, oI, gLt, gGt, gLe, gGe, gOrd]
    rw [run_dict (k := nD) (v := fun i => .int (binit gs i)) fun _ _ => rfl]
    rw [show ((bl gs).map fun x => (nD x, D.int (binit gs x))) = bxD gs (after gs (fl.map (·.1)) bs 0).1 from rfl, dputs_bxD]
    simp only [gMkD, DL.alloc, defW, sSeq, sIf, sSet, sRet, sRetN, sExpr, sPar, two, sFor, sRaise, dB, dOp, dUn, dV, dC, dIfE, dM1, dJoin.isS, dSl, dPart, dNoPart, dNot, dAnd, dOr, dNotV, dOrV, dAndV, dChain, dCall, dOwn, dTup, dLst, dLstM, aCons, aNil, dTru, slot, startD, iOf, its, itsOf, itm, run_bnd, run_ret, run_fail, run_chk, run_rd, run_wr, run_any, run_nox, run_exn, run_tag, see, look, lookM, W.opt, s1, s2, c1, c2, asB, List.map, List.replicate, List.append_eq, List.cons_append, List.nil_append, List.set, andThen, endF, sNil, wipeD, dTrue, gE2, run_atT, run_atL, atI_0, atI_1, atI_2, atI_3, atI_4, run_optS, if_true, if_false, Bool.false_eq_true, decide_true, decide_false, Bool.not_true, Bool.not_false, true_and, and_true, gXorI, gOrI, gAndI, gShl, gShr, DL.gSub, gNeg, oI0, oI, gLt, gGt, gLe, gGe, gOrd, dLc, List.length_map, List.length_nil, z0]
    refine ⟨?_, ?_⟩
    · unfold flatR
      rw [List.length_append, List.length_map, List.length_cons, List.length_nil]
      omega
    rw [run_lcA (p := fun _ => True) (e := dR) (t := isI) (f := fun r => D.str (inOf r).1) True.intro]
    · rw [flat_ins (f := fun a => D.str a.1)]
      rw [List.append_assoc, List.length_append, List.length_cons, List.length_nil]
      rw [show ((fl.map (·.1)).map fun a => D.str a.1) = ((fl.map (·.1)).map (·.1)).map D.str by rw [List.map_map (g := D.str)]; rfl]
      refine run_forI (fun j ε μ' => ∃ e4 e9 e10 e11 m, ε = [some (.tup (gs.map dG)), some (.tup ((flatR fl n p).map dR)), some (.tup (bs.map bD)), some (.ref μ.length), e4, none, some (.lst (((fl.map (·.1)).map (·.1)).map D.str)), none, some (.ref (μ.length + 1)), e9, e10, e11] ∧ μ' = μ ++ .dct false (bxD gs (after gs (fl.map (·.1)) bs j).1) :: .lst ((after gs (fl.map (·.1)) bs j).2.map fun r => .lst (iD r)) :: m) _ 0 ?_ ?_ ⟨none, none, none, none, [], rfl, rfl⟩
      · rintro j x ε μ' ex ⟨e4, e9, e10, e11, m, rfl, rfl⟩
        rw [Nat.zero_add]
        obtain ⟨b, eb, rfl⟩ := bd_at ex
        exact ⟨True.intro, _, rfl, run_gb_2 A eb fun e4 e11 m => ⟨_, _, _, _, _, rfl, rfl⟩⟩
      · rintro ε μ' ⟨e4, e9, e10, e11, m, rfl, rfl⟩
        refine ⟨True.intro, ?_⟩
        rw [Nat.zero_add, List.length_map]
        simp only [defW, sSeq, sIf, sSet, sRet, sRetN, sExpr, sPar, two, sFor, sRaise, dB, dOp, dUn, dV, dC, dIfE, dM1, dJoin.isS, dSl, dPart, dNoPart, dNot, dAnd, dOr, dNotV, dOrV, dAndV, dChain, dCall, dOwn, dTup, dLst, dLstM, aCons, aNil, dTru, slot, startD, iOf, its, itsOf, itm, run_bnd, run_ret, run_fail, run_chk, run_rd, run_wr, run_any, run_nox, run_exn, run_tag, see, look, lookM, W.opt, s1, s2, c1, c2, asB, List.map, List.replicate, List.append_eq, List.cons_append, List.nil_append, List.set, andThen, endF, sNil, wipeD, dTrue, gE2, run_atT, run_atL, atI_0, atI_1, atI_2, atI_3, atI_4, run_optS, if_true, if_false, Bool.false_eq_true, decide_true, decide_false, Bool.not_true, Bool.not_false, true_and, and_true, gXorI, gOrI, gAndI, gShl, gShr, DL.gSub, gNeg, oI0, oI, gLt, gGt, gLe, gGe, gOrd]
        rw [run_frz get_mid1, set_mid1]
        exact q _
    · intro r _
      obtain ⟨w, t, e1, e2⟩ := word_row r
      refine ⟨_, rfl, fun Q' => ?_, fun h Q' => ?_⟩
      · simp only [defW, sSeq, sIf, sSet, sRet, sRetN, sExpr, sPar, two, sFor, sRaise, dB, dOp, dUn, dV, dC, dIfE, dM1, dJoin.isS, dSl, dPart, dNoPart, dNot, dAnd, dOr, dNotV, dOrV, dAndV, dChain, dCall, dOwn, dTup, dLst, dLstM, aCons, aNil, dTru, slot, startD, iOf, its, itsOf, itm, run_bnd, run_ret, run_fail, run_chk, run_rd, run_wr, run_any, run_nox, run_exn, run_tag, see, look, lookM, W.opt, s1, s2, c1, c2, asB, List.map, List.replicate, List.append_eq, List.cons_append, List.nil_append, List.set, andThen, endF, sNil, wipeD, dTrue, gE2, run_atT, run_atL, atI_0, atI_1, atI_2, atI_3, atI_4, run_optS, if_true, if_false, Bool.false_eq_true, decide_true, decide_false, Bool.not_true, Bool.not_false, true_and, and_true, gXorI, gOrI, gAndI, gShl, gShr, DL.gSub, gNeg, oI0, oI, gLt, gGt, gLe, gGe, gOrd, e1, e2]
      · cases r with
        | out _ _ => cases h
        | inr a c => simp only [defW, sSeq, sIf, sSet, sRet, sRetN, sExpr, sPar, two, sFor, sRaise, dB, dOp, dUn, dV, dC, dIfE, dM1, dJoin.isS, dSl, dPart, dNoPart, dNot, dAnd, dOr, dNotV, dOrV, dAndV, dChain, dCall, dOwn, dTup, dLst, dLstM, aCons, aNil, dTru, slot, startD, iOf, its, itsOf, itm, run_bnd, run_ret, run_fail, run_chk, run_rd, run_wr, run_any, run_nox, run_exn, run_tag, see, look, lookM, W.opt, s1, s2, c1, c2, asB, List.map, List.replicate, List.append_eq, List.cons_append, List.nil_append, List.set, andThen, endF, sNil, wipeD, dTrue, gE2, run_atT, run_atL, atI_0, atI_1, atI_2, atI_3, atI_4, run_optS, if_true, if_false, Bool.false_eq_true, decide_true, decide_false, Bool.not_true, Bool.not_false, true_and, and_true, gXorI, gOrI, gAndI, gShl, gShr, DL.gSub, gNeg, oI0, oI, gLt, gGt, gLe, gGe, gOrd, dR, inOf]
  · intro Q'
    simp only [defW, sSeq, sIf, sSet, sRet, sRetN, sExpr, sPar, two, sFor, sRaise, dB, dOp, dUn, dV, dC, dIfE, dM1, dJoin.isS, dSl, dPart, dNoPart, dNot, dAnd, dOr, dNotV, dOrV, dAndV, dChain, dCall, dOwn, dTup, dLst, dLstM, aCons, aNil, dTru, slot, startD, iOf, its, itsOf, itm, run_bnd, run_ret, run_fail, run_chk, run_rd, run_wr, run_any, run_nox, run_exn, run_tag, see, look, lookM, W.opt, s1, s2, c1, c2, asB, List.map, List.replicate, List.append_eq, List.cons_append, List.nil_append, List.set, andThen, endF, sNil, wipeD, dTrue, gE2, run_atT, run_atL, atI_0, atI_1, atI_2, atI_3, atI_4, run_optS, if_true, if_false, Bool.false_eq_true, decide_true, decide_false, Bool.not_true, Bool.not_false, true_and, and_true, gXorI, gOrI, gAndI, gShl, gShr, DL.gSub, gNeg, oI0, oI, gLt, gGt, gLe, gGe, gOrd, gIts, gEnum, kdOk]
  · intro i g eg
    refine ⟨_, rfl, fun Q' => ?_, fun h Q' => ?_⟩
    · obtain ⟨w, r, e1, e2⟩ := word_box (A.g i g eg)
      simp only [defW, sSeq, sIf, sSet, sRet, sRetN, sExpr, sPar, two, sFor, sRaise, dB, dOp, dUn, dV, dC, dIfE, dM1, dJoin.isS, dSl, dPart, dNoPart, dNot, dAnd, dOr, dNotV, dOrV, dAndV, dChain, dCall, dOwn, dTup, dLst, dLstM, aCons, aNil, dTru, slot, startD, iOf, its, itsOf, itm, run_bnd, run_ret, run_fail, run_chk, run_rd, run_wr, run_any, run_nox, run_exn, run_tag, see, look, lookM, W.opt, s1, s2, c1, c2, asB, List.map, List.replicate, List.append_eq, List.cons_append, List.nil_append, List.set, andThen, endF, sNil, wipeD, dTrue, gE2, run_atT, run_atL, atI_0, atI_1, atI_2, atI_3, atI_4, run_optS, if_true, if_false, Bool.false_eq_true, decide_true, decide_false, Bool.not_true, Bool.not_false, true_and, and_true, gXorI, gOrI, gAndI, gShl, gShr, DL.gSub, gNeg, oI0, oI, gLt, gGt, gLe, gGe, gOrd, e1, e2]
    · cases g with
      | box c b f =>
        have en : binit gs i = b := by
          unfold binit
          rw [eg]
        simp only [defW, sSeq, sIf, sSet, sRet, sRetN, sExpr, sPar, two, sFor, sRaise, dB, dOp, dUn, dV, dC, dIfE, dM1, dJoin.isS, dSl, dPart, dNoPart, dNot, dAnd, dOr, dNotV, dOrV, dAndV, dChain, dCall, dOwn, dTup, dLst, dLstM, aCons, aNil, dTru, slot, startD, iOf, its, itsOf, itm, run_bnd, run_ret, run_fail, run_chk, run_rd, run_wr, run_any, run_nox, run_exn, run_tag, see, look, lookM, W.opt, s1, s2, c1, c2, asB, List.map, List.replicate, List.append_eq, List.cons_append, List.nil_append, List.set, andThen, endF, sNil, wipeD, dTrue, gE2, run_atT, run_atL, atI_0, atI_1, atI_2, atI_3, atI_4, run_optS, if_true, if_false, Bool.false_eq_true, decide_true, decide_false, Bool.not_true, Bool.not_false, true_and, and_true, gXorI, gOrI, gAndI, gShl, gShr, DL.gSub, gNeg, oI0, oI, gLt, gGt, gLe, gGe, gOrd, dG, en, List.length_cons, List.length_nil, two_le]
      | _ => cases h
end
end K34

namespace K34
open PySem PySem.Spec PyProof.Rows L2 Kit DL
section
variable {Q : D → Mu → Prop} {E : Exn → Mu → Prop} {μ : Mu}
/-! ### a flat list drawn -/
def nm : Nat → Str
  | 0 => "q"
  | 1 => "w"
  | _ => "z"
def cdn : Nat → Str
  | 0 => "c"
  | _ => "d"
theorem qwz_len : ("qwz" : Str).length ≤ sizeLine := by decide +kernel
theorem cd_len : ("cd" : Str).length ≤ sizeLine := by decide +kernel
theorem at_qwz {k : Nat} (h : k < 3) : (gAt (.str "qwz") (nD k)).run Q E μ = Q (.str (nm k)) μ := by
  rw [run_atS, propext (and_iff_right qwz_len)]
  have e : (atI ("qwz" : Str).cps.toList (k : Int)).map (fun c => (⟨#[c]⟩ : Str)) = some (nm k) := by
    rcases (by omega : k = 0 ∨ k = 1 ∨ k = 2) with rfl | rfl | rfl <;> decide +kernel
  cases e2 : atI ("qwz" : Str).cps.toList (k : Int) with
  | none => rw [e2] at e; cases e
  | some c =>
    rw [e2] at e
    show Q (.str ⟨#[c]⟩) μ = _
    rw [show (⟨#[c]⟩ : Str) = nm k from Option.some.inj e]
theorem at_cd {r : Int} (h0 : 0 ≤ r) (h : r < 2) : (gAt (.str "cd") (.int r)).run Q E μ = Q (.str (cdn r.toNat)) μ := by
  rw [run_atS, propext (and_iff_right cd_len)]
  have e : (atI ("cd" : Str).cps.toList r).map (fun c => (⟨#[c]⟩ : Str)) = some (cdn r.toNat) := by
    rcases (by omega : r = 0 ∨ r = 1) with rfl | rfl <;> decide +kernel
  cases e2 : atI ("cd" : Str).cps.toList r with
  | none => rw [e2] at e; cases e
  | some c =>
    rw [e2] at e
    show Q (.str ⟨#[c]⟩) μ = _
    rw [show (⟨#[c]⟩ : Str) = cdn r.toNat from Option.some.inj e]
theorem cdn_or (k : Nat) : cdn k = "c" ∨ cdn k = "d" := by
  cases k with
  | zero => exact .inl rfl
  | succ k => exact .inr rfl
structure OkFl (fl : List (In × Str)) : Prop where
  pos : 1 ≤ fl.length
  few : fl.length ≤ 3
  names : fl.map (fun x => x.1.1) = (List.range fl.length).map nm
  wide : ∀ x ∈ fl, 1 ≤ x.1.2 ∧ x.1.2 ≤ 3
  cd : ∀ x ∈ fl, x.2 = "c" ∨ x.2 = "d"
structure OkFl0 (fl : List (In × Str)) (j : Nat) : Prop where
  len : fl.length = j
  names : fl.map (fun x => x.1.1) = (List.range j).map nm
  wide : ∀ x ∈ fl, 1 ≤ x.1.2 ∧ x.1.2 ≤ 3
  cd : ∀ x ∈ fl, x.2 = "c" ∨ x.2 = "d"
theorem four_le : 0 + 1 + 1 + 1 + 1 ≤ sizeLine := by decide
theorem run_flat {t : Nat} (h : Dk μ t) (ht : t < 1000000) (q : ∀ fl n p μ', OkFl fl → (∃ c fl', fl = ((p, n), c) :: fl') → Dk μ' (t + 10) → Q (flD fl n p) μ') : (F_l_flat_drawn [.ref 0]).run Q E μ := by
  have big := sl1000
  have z0 : (0 : Nat) ≤ sizeLine := Nat.zero_le _
  have hp := h.pos
  simp only [F_l_flat_drawn, B_l_flat_drawn, defW, sSeq, sIf, sSet, sRet, sRetN, sExpr, sPar, two, sFor, sRaise, dB, dOp, dUn, dV, dC, dIfE, dM1, dJoin.isS, dSl, dPart, dNoPart, dNot, dAnd, dOr, dNotV, dOrV, dAndV, dChain, dCall, dOwn, dTup, dLst, dLstM, aCons, aNil, dTru, slot, startD, iOf, its, itsOf, itm, run_bnd, run_ret, run_fail, run_chk, run_rd, run_wr, run_any, run_nox, run_exn, run_tag, see, look, lookM, W.opt, s1, s2, c1, c2, asB, List.map, List.replicate, List.append_eq, List.cons_append, List.nil_append, List.set, andThen, endF, sNil, wipeD, dTrue, gE2, run_atT, run_atL, atI_0, atI_1, atI_2, atI_3, atI_4, run_optS, if_true, if_false, Bool.false_eq_true, decide_true, decide_false, Bool.not_true, Bool.not_false, true_and, and_true, gXorI, gOrI, gAndI, gShl, gShr, DL.gSub, gNeg, oI0, oI, gLt, gGt, gLe, gGe, gOrd, List.length_nil, z0, DL.alloc]
  refine ⟨rfl, run_draw (h.app _) (by omega) (by decide) (by decide) fun r h0 h1 μ1 hd mv => ?_⟩
  simp only [defW, sSeq, sIf, sSet, sRet, sRetN, sExpr, sPar, two, sFor, sRaise, dB, dOp, dUn, dV, dC, dIfE, dM1, dJoin.isS, dSl, dPart, dNoPart, dNot, dAnd, dOr, dNotV, dOrV, dAndV, dChain, dCall, dOwn, dTup, dLst, dLstM, aCons, aNil, dTru, slot, startD, iOf, its, itsOf, itm, run_bnd, run_ret, run_fail, run_chk, run_rd, run_wr, run_any, run_nox, run_exn, run_tag, see, look, lookM, W.opt, s1, s2, c1, c2, asB, List.map, List.replicate, List.append_eq, List.cons_append, List.nil_append, List.set, andThen, endF, sNil, wipeD, dTrue, gE2, run_atT, run_atL, atI_0, atI_1, atI_2, atI_3, atI_4, run_optS, if_true, if_false, Bool.false_eq_true, decide_true, decide_false, Bool.not_true, Bool.not_false, true_and, and_true, gXorI, gOrI, gAndI, gShl, gShr, DL.gSub, gNeg, oI0, oI, gLt, gGt, gLe, gGe, gOrd, gAdd, rng1]
  refine ⟨⟨by omega, by omega⟩, ?_⟩
  obtain ⟨k, rfl⟩ := Int.eq_ofNat_of_zero_le h0
  rw [show ((1 : Int) + (k : Nat)).toNat = k + 1 by omega]
  have hL : μ1[μ.length]? = some (.lst []) := (mv.at_ _ (by omega)).trans get_last
  refine run_forI (fun j ε μ' => ∃ x2 fl, ε = [some (.ref 0), some (.ref μ.length), x2] ∧ OkFl0 fl j ∧ Dk μ' (t + 1 + 2 * j) ∧ μ'[μ.length]? = some (.lst (fl.map fun x => dR (.inr x.1 x.2)))) _ 0 ?_ ?_ ⟨none, [], rfl, ⟨rfl, rfl, fun _ h => (List.not_mem_nil h).elim, fun _ h => (List.not_mem_nil h).elim⟩, hd, hL⟩
  · rintro j x ε μ2 ex ⟨x2, fl, rfl, ok, hd2, hl2⟩
    rw [Nat.zero_add] at hd2 ok ⊢
    rw [rngD_map, List.getElem?_map] at ex
    have lj : j < k + 1 := by
      by_cases hj : j < k + 1
      · exact hj
      · rw [List.getElem?_eq_none (by rw [List.length_range]; omega)] at ex
        cases ex
    rw [List.getElem?_range lj] at ex
    cases ex
    refine ⟨True.intro, _, rfl, ?_⟩
    simp only [L_l_flat_drawn_1, sExpr, defW, sSeq, sIf, sSet, sRet, sRetN, sExpr, sPar, two, sFor, sRaise, dB, dOp, dUn, dV, dC, dIfE, dM1, dJoin.isS, dSl, dPart, dNoPart, dNot, dAnd, dOr, dNotV, dOrV, dAndV, dChain, dCall, dOwn, dTup, dLst, dLstM, aCons, aNil, dTru, slot, startD, iOf, its, itsOf, itm, run_bnd, run_ret, run_fail, run_chk, run_rd, run_wr, run_any, run_nox, run_exn, run_tag, see, look, lookM, W.opt, s1, s2, c1, c2, asB, List.map, List.replicate, List.append_eq, List.cons_append, List.nil_append, List.set, andThen, endF, sNil, wipeD, dTrue, gE2, run_atT, run_atL, atI_0, atI_1, atI_2, atI_3, atI_4, run_optS, if_true, if_false, Bool.false_eq_true, decide_true, decide_false, Bool.not_true, Bool.not_false, true_and, and_true, gXorI, gOrI, gAndI, gShl, gShr, DL.gSub, gNeg, oI0, oI, gLt, gGt, gLe, gGe, gOrd]
    rw [run_met rfl hl2]
    have lj3 : j < 3 := by omega
    simp only [defW, sSeq, sIf, sSet, sRet, sRetN, sExpr, sPar, two, sFor, sRaise, dB, dOp, dUn, dV, dC, dIfE, dM1, dJoin.isS, dSl, dPart, dNoPart, dNot, dAnd, dOr, dNotV, dOrV, dAndV, dChain, dCall, dOwn, dTup, dLst, dLstM, aCons, aNil, dTru, slot, startD, iOf, its, itsOf, itm, run_bnd, run_ret, run_fail, run_chk, run_rd, run_wr, run_any, run_nox, run_exn, run_tag, see, look, lookM, W.opt, s1, s2, c1, c2, asB, List.map, List.replicate, List.append_eq, List.cons_append, List.nil_append, List.set, andThen, endF, sNil, wipeD, dTrue, gE2, run_atT, run_atL, atI_0, atI_1, atI_2, atI_3, atI_4, run_optS, if_true, if_false, Bool.false_eq_true, decide_true, decide_false, Bool.not_true, Bool.not_false, true_and, and_true, gXorI, gOrI, gAndI, gShl, gShr, DL.gSub, gNeg, oI0, oI, gLt, gGt, gLe, gGe, gOrd, at_qwz lj3]
    refine ⟨rfl, run_draw hd2 (by omega) (by decide) (by decide) fun w w0 w1 μ3 hd3 mv3 => ?_⟩
    simp only [defW, sSeq, sIf, sSet, sRet, sRetN, sExpr, sPar, two, sFor, sRaise, dB, dOp, dUn, dV, dC, dIfE, dM1, dJoin.isS, dSl, dPart, dNoPart, dNot, dAnd, dOr, dNotV, dOrV, dAndV, dChain, dCall, dOwn, dTup, dLst, dLstM, aCons, aNil, dTru, slot, startD, iOf, its, itsOf, itm, run_bnd, run_ret, run_fail, run_chk, run_rd, run_wr, run_any, run_nox, run_exn, run_tag, see, look, lookM, W.opt, s1, s2, c1, c2, asB, List.map, List.replicate, List.append_eq, List.cons_append, List.nil_append, List.set, andThen, endF, sNil, wipeD, dTrue, gE2, run_atT, run_atL, atI_0, atI_1, atI_2, atI_3, atI_4, run_optS, if_true, if_false, Bool.false_eq_true, decide_true, decide_false, Bool.not_true, Bool.not_false, true_and, and_true, gXorI, gOrI, gAndI, gShl, gShr, DL.gSub, gNeg, oI0, oI, gLt, gGt, gLe, gGe, gOrd, gAdd]
    refine ⟨rfl, run_draw hd3 (by omega) (by decide) (by decide) fun c c0 c1 μ4 hd4 mv4 => ?_⟩
    simp only [defW, sSeq, sIf, sSet, sRet, sRetN, sExpr, sPar, two, sFor, sRaise, dB, dOp, dUn, dV, dC, dIfE, dM1, dJoin.isS, dSl, dPart, dNoPart, dNot, dAnd, dOr, dNotV, dOrV, dAndV, dChain, dCall, dOwn, dTup, dLst, dLstM, aCons, aNil, dTru, slot, startD, iOf, its, itsOf, itm, run_bnd, run_ret, run_fail, run_chk, run_rd, run_wr, run_any, run_nox, run_exn, run_tag, see, look, lookM, W.opt, s1, s2, c1, c2, asB, List.map, List.replicate, List.append_eq, List.cons_append, List.nil_append, List.set, andThen, endF, sNil, wipeD, dTrue, gE2, run_atT, run_atL, atI_0, atI_1, atI_2, atI_3, atI_4, run_optS, if_true, if_false, Bool.false_eq_true, decide_true, decide_false, Bool.not_true, Bool.not_false, true_and, and_true, gXorI, gOrI, gAndI, gShl, gShr, DL.gSub, gNeg, oI0, oI, gLt, gGt, gLe, gGe, gOrd, at_cd c0 c1, List.length_cons, List.length_nil, four_le]
    have hl4 : μ4[μ.length]? = some (.lst (fl.map fun x => dR (.inr x.1 x.2))) := (mv4.at_ _ (by omega)).trans ((mv3.at_ _ (by omega)).trans hl2)
    have lfl : fl.length = j := ok.len
    rw [run_append hl4 (by rw [List.length_map]; omega)]
    obtain ⟨v, rfl⟩ := Int.eq_ofNat_of_zero_le w0
    refine ⟨_, fl ++ [((nm j, 1 + v), cdn c.toNat)], rfl, ⟨?_, ?_, fun y hy => ?_, fun y hy => ?_⟩, ?_, ?_⟩
    · rw [List.length_append, lfl]
      rfl
    · rw [List.map_append, ok.names, List.range_succ, List.map_append]
      rfl
    · rcases List.mem_append.mp hy with hy | hy
      · exact ok.wide y hy
      · rw [List.mem_singleton.mp hy]
        exact ⟨by show 1 ≤ 1 + v; omega, by show 1 + v ≤ 3; omega⟩
    · rcases List.mem_append.mp hy with hy | hy
      · exact ok.cd y hy
      · rw [List.mem_singleton.mp hy]
        exact cdn_or _
    · exact (hd4.set (by omega) _).mono (by omega)
    · rw [List.getElem?_set_self (List.getElem?_eq_some_iff.mp hl4).1, List.map_append]
      rfl
  · rintro ε μ2 ⟨x2, fl, rfl, ok, hd2, hl2⟩
    refine ⟨True.intro, ?_⟩
    rw [Nat.zero_add, rngD_map, List.length_map, List.length_range] at ok hd2
    have ok' : OkFl fl := ⟨by rw [ok.len]; omega, by rw [ok.len]; omega, by rw [ok.len]; exact ok.names, ok.wide, ok.cd⟩
    obtain ⟨⟨⟨p, n⟩, c⟩, fl', rfl⟩ : ∃ x fl', fl = x :: fl' := by
      cases fl with
      | nil => cases ok.len
      | cons x fl' => exact ⟨x, fl', rfl⟩
    have l1 : (((p, n), c) :: fl').length + 1 ≤ sizeLine := by
      have := ok'.few
      omega
    simp only [defW, sSeq, sIf, sSet, sRet, sRetN, sExpr, sPar, two, sFor, sRaise, dB, dOp, dUn, dV, dC, dIfE, dM1, dJoin.isS, dSl, dPart, dNoPart, dNot, dAnd, dOr, dNotV, dOrV, dAndV, dChain, dCall, dOwn, dTup, dLst, dLstM, aCons, aNil, dTru, slot, startD, iOf, its, itsOf, itm, run_bnd, run_ret, run_fail, run_chk, run_rd, run_wr, run_any, run_nox, run_exn, run_tag, see, look, lookM, W.opt, s1, s2, c1, c2, asB, List.map, List.replicate, List.append_eq, List.cons_append, List.nil_append, List.set, andThen, endF, sNil, wipeD, dTrue, gE2, run_atT, run_atL, atI_0, atI_1, atI_2, atI_3, atI_4, run_optS, if_true, if_false, Bool.false_eq_true, decide_true, decide_false, Bool.not_true, Bool.not_false, true_and, and_true, gXorI, gOrI, gAndI, gShl, gShr, DL.gSub, gNeg, oI0, oI, gLt, gGt, gLe, gGe, gOrd, hl2, gTuple, run_atR hl2, dR, gAdd]
    refine ⟨two_le, four_le, by show 1 ≤ sizeLine; omega, ?_, ?_⟩
    · rw [List.length_cons, List.length_map]
      exact l1
    · have := q (((p, n), c) :: fl') n p μ2 ok' ⟨c, fl', rfl⟩ (hd2.mono (by omega))
      unfold flD flatR at this
      rw [List.map_append, List.map_map] at this
      exact this
end
end K34

namespace K34
open PySem PySem.Spec PyProof.Rows L2 Kit DL
section
variable {Q : D → Mu → Prop} {E : Exn → Mu → Prop} {μ : Mu}
/-! ### beats drawn -/
theorem run_lcN {dg : D → DS → Option DS} {ft : DS → W Bool} {fe : DS → W D} {ε : DS} {p : Mu → Prop} (I : Nat → List D → Mu → Prop) : ∀ (xs : List D) (i : Nat) (acc : List D) {μ : Mu} {R : List D → Mu → Prop},
    (∀ j x acc μ, xs[j]? = some x → I (i + j) acc μ → p μ ∧ ∃ ε', dg x ε = some ε' ∧ (ft ε').run (fun b μ1 => if b = true then (fe ε').run (fun y μ2 => I (i + j + 1) (acc ++ [y]) μ2) E μ1 else I (i + j + 1) acc μ1) E μ) →
    (∀ ys μ', I (i + xs.length) (acc ++ ys) μ' → p μ' ∧ R ys μ') → I i acc μ → (lcW dg ft fe ε p xs).run R E μ
  | [], i, acc, μ, R, _, fin, h => by
    obtain ⟨h1, h2⟩ := fin [] μ (by rw [List.append_nil]; exact h)
    exact ⟨h1, h2⟩
  | x :: xs, i, acc, μ, R, step, fin, h => by
    obtain ⟨hp, ε', e, r⟩ := step 0 x acc μ rfl h
    refine ⟨hp, ?_⟩
    show ((W.opt (dg x ε)).bnd fun ε1 => W.bnd (ft ε1) fun b => if b = true then W.bnd (fe ε1) fun y => W.bnd (lcW dg ft fe ε p xs) fun ys => W.ret (y :: ys) else lcW dg ft fe ε p xs).run R E μ
    rw [e]
    have step' : ∀ j y acc μ, xs[j]? = some y → I (i + 1 + j) acc μ → p μ ∧ ∃ ε', dg y ε = some ε' ∧ (ft ε').run (fun b μ1 => if b = true then (fe ε').run (fun y μ2 => I (i + 1 + j + 1) (acc ++ [y]) μ2) E μ1 else I (i + 1 + j + 1) acc μ1) E μ := fun j y acc μ ey hy => by
      have := step (j + 1) y acc μ ey (by rw [show i + (j + 1) = i + 1 + j by omega]; exact hy)
      rw [show i + (j + 1) + 1 = i + 1 + j + 1 by omega] at this
      exact this
    refine W.up (m := ft ε') r fun b μ1 q => ?_
    cases b with
    | false =>
      exact run_lcN I xs (i + 1) acc step' (fun ys μ' h' => fin ys μ' (by rw [List.length_cons, show i + (xs.length + 1) = i + 1 + xs.length by omega]; exact h')) q
    | true =>
      refine W.up (m := fe ε') q fun y μ2 q2 => ?_
      refine run_lcN I xs (i + 1) (acc ++ [y]) step' (fun ys μ' h' => ?_) q2
      rw [List.append_assoc] at h'
      exact fin (y :: ys) μ' (by rw [List.length_cons, show i + (xs.length + 1) = i + 1 + xs.length by omega]; exact h')
theorem sort_cd : SortOk [.str "c", .str "d"] := ⟨⟨[.str "c", .str "d"], rfl⟩, fun d hd d' hd' => by
  rcases List.mem_cons.mp hd with rfl | hd
  · rcases List.mem_cons.mp hd' with rfl | hd'
    · decide +kernel
    · rw [List.mem_singleton.mp hd']
      decide +kernel
  · rw [List.mem_singleton.mp hd]
    rcases List.mem_cons.mp hd' with rfl | hd'
    · decide +kernel
    · rw [List.mem_singleton.mp hd']
      decide +kernel, .inr fun d hd => by
    obtain ⟨x, hx, rfl⟩ := List.mem_map.mp hd
    rcases List.mem_cons.mp hx with rfl | hx
    · exact ⟨PyData.noConfusion, fun _ => PyData.noConfusion⟩
    · rw [List.mem_singleton.mp hx]
      exact ⟨PyData.noConfusion, fun _ => PyData.noConfusion⟩, fun x hx => by
    rcases List.mem_cons.mp hx with rfl | hx
    · decide +kernel
    · rw [List.mem_singleton.mp hx]
      decide +kernel⟩
theorem sorted_cd : ∃ ss : List Str, sortD [.str "c", .str "d"] = ss.map D.str ∧ ss.length = 2 ∧ ∀ z ∈ ss, z = "c" ∨ z = "d" := by
  have pm : (sortD [.str "c", .str "d"]).Perm [.str "c", .str "d"] := List.mergeSort_perm _ _
  have hm : ∀ d ∈ sortD [.str "c", .str "d"], ∃ z, d = D.str z ∧ (z = "c" ∨ z = "d") := fun d hd => by
    rcases List.mem_cons.mp (pm.mem_iff.mp hd) with rfl | h
    · exact ⟨_, rfl, .inl rfl⟩
    · rw [List.mem_singleton.mp h]
      exact ⟨_, rfl, .inr rfl⟩
  have hl := pm.length_eq
  generalize sortD [.str "c", .str "d"] = L at hm hl
  clear pm
  refine ⟨L.map fun d => match d with | .str z => z | _ => "c", ?_, by rw [List.length_map, hl]; rfl, fun z hz => ?_⟩
  · rw [List.map_map]
    refine (List.map_id _).symm.trans (List.map_congr_left fun d hd => ?_)
    obtain ⟨z, rfl, _⟩ := hm d hd
    rfl
  · obtain ⟨d, hd, rfl⟩ := List.mem_map.mp hz
    obtain ⟨z, rfl, h⟩ := hm d hd
    exact h
/-- a beat drawn for these ins -/
structure OkB (fl : List (In × Str)) (b : Beat) : Prop where
  few : b.1.length ≤ 2
  cd : ∀ z ∈ b.1, z = "c" ∨ z = "d"
  len : b.2.length = fl.length
  small : ∀ w ∈ b.2, 0 ≤ w ∧ w ≤ 8
theorem run_db_1 {t ℓ : Nat} (ht : t < 1000000) (h : Dk μ t) (hℓ : ℓ ≠ 0) {fl : List (In × Str)} {n : Nat} {p : Str} (ok : OkFl fl) {bs : List Beat} (hb : bs.length ≤ 100) (hl : μ[ℓ]? = some (.lst (bs.map bD))) {m5 : Int} {e3 : D} {e6 e7 e8 : Option D} {R : Fl → Mu → Prop}
    (q : ∀ b e6 μ', OkB fl b → Dk μ' (t + 5) → μ'[ℓ]? = some (.lst ((bs ++ [b]).map bD)) → R (.nx [some (.ref 0), some (flD fl n p), some (.lst [.str "c", .str "d"]), some e3, some (.ref ℓ), some (.int m5), e6, e7, e8]) μ') :
    (L_l_drawn_beats_1 [some (.ref 0), some (flD fl n p), some (.lst [.str "c", .str "d"]), some e3, some (.ref ℓ), some (.int m5), e6, e7, e8]).run R E μ := by
  have big := sl1000
  obtain ⟨ss, es, ls, hs⟩ := sorted_cd
  simp only [L_l_drawn_beats_1, defW, sSeq, sIf, sSet, sRet, sRetN, sExpr, sPar, two, sFor, sRaise, dB, dOp, dUn, dV, dC, dIfE, dM1, dJoin.isS, dSl, dPart, dNoPart, dNot, dAnd, dOr, dNotV, dOrV, dAndV, dChain, dCall, dOwn, dTup, dLst, dLstM, aCons, aNil, dTru, slot, startD, iOf, its, itsOf, itm, run_bnd, run_ret, run_fail, run_chk, run_rd, run_wr, run_any, run_nox, run_exn, run_tag, see, look, lookM, W.opt, s1, s2, c1, c2, asB, List.map, List.replicate, List.append_eq, List.cons_append, List.nil_append, List.set, andThen, endF, sNil, wipeD, dTrue, gE2, run_atT, run_atL, atI_0, atI_1, atI_2, atI_3, atI_4, run_optS, if_true, if_false, Bool.false_eq_true, decide_true, decide_false, Bool.not_true, Bool.not_false, true_and, and_true, gXorI, gOrI, gAndI, gShl, gShr, DL.gSub, gNeg, oI0, oI, gLt, gGt, gLe, gGe, gOrd, gSort, sort_cd, gMkL, Bool.false_eq_true, es, dLc, List.length_map, ls]
  refine ⟨by omega, run_lcN (fun i acc μ' => ∃ zs : List Str, acc = zs.map D.str ∧ zs.length ≤ i ∧ (∀ z ∈ zs, z = "c" ∨ z = "d") ∧ Dk μ' (t + i) ∧ μ'[ℓ]? = some (.lst (bs.map bD))) _ 0 [] ?_ ?_ ⟨[], rfl, Nat.le_refl _, fun _ h => (List.not_mem_nil h).elim, h, hl⟩⟩
  · rintro j x acc μ1 ex ⟨zs, rfl, lz, hz, hd, hl1⟩
    rw [Nat.zero_add] at lz hd ⊢
    have lj : j < 2 := by
      rw [← ls]
      have := (List.getElem?_eq_some_iff.mp ex).1
      rw [List.length_map] at this
      exact this
    rw [List.getElem?_map] at ex
    obtain ⟨z, ez, rfl⟩ := map_inv ex
    refine ⟨True.intro, _, rfl, ?_⟩
    simp only [defW, sSeq, sIf, sSet, sRet, sRetN, sExpr, sPar, two, sFor, sRaise, dB, dOp, dUn, dV, dC, dIfE, dM1, dJoin.isS, dSl, dPart, dNoPart, dNot, dAnd, dOr, dNotV, dOrV, dAndV, dChain, dCall, dOwn, dTup, dLst, dLstM, aCons, aNil, dTru, slot, startD, iOf, its, itsOf, itm, run_bnd, run_ret, run_fail, run_chk, run_rd, run_wr, run_any, run_nox, run_exn, run_tag, see, look, lookM, W.opt, s1, s2, c1, c2, asB, List.map, List.replicate, List.append_eq, List.cons_append, List.nil_append, List.set, andThen, endF, sNil, wipeD, dTrue, gE2, run_atT, run_atL, atI_0, atI_1, atI_2, atI_3, atI_4, run_optS, if_true, if_false, Bool.false_eq_true, decide_true, decide_false, Bool.not_true, Bool.not_false, true_and, and_true, gXorI, gOrI, gAndI, gShl, gShr, DL.gSub, gNeg, oI0, oI, gLt, gGt, gLe, gGe, gOrd]
    refine ⟨rfl, run_draw hd (by omega) (by decide) (by decide) fun r h0 h1 μ2 hd2 mv => ?_⟩
    have hl2 := (mv.at_ _ hℓ).trans hl1
    simp only [defW, sSeq, sIf, sSet, sRet, sRetN, sExpr, sPar, two, sFor, sRaise, dB, dOp, dUn, dV, dC, dIfE, dM1, dJoin.isS, dSl, dPart, dNoPart, dNot, dAnd, dOr, dNotV, dOrV, dAndV, dChain, dCall, dOwn, dTup, dLst, dLstM, aCons, aNil, dTru, slot, startD, iOf, its, itsOf, itm, run_bnd, run_ret, run_fail, run_chk, run_rd, run_wr, run_any, run_nox, run_exn, run_tag, see, look, lookM, W.opt, s1, s2, c1, c2, asB, List.map, List.replicate, List.append_eq, List.cons_append, List.nil_append, List.set, andThen, endF, sNil, wipeD, dTrue, gE2, run_atT, run_atL, atI_0, atI_1, atI_2, atI_3, atI_4, run_optS, if_true, if_false, Bool.false_eq_true, decide_true, decide_false, Bool.not_true, Bool.not_false, true_and, and_true, gXorI, gOrI, gAndI, gShl, gShr, DL.gSub, gNeg, oI0, oI, gLt, gGt, gLe, gGe, gOrd]
    by_cases hr : 0 < r
    · simp only [hr, decide_true, if_true, defW, sSeq, sIf, sSet, sRet, sRetN, sExpr, sPar, two, sFor, sRaise, dB, dOp, dUn, dV, dC, dIfE, dM1, dJoin.isS, dSl, dPart, dNoPart, dNot, dAnd, dOr, dNotV, dOrV, dAndV, dChain, dCall, dOwn, dTup, dLst, dLstM, aCons, aNil, dTru, slot, startD, iOf, its, itsOf, itm, run_bnd, run_ret, run_fail, run_chk, run_rd, run_wr, run_any, run_nox, run_exn, run_tag, see, look, lookM, W.opt, s1, s2, c1, c2, asB, List.map, List.replicate, List.append_eq, List.cons_append, List.nil_append, List.set, andThen, endF, sNil, wipeD, dTrue, gE2, run_atT, run_atL, atI_0, atI_1, atI_2, atI_3, atI_4, run_optS, if_true, if_false, Bool.false_eq_true, decide_true, decide_false, Bool.not_true, Bool.not_false, true_and, and_true, gXorI, gOrI, gAndI, gShl, gShr, DL.gSub, gNeg, oI0, oI, gLt, gGt, gLe, gGe, gOrd]
      refine ⟨zs ++ [z], by rw [List.map_append]; rfl, by rw [List.length_append]; exact Nat.succ_le_succ lz, fun y hy => ?_, hd2, hl2⟩
      rcases List.mem_append.mp hy with hy | hy
      · exact hz y hy
      · rw [List.mem_singleton.mp hy]
        exact hs z (List.mem_of_getElem? ez)
    · simp only [hr, decide_false, Bool.false_eq_true, if_false]
      exact ⟨zs, rfl, Nat.le_succ_of_le lz, hz, hd2, hl2⟩
  · rintro ys μ1 ⟨zs, rfl, lz, hz, hd, hl1⟩
    rw [Nat.zero_add, List.length_map, ls] at lz hd
    refine ⟨True.intro, ?_⟩
    simp only [defW, sSeq, sIf, sSet, sRet, sRetN, sExpr, sPar, two, sFor, sRaise, dB, dOp, dUn, dV, dC, dIfE, dM1, dJoin.isS, dSl, dPart, dNoPart, dNot, dAnd, dOr, dNotV, dOrV, dAndV, dChain, dCall, dOwn, dTup, dLst, dLstM, aCons, aNil, dTru, slot, startD, iOf, its, itsOf, itm, run_bnd, run_ret, run_fail, run_chk, run_rd, run_wr, run_any, run_nox, run_exn, run_tag, see, look, lookM, W.opt, s1, s2, c1, c2, asB, List.map, List.replicate, List.append_eq, List.cons_append, List.nil_append, List.set, andThen, endF, sNil, wipeD, dTrue, gE2, run_atT, run_atL, atI_0, atI_1, atI_2, atI_3, atI_4, run_optS, if_true, if_false, Bool.false_eq_true, decide_true, decide_false, Bool.not_true, Bool.not_false, true_and, and_true, gXorI, gOrI, gAndI, gShl, gShr, DL.gSub, gNeg, oI0, oI, gLt, gGt, gLe, gGe, gOrd, gTuple]
    rw [run_met rfl hl1]
    have lfl := ok.few
    have lr : (flatR fl n p).length = fl.length + 1 := by
      unfold flatR
      rw [List.length_append, List.length_map]
      rfl
    simp only [defW, sSeq, sIf, sSet, sRet, sRetN, sExpr, sPar, two, sFor, sRaise, dB, dOp, dUn, dV, dC, dIfE, dM1, dJoin.isS, dSl, dPart, dNoPart, dNot, dAnd, dOr, dNotV, dOrV, dAndV, dChain, dCall, dOwn, dTup, dLst, dLstM, aCons, aNil, dTru, slot, startD, iOf, its, itsOf, itm, run_bnd, run_ret, run_fail, run_chk, run_rd, run_wr, run_any, run_nox, run_exn, run_tag, see, look, lookM, W.opt, s1, s2, c1, c2, asB, List.map, List.replicate, List.append_eq, List.cons_append, List.nil_append, List.set, andThen, endF, sNil, wipeD, dTrue, gE2, run_atT, run_atL, atI_0, atI_1, atI_2, atI_3, atI_4, run_optS, if_true, if_false, Bool.false_eq_true, decide_true, decide_false, Bool.not_true, Bool.not_false, true_and, and_true, gXorI, gOrI, gAndI, gShl, gShr, DL.gSub, gNeg, oI0, oI, gLt, gGt, gLe, gGe, gOrd, dLc, flD, List.length_map, lr]
    refine ⟨by omega, run_lcN (fun i acc μ' => ∃ ws : List Int, acc = iD ws ∧ ws.length = min i fl.length ∧ (∀ w ∈ ws, 0 ≤ w ∧ w ≤ 8) ∧ Dk μ' (t + 2 + ws.length) ∧ μ'[ℓ]? = some (.lst (bs.map bD))) _ 0 [] ?_ ?_ ⟨[], rfl, by rw [Nat.zero_min]; rfl, fun _ h => (List.not_mem_nil h).elim, hd, hl1⟩⟩
    · rintro j x acc μ2 ex ⟨ws, rfl, lw, hw, hd2, hl2⟩
      rw [Nat.zero_add] at lw ⊢
      rw [List.getElem?_map] at ex
      obtain ⟨r, er, rfl⟩ := map_inv ex
      refine ⟨True.intro, _, rfl, ?_⟩
      obtain ⟨w, tl, e1, e2⟩ := word_row r
      by_cases hj : j < fl.length
      · have : ∃ x ∈ fl, r = .inr x.1 x.2 := by
          unfold flatR at er
          rw [List.getElem?_append_left (by rw [List.length_map]; exact hj), List.getElem?_map] at er
          obtain ⟨x, hx, rfl⟩ := map_inv er
          exact ⟨x, List.mem_of_getElem? hx, rfl⟩
        obtain ⟨x, hx, rfl⟩ := this
        obtain ⟨k1, k3⟩ := ok.wide x hx
        have cp : CPow 1 (x.1.2 : Nat) := ⟨by omega, by omega, by decide⟩
        have pw : (1 : Int) ≤ 2 ^ x.1.2 ∧ (2 : Int) ^ x.1.2 ≤ 8 := by
          rcases (by omega : x.1.2 = 1 ∨ x.1.2 = 2 ∨ x.1.2 = 3) with e | e | e <;> rw [e] <;> decide
        simp only [defW, sSeq, sIf, sSet, sRet, sRetN, sExpr, sPar, two, sFor, sRaise, dB, dOp, dUn, dV, dC, dIfE, dM1, dJoin.isS, dSl, dPart, dNoPart, dNot, dAnd, dOr, dNotV, dOrV, dAndV, dChain, dCall, dOwn, dTup, dLst, dLstM, aCons, aNil, dTru, slot, startD, iOf, its, itsOf, itm, run_bnd, run_ret, run_fail, run_chk, run_rd, run_wr, run_any, run_nox, run_exn, run_tag, see, look, lookM, W.opt, s1, s2, c1, c2, asB, List.map, List.replicate, List.append_eq, List.cons_append, List.nil_append, List.set, andThen, endF, sNil, wipeD, dTrue, gE2, run_atT, run_atL, atI_0, atI_1, atI_2, atI_3, atI_4, run_optS, if_true, if_false, Bool.false_eq_true, decide_true, decide_false, Bool.not_true, Bool.not_false, true_and, and_true, gXorI, gOrI, gAndI, gShl, gShr, DL.gSub, gNeg, oI0, oI, gLt, gGt, gLe, gGe, gOrd, dR, w_in_in, cp, Int.toNat_natCast, Int.one_mul]
        refine ⟨rfl, run_draw hd2 (by omega) pw.1 (by omega) fun r h0 h1 μ3 hd3 mv3 => ?_⟩
        refine ⟨ws ++ [r], (show iD (ws ++ [r]) = iD ws ++ [.int r] from List.map_append).symm, by rw [List.length_append, lw]; show _ + 1 = _; omega, fun y hy => ?_, by rw [List.length_append]; exact hd3, (mv3.at_ _ hℓ).trans hl2⟩
        rcases List.mem_append.mp hy with hy | hy
        · exact hw y hy
        · rw [List.mem_singleton.mp hy]
          omega
      · have : r = .out n p := by
          unfold flatR at er
          rw [List.getElem?_append_right (by rw [List.length_map]; omega)] at er
          exact List.mem_singleton.mp (List.mem_of_getElem? er)
        subst this
        simp only [defW, sSeq, sIf, sSet, sRet, sRetN, sExpr, sPar, two, sFor, sRaise, dB, dOp, dUn, dV, dC, dIfE, dM1, dJoin.isS, dSl, dPart, dNoPart, dNot, dAnd, dOr, dNotV, dOrV, dAndV, dChain, dCall, dOwn, dTup, dLst, dLstM, aCons, aNil, dTru, slot, startD, iOf, its, itsOf, itm, run_bnd, run_ret, run_fail, run_chk, run_rd, run_wr, run_any, run_nox, run_exn, run_tag, see, look, lookM, W.opt, s1, s2, c1, c2, asB, List.map, List.replicate, List.append_eq, List.cons_append, List.nil_append, List.set, andThen, endF, sNil, wipeD, dTrue, gE2, run_atT, run_atL, atI_0, atI_1, atI_2, atI_3, atI_4, run_optS, if_true, if_false, Bool.false_eq_true, decide_true, decide_false, Bool.not_true, Bool.not_false, true_and, and_true, gXorI, gOrI, gAndI, gShl, gShr, DL.gSub, gNeg, oI0, oI, gLt, gGt, gLe, gGe, gOrd, dR, w_out_in]
        exact ⟨ws, rfl, by omega, hw, hd2, hl2⟩
    · rintro ys μ2 ⟨ws, rfl, lw, hw, hd2, hl2⟩
      refine ⟨True.intro, ?_⟩
      rw [Nat.zero_add, List.length_map, lr, Nat.min_eq_right (Nat.le_succ _)] at lw
      simp only [defW, sSeq, sIf, sSet, sRet, sRetN, sExpr, sPar, two, sFor, sRaise, dB, dOp, dUn, dV, dC, dIfE, dM1, dJoin.isS, dSl, dPart, dNoPart, dNot, dAnd, dOr, dNotV, dOrV, dAndV, dChain, dCall, dOwn, dTup, dLst, dLstM, aCons, aNil, dTru, slot, startD, iOf, its, itsOf, itm, run_bnd, run_ret, run_fail, run_chk, run_rd, run_wr, run_any, run_nox, run_exn, run_tag, see, look, lookM, W.opt, s1, s2, c1, c2, asB, List.map, List.replicate, List.append_eq, List.cons_append, List.nil_append, List.set, andThen, endF, sNil, wipeD, dTrue, gE2, run_atT, run_atL, atI_0, atI_1, atI_2, atI_3, atI_4, run_optS, if_true, if_false, Bool.false_eq_true, decide_true, decide_false, Bool.not_true, Bool.not_false, true_and, and_true, gXorI, gOrI, gAndI, gShl, gShr, DL.gSub, gNeg, oI0, oI, gLt, gGt, gLe, gGe, gOrd, gTuple, List.length_cons, List.length_nil, two_le]
      rw [run_append hl2 (by rw [List.length_map]; omega)]
      refine q (zs, ws) _ _ ⟨lz, hz, lw, hw⟩ ((hd2.mono (by omega)).set hℓ _) ?_
      rw [List.getElem?_set_self (List.getElem?_eq_some_iff.mp hl2).1, List.map_append]
      rfl
theorem run_beats {t : Nat} (ht : t < 900000) (h : Dk μ t) {fl : List (In × Str)} {n : Nat} {p : Str} (ok : OkFl fl) {many : Nat} (hm : many ≤ 60) (q : ∀ (bs : List Beat) μ', bs.length = many → (∀ b ∈ bs, OkB fl b) → Dk μ' (t + 300) → Q (.tup (bs.map bD)) μ') : (F_l_drawn_beats [.ref 0, flD fl n p, .lst [.str "c", .str "d"], .int many]).run Q E μ := by
  have big := sl1000
  have z0 : (0 : Nat) ≤ sizeLine := Nat.zero_le _
  have hp := h.pos
  have h1 : -(2 ^ 62) ≤ (many : Int) ∧ (many : Int) < 2 ^ 62 := ⟨by omega, by omega⟩
  simp only [F_l_drawn_beats, B_l_drawn_beats, defW, sSeq, sIf, sSet, sRet, sRetN, sExpr, sPar, two, sFor, sRaise, dB, dOp, dUn, dV, dC, dIfE, dM1, dJoin.isS, dSl, dPart, dNoPart, dNot, dAnd, dOr, dNotV, dOrV, dAndV, dChain, dCall, dOwn, dTup, dLst, dLstM, aCons, aNil, dTru, slot, startD, iOf, its, itsOf, itm, run_bnd, run_ret, run_fail, run_chk, run_rd, run_wr, run_any, run_nox, run_exn, run_tag, see, look, lookM, W.opt, s1, s2, c1, c2, asB, List.map, List.replicate, List.append_eq, List.cons_append, List.nil_append, List.set, andThen, endF, sNil, wipeD, dTrue, gE2, run_atT, run_atL, atI_0, atI_1, atI_2, atI_3, atI_4, run_optS, if_true, if_false, Bool.false_eq_true, decide_true, decide_false, Bool.not_true, Bool.not_false, true_and, and_true, gXorI, gOrI, gAndI, gShl, gShr, DL.gSub, gNeg, oI0, oI, gLt, gGt, gLe, gGe, gOrd, List.length_nil, z0, DL.alloc, rng1, h1, Int.toNat_natCast]
  refine run_forI (fun j ε μ' => ∃ (x5 x6 : Option D) (bs : List Beat), ε = [some (.ref 0), some (flD fl n p), some (.lst [.str "c", .str "d"]), some (.int many), some (.ref μ.length), x5, x6, none, none] ∧ bs.length = j ∧ (∀ b ∈ bs, OkB fl b) ∧ Dk μ' (t + 5 * j) ∧ μ'[μ.length]? = some (.lst (bs.map bD))) _ 0 ?_ ?_ ⟨none, none, [], rfl, rfl, fun _ h => (List.not_mem_nil h).elim, h.app _, get_last⟩
  · rintro j x ε μ1 ex ⟨x5, x6, bs, rfl, lb, hb, hd, hl⟩
    rw [Nat.zero_add] at lb hd ⊢
    rw [rngD_map, List.getElem?_map] at ex
    obtain ⟨k, ek, rfl⟩ := map_inv ex
    have lj : j < many := by
      have := (List.getElem?_eq_some_iff.mp ek).1
      rw [List.length_range] at this
      exact this
    refine ⟨True.intro, _, rfl, run_db_1 (by omega) hd (by omega) ok (by omega) hl fun b e6 μ2 ob hd2 hl2 => ?_⟩
    refine ⟨_, _, bs ++ [b], rfl, by rw [List.length_append, lb]; rfl, fun y hy => ?_, hd2.mono (by omega), hl2⟩
    rcases List.mem_append.mp hy with hy | hy
    · exact hb y hy
    · rw [List.mem_singleton.mp hy]
      exact ob
  · rintro ε μ1 ⟨x5, x6, bs, rfl, lb, hb, hd, hl⟩
    refine ⟨True.intro, ?_⟩
    rw [Nat.zero_add, rngD_map, List.length_map, List.length_range] at lb hd
    simp only [defW, sSeq, sIf, sSet, sRet, sRetN, sExpr, sPar, two, sFor, sRaise, dB, dOp, dUn, dV, dC, dIfE, dM1, dJoin.isS, dSl, dPart, dNoPart, dNot, dAnd, dOr, dNotV, dOrV, dAndV, dChain, dCall, dOwn, dTup, dLst, dLstM, aCons, aNil, dTru, slot, startD, iOf, its, itsOf, itm, run_bnd, run_ret, run_fail, run_chk, run_rd, run_wr, run_any, run_nox, run_exn, run_tag, see, look, lookM, W.opt, s1, s2, c1, c2, asB, List.map, List.replicate, List.append_eq, List.cons_append, List.nil_append, List.set, andThen, endF, sNil, wipeD, dTrue, gE2, run_atT, run_atL, atI_0, atI_1, atI_2, atI_3, atI_4, run_optS, if_true, if_false, Bool.false_eq_true, decide_true, decide_false, Bool.not_true, Bool.not_false, true_and, and_true, gXorI, gOrI, gAndI, gShl, gShr, DL.gSub, gNeg, oI0, oI, gLt, gGt, gLe, gGe, gOrd, hl, gTuple]
    exact q bs μ1 lb hb (hd.mono (by omega))
end
end K34

namespace K34
open PySem PySem.Spec PyProof.Rows L2 Kit DL
section
variable {Q : D → Mu → Prop} {E : Exn → Mu → Prop} {μ : Mu}
/-! ### a net drawn: what is left of the ins -/
def gI (x : Str × Nat) : Gt := .inp x.1 x.2
theorem flat_cut (fl : List (In × Str)) (n : Nat) (p : Str) : DL.cutD ((flatR fl n p).map dR) none (some (-1)) = fl.map fun x => dR (.inr x.1 x.2) := by
  rw [cutD_init _ (by unfold flatR; rw [List.length_map, List.length_append]; exact Nat.le_add_left _ _)]
  unfold flatR
  rw [List.map_append, List.map_map]
  exact List.dropLast_concat
theorem KsOf_len {ins : List In} {c : Nat} (h : ∀ a ∈ ins, a.2 ≤ c) : (KsOf ins).length ≤ ins.length * c := by
  unfold KsOf
  rw [List.length_flatMap]
  exact sum_le ins fun a ha => by rw [List.length_map, List.length_range]; exact h a ha
theorem KsOf_app (a b : List In) : KsOf (a ++ b) = KsOf a ++ KsOf b := List.flatMap_append
theorem mem_take {α : Type} {l : List α} {n : Nat} {x : α} (h : x ∈ l.take n) : x ∈ l := List.mem_of_mem_take h
theorem run_left_1 {ℓ j : Nat} {fl : List (In × Str)} {F : D} {x : In × Str} (ok : OkFl fl) (e : fl[j]? = some x) (hl : μ[ℓ]? = some (.lst ((KsOf ((fl.take j).map (·.1))).map fun k => dG (gI k)))) {x4 : Option D} {rest : DS} {R : Fl → Mu → Prop}
    (q : ∀ x4, R (.nx (some (.ref 0) :: some F :: some (.ref μ.length) :: some (dR (.inr x.1 x.2)) :: x4 :: rest)) (μ ++ [.lst ((KsOf ((fl.take (j + 1)).map (·.1))).map fun k => dG (gI k))])) :
    (L_l_net_drawn_1 (some (.ref 0) :: some F :: some (.ref ℓ) :: some (dR (.inr x.1 x.2)) :: x4 :: rest)).run R E μ := by
  have big := sl1000
  have k3 := (ok.wide x (List.mem_of_getElem? e)).2
  have few := ok.few
  have hk : (KsOf ((fl.take j).map (·.1))).length ≤ 9 := by
    have h := KsOf_len (ins := (fl.take j).map (·.1)) (c := 3) fun a ha => by
      obtain ⟨y, hy, rfl⟩ := List.mem_map.mp ha
      exact (ok.wide y (mem_take hy)).2
    rw [List.length_map, List.length_take] at h
    omega
  have h1 : -(2 ^ 62) ≤ (x.1.2 : Int) ∧ (x.1.2 : Int) < 2 ^ 62 := ⟨by omega, by omega⟩
  have h2 : x.1.2 < sizeLine := by omega
  simp only [L_l_net_drawn_1, defW, sSeq, sIf, sSet, sRet, sRetN, sExpr, sPar, two, sFor, sRaise, dB, dOp, dUn, dV, dC, dIfE, dM1, dJoin.isS, dSl, dPart, dNoPart, dNot, dAnd, dOr, dNotV, dOrV, dAndV, dChain, dCall, dOwn, dTup, dLst, dLstM, aCons, aNil, dTru, slot, startD, iOf, its, itsOf, itm, run_bnd, run_ret, run_fail, run_chk, run_rd, run_wr, run_any, run_nox, run_exn, run_tag, see, look, lookM, W.opt, s1, s2, c1, c2, asB, List.map, List.replicate, List.append_eq, List.cons_append, List.nil_append, List.set, andThen, endF, sNil, wipeD, dTrue, gE2, run_atT, run_atL, atI_0, atI_1, atI_2, atI_3, atI_4, run_optS, if_true, if_false, Bool.false_eq_true, decide_true, decide_false, Bool.not_true, Bool.not_false, true_and, and_true, gXorI, gOrI, gAndI, gShl, gShr, DL.gSub, gNeg, oI0, oI, gLt, gGt, gLe, gGe, gOrd, hl, dLc, dR, rng1, h1, Int.toNat_natCast, rngD_map, List.length_map, List.length_range, h2]
  rw [run_lcA (p := fun _ => True) (e := nD) (t := fun _ => true) (f := fun k => dG (gI (x.1.1, k))) True.intro]
  · rw [List.filter_eq_self.mpr (fun _ _ => rfl)]
    simp only [defW, sSeq, sIf, sSet, sRet, sRetN, sExpr, sPar, two, sFor, sRaise, dB, dOp, dUn, dV, dC, dIfE, dM1, dJoin.isS, dSl, dPart, dNoPart, dNot, dAnd, dOr, dNotV, dOrV, dAndV, dChain, dCall, dOwn, dTup, dLst, dLstM, aCons, aNil, dTru, slot, startD, iOf, its, itsOf, itm, run_bnd, run_ret, run_fail, run_chk, run_rd, run_wr, run_any, run_nox, run_exn, run_tag, see, look, lookM, W.opt, s1, s2, c1, c2, asB, List.map, List.replicate, List.append_eq, List.cons_append, List.nil_append, List.set, andThen, endF, sNil, wipeD, dTrue, gE2, run_atT, run_atL, atI_0, atI_1, atI_2, atI_3, atI_4, run_optS, if_true, if_false, Bool.false_eq_true, decide_true, decide_false, Bool.not_true, Bool.not_false, true_and, and_true, gXorI, gOrI, gAndI, gShl, gShr, DL.gSub, gNeg, oI0, oI, gLt, gGt, gLe, gGe, gOrd, hl, gCat, gMkL, DL.alloc, List.length_map, List.length_range]
    refine ⟨by omega, ?_⟩
    have := q x4
    rw [List.take_succ, e, List.map_append, KsOf_app, List.map_append] at this
    have e2 : (KsOf ([x].map (·.1))).map (fun k => dG (gI k)) = (List.range x.1.2).map fun k => dG (gI (x.1.1, k)) := by
      show (List.map _ _ ++ []).map _ = _
      rw [List.append_nil, List.map_map]
      rfl
    rw [show (some x).toList = [x] from rfl, e2] at this
    exact this
  · intro k hk
    refine ⟨_, rfl, fun _ => rfl, fun _ Q' => ?_⟩
    simp only [defW, sSeq, sIf, sSet, sRet, sRetN, sExpr, sPar, two, sFor, sRaise, dB, dOp, dUn, dV, dC, dIfE, dM1, dJoin.isS, dSl, dPart, dNoPart, dNot, dAnd, dOr, dNotV, dOrV, dAndV, dChain, dCall, dOwn, dTup, dLst, dLstM, aCons, aNil, dTru, slot, startD, iOf, its, itsOf, itm, run_bnd, run_ret, run_fail, run_chk, run_rd, run_wr, run_any, run_nox, run_exn, run_tag, see, look, lookM, W.opt, s1, s2, c1, c2, asB, List.map, List.replicate, List.append_eq, List.cons_append, List.nil_append, List.set, andThen, endF, sNil, wipeD, dTrue, gE2, run_atT, run_atL, atI_0, atI_1, atI_2, atI_3, atI_4, run_optS, if_true, if_false, Bool.false_eq_true, decide_true, decide_false, Bool.not_true, Bool.not_false, true_and, and_true, gXorI, gOrI, gAndI, gShl, gShr, DL.gSub, gNeg, oI0, oI, gLt, gGt, gLe, gGe, gOrd, List.length_cons, List.length_nil, three_sz]
    rfl
theorem run_sIf {t : DS → W Bool} {f g : DS → W Fl} {ε : DS} {b : Bool} {R : Fl → Mu → Prop} (h : ∀ Q' : Bool → Mu → Prop, (t ε).run Q' E μ = Q' b μ) : (sIf t f g ε).run R E μ = (if b = true then f ε else g ε).run R E μ := by
  unfold sIf
  rw [run_bnd, h]
/-- what stands while gates are drawn -/
structure NI (Ks : List (Str × Nat)) (size : Nat) (L : List (Str × Nat)) (gs : List Gt) : Prop where
  sub : ∀ x ∈ L, x ∈ Ks
  all : ∀ x ∈ Ks, x ∈ L ∨ gI x ∈ gs
  ok : ∀ (i : Nat) g, gs[i]? = some g → okG Ks size i g
  room : gs.length + L.length ≤ size
theorem NI.add {Ks : List (Str × Nat)} {size : Nat} {L : List (Str × Nat)} {gs : List Gt} (N : NI Ks size L gs) {g : Gt} (hg : okG Ks size gs.length g) (hr : gs.length + 1 + L.length ≤ size) : NI Ks size L (gs ++ [g]) := by
  refine ⟨N.sub, fun x hx => (N.all x hx).imp id fun h => List.mem_append_left _ h, fun i g' e => ?_, by rw [List.length_append]; exact hr⟩
  by_cases h : i < gs.length
  · rw [List.getElem?_append_left h] at e
    exact N.ok i g' e
  · rw [List.getElem?_append_right (by omega)] at e
    have h2 := (List.getElem?_eq_some_iff.mp e).1
    have h3 : i = gs.length := by
      have : i - gs.length < 1 := h2
      omega
    subst h3
    rw [Nat.sub_self] at e
    cases e
    exact hg
theorem NI.pop {Ks : List (Str × Nat)} {size : Nat} {L : List (Str × Nat)} {gs : List Gt} (N : NI Ks size L gs) {j : Nat} {x : Str × Nat} (e : L[j]? = some x) : NI Ks size (L.eraseIdx j) (gs ++ [gI x]) := by
  have lt := (List.getElem?_eq_some_iff.mp e).1
  have hl : (L.eraseIdx j).length = L.length - 1 := List.length_eraseIdx_of_lt lt
  have N' : NI Ks size (L.eraseIdx j) gs → False ∨ True := fun _ => .inr trivial
  refine ⟨fun y hy => N.sub y (List.mem_of_mem_eraseIdx hy), fun y hy => ?_, fun i g' e' => ?_, ?_⟩
  · rcases N.all y hy with h | h
    · by_cases hyx : y = x
      · subst hyx
        exact .inr (List.mem_append_right _ (List.mem_singleton.mpr rfl))
      · refine .inl ?_
        obtain ⟨k, hk⟩ := List.getElem?_of_mem h
        refine List.mem_eraseIdx_iff_getElem?.mpr ⟨k, fun z => hyx ?_, hk⟩
        rw [z, e] at hk
        exact (Option.some.inj hk).symm
    · exact .inr (List.mem_append_left _ h)
  · by_cases h : i < gs.length
    · rw [List.getElem?_append_left h] at e'
      exact N.ok i g' e'
    · rw [List.getElem?_append_right (by omega)] at e'
      have h2 := (List.getElem?_eq_some_iff.mp e').1
      have h3 : i = gs.length := by
        have : i - gs.length < 1 := h2
        omega
      subst h3
      rw [Nat.sub_self] at e'
      cases e'
      exact N.sub x (List.mem_of_getElem? e)
  · have := N.room
    rw [List.length_append, hl]
    show gs.length + 1 + (L.length - 1) ≤ size
    omega
end
end K34

namespace K34
open PySem PySem.Spec PyProof.Rows L2 Kit DL
section
variable {Q : D → Mu → Prop} {E : Exn → Mu → Prop} {μ : Mu}
/-! ### a gate drawn -/
structure NSt (ℓ r : Nat) (μ : Mu) (L : List (Str × Nat)) (gs : List Gt) : Prop where
  l0 : ℓ ≠ 0
  r0 : r ≠ 0
  ne : ℓ ≠ r
  left : μ[ℓ]? = some (.lst (L.map fun k => dG (gI k)))
  gates : μ[r]? = some (.lst (gs.map dG))
theorem erase_map {α β : Type} {f : α → β} : ∀ (xs : List α) (j : Nat), (xs.map f).eraseIdx j = (xs.eraseIdx j).map f
  | [], _ => rfl
  | _ :: _, 0 => rfl
  | x :: xs, j + 1 => by
    show f x :: (xs.map f).eraseIdx j = f x :: (xs.eraseIdx j).map f
    rw [erase_map xs j]
theorem NSt.mv {ℓ r : Nat} {μ μ' : Mu} {L : List (Str × Nat)} {gs : List Gt} (N : NSt ℓ r μ L gs) (m : Mv μ μ') : NSt ℓ r μ' L gs := ⟨N.l0, N.r0, N.ne, (m.at_ _ N.l0).trans N.left, (m.at_ _ N.r0).trans N.gates⟩
theorem NSt.app {ℓ r : Nat} {μ : Mu} {L : List (Str × Nat)} {gs : List Gt} (N : NSt ℓ r μ L gs) (g : Gt) : NSt ℓ r (μ.set r (.lst (gs.map dG ++ [dG g]))) L (gs ++ [g]) := by
  refine ⟨N.l0, N.r0, N.ne, ?_, ?_⟩
  · rw [List.getElem?_set_ne (fun z => N.ne z.symm)]
    exact N.left
  · rw [List.getElem?_set_self (List.getElem?_eq_some_iff.mp N.gates).1, List.map_append]
    rfl
theorem NSt.pop {ℓ r : Nat} {μ : Mu} {L : List (Str × Nat)} {gs : List Gt} (N : NSt ℓ r μ L gs) (j : Nat) : NSt ℓ r (μ.set ℓ (.lst ((L.map fun k => dG (gI k)).eraseIdx j))) (L.eraseIdx j) gs := by
  refine ⟨N.l0, N.r0, N.ne, ?_, ?_⟩
  · rw [List.getElem?_set_self (List.getElem?_eq_some_iff.mp N.left).1, erase_map]
  · rw [List.getElem?_set_ne N.ne]
    exact N.gates
variable {Ks : List (Str × Nat)} {size : Nat} {L : List (Str × Nat)} {gs : List Gt} {ℓ r t : Nat} {F : D} {x3 x4 x9 x10 : Option D} {way : Int} {R : Fl → Mu → Prop}
abbrev eND (ℓ r size n : Nat) (F : D) (x3 x4 x9 x10 : Option D) (way : Int) : DS := [some (.ref 0), some F, some (.ref ℓ), x3, x4, some (.ref r), some (nD size), some (nD n), some (.int way), x9, x10]
theorem nd_pop (h : Dk μ t) (ht : t < 1000000) (N : NSt ℓ r μ L gs) (I : NI Ks size L gs) (sm : size ≤ 100) (hL : L ≠ [])
    (q : ∀ L' g μ', NSt ℓ r μ' L' (gs ++ [g]) → NI Ks size L' (gs ++ [g]) → Dk μ' (t + 4) → R (.nx (eND ℓ r size gs.length F x3 x4 x9 x10 way)) μ') :
    (sExpr (dMet gAppend (dV 5) (aCons (dMet gPopAt (dV 2) (aCons (dOwn 2 F_l_draw (aCons (dV 0) (aCons (dCall (c1 gLen) (aCons (dV 2) aNil)) aNil))) aNil)) aNil)) (eND ℓ r size gs.length F x3 x4 x9 x10 way)).run R E μ := by
  have big := sl1000
  have rm := I.room
  have lp : 1 ≤ L.length := by
    cases L with
    | nil => exact absurd rfl hL
    | cons _ _ => exact Nat.le_add_left _ _
  simp only [eND, sExpr, defW, sSeq, sIf, sSet, sRet, sRetN, sExpr, sPar, two, sFor, sRaise, dB, dOp, dUn, dV, dC, dIfE, dM1, dJoin.isS, dSl, dPart, dNoPart, dNot, dAnd, dOr, dNotV, dOrV, dAndV, dChain, dCall, dOwn, dTup, dLst, dLstM, aCons, aNil, dTru, slot, startD, iOf, its, itsOf, itm, run_bnd, run_ret, run_fail, run_chk, run_rd, run_wr, run_any, run_nox, run_exn, run_tag, see, look, lookM, W.opt, s1, s2, c1, c2, asB, List.map, List.replicate, List.append_eq, List.cons_append, List.nil_append, List.set, andThen, endF, sNil, wipeD, dTrue, gE2, run_atT, run_atL, atI_0, atI_1, atI_2, atI_3, atI_4, run_optS, if_true, if_false, Bool.false_eq_true, decide_true, decide_false, Bool.not_true, Bool.not_false, true_and, and_true, gXorI, gOrI, gAndI, gShl, gShr, DL.gSub, gNeg, oI0, oI, gLt, gGt, gLe, gGe, gOrd]
  rw [run_met rfl N.gates]
  simp only [defW, sSeq, sIf, sSet, sRet, sRetN, sExpr, sPar, two, sFor, sRaise, dB, dOp, dUn, dV, dC, dIfE, dM1, dJoin.isS, dSl, dPart, dNoPart, dNot, dAnd, dOr, dNotV, dOrV, dAndV, dChain, dCall, dOwn, dTup, dLst, dLstM, aCons, aNil, dTru, slot, startD, iOf, its, itsOf, itm, run_bnd, run_ret, run_fail, run_chk, run_rd, run_wr, run_any, run_nox, run_exn, run_tag, see, look, lookM, W.opt, s1, s2, c1, c2, asB, List.map, List.replicate, List.append_eq, List.cons_append, List.nil_append, List.set, andThen, endF, sNil, wipeD, dTrue, gE2, run_atT, run_atL, atI_0, atI_1, atI_2, atI_3, atI_4, run_optS, if_true, if_false, Bool.false_eq_true, decide_true, decide_false, Bool.not_true, Bool.not_false, true_and, and_true, gXorI, gOrI, gAndI, gShl, gShr, DL.gSub, gNeg, oI0, oI, gLt, gGt, gLe, gGe, gOrd]
  rw [run_met rfl N.left]
  simp only [defW, sSeq, sIf, sSet, sRet, sRetN, sExpr, sPar, two, sFor, sRaise, dB, dOp, dUn, dV, dC, dIfE, dM1, dJoin.isS, dSl, dPart, dNoPart, dNot, dAnd, dOr, dNotV, dOrV, dAndV, dChain, dCall, dOwn, dTup, dLst, dLstM, aCons, aNil, dTru, slot, startD, iOf, its, itsOf, itm, run_bnd, run_ret, run_fail, run_chk, run_rd, run_wr, run_any, run_nox, run_exn, run_tag, see, look, lookM, W.opt, s1, s2, c1, c2, asB, List.map, List.replicate, List.append_eq, List.cons_append, List.nil_append, List.set, andThen, endF, sNil, wipeD, dTrue, gE2, run_atT, run_atL, atI_0, atI_1, atI_2, atI_3, atI_4, run_optS, if_true, if_false, Bool.false_eq_true, decide_true, decide_false, Bool.not_true, Bool.not_false, true_and, and_true, gXorI, gOrI, gAndI, gShl, gShr, DL.gSub, gNeg, oI0, oI, gLt, gGt, gLe, gGe, gOrd, N.left, gLen, List.length_map]
  refine ⟨rfl, run_draw h (by omega) (by omega) (by omega) fun i h0 h1 μ1 hd mv => ?_⟩
  have N1 := N.mv mv
  obtain ⟨j, rfl⟩ := Int.eq_ofNat_of_zero_le h0
  have lj : j < L.length := by omega
  have ej : (L.map fun k => dG (gI k))[j]? = some (dG (gI L[j])) := by rw [List.getElem?_map, List.getElem?_eq_getElem lj]; rfl
  rw [run_popAt N1.left rfl ej (by rw [List.length_map]; omega)]
  have N2 := N1.pop j
  rw [run_append N2.gates (by rw [List.length_map]; omega)]
  exact q _ _ _ (N2.app _) (I.pop (List.getElem?_eq_getElem lj)) (((hd.set N.l0 _).set N.r0 _).mono (by omega))
theorem nd_is (h : Dk μ t) (ht : t < 1000000) (N : NSt ℓ r μ L gs) (I : NI Ks size L gs) (sm : size ≤ 100) (room : gs.length + 1 + L.length ≤ size)
    (q : ∀ L' g μ', NSt ℓ r μ' L' (gs ++ [g]) → NI Ks size L' (gs ++ [g]) → Dk μ' (t + 4) → R (.nx (eND ℓ r size gs.length F x3 x4 x9 x10 way)) μ') :
    (sExpr (dMet gAppend (dV 5) (aCons (dTup (aCons (dC (.str "is")) (aCons (dOwn 2 F_l_draw (aCons (dV 0) (aCons (dC (.int 2)) aNil))) aNil))) aNil)) (eND ℓ r size gs.length F x3 x4 x9 x10 way)).run R E μ := by
  have big := sl1000
  simp only [eND, sExpr, defW, sSeq, sIf, sSet, sRet, sRetN, sExpr, sPar, two, sFor, sRaise, dB, dOp, dUn, dV, dC, dIfE, dM1, dJoin.isS, dSl, dPart, dNoPart, dNot, dAnd, dOr, dNotV, dOrV, dAndV, dChain, dCall, dOwn, dTup, dLst, dLstM, aCons, aNil, dTru, slot, startD, iOf, its, itsOf, itm, run_bnd, run_ret, run_fail, run_chk, run_rd, run_wr, run_any, run_nox, run_exn, run_tag, see, look, lookM, W.opt, s1, s2, c1, c2, asB, List.map, List.replicate, List.append_eq, List.cons_append, List.nil_append, List.set, andThen, endF, sNil, wipeD, dTrue, gE2, run_atT, run_atL, atI_0, atI_1, atI_2, atI_3, atI_4, run_optS, if_true, if_false, Bool.false_eq_true, decide_true, decide_false, Bool.not_true, Bool.not_false, true_and, and_true, gXorI, gOrI, gAndI, gShl, gShr, DL.gSub, gNeg, oI0, oI, gLt, gGt, gLe, gGe, gOrd]
  rw [run_met rfl N.gates]
  simp only [defW, sSeq, sIf, sSet, sRet, sRetN, sExpr, sPar, two, sFor, sRaise, dB, dOp, dUn, dV, dC, dIfE, dM1, dJoin.isS, dSl, dPart, dNoPart, dNot, dAnd, dOr, dNotV, dOrV, dAndV, dChain, dCall, dOwn, dTup, dLst, dLstM, aCons, aNil, dTru, slot, startD, iOf, its, itsOf, itm, run_bnd, run_ret, run_fail, run_chk, run_rd, run_wr, run_any, run_nox, run_exn, run_tag, see, look, lookM, W.opt, s1, s2, c1, c2, asB, List.map, List.replicate, List.append_eq, List.cons_append, List.nil_append, List.set, andThen, endF, sNil, wipeD, dTrue, gE2, run_atT, run_atL, atI_0, atI_1, atI_2, atI_3, atI_4, run_optS, if_true, if_false, Bool.false_eq_true, decide_true, decide_false, Bool.not_true, Bool.not_false, true_and, and_true, gXorI, gOrI, gAndI, gShl, gShr, DL.gSub, gNeg, oI0, oI, gLt, gGt, gLe, gGe, gOrd]
  refine ⟨rfl, run_draw h (by omega) (by omega) (by omega) fun i h0 h1 μ1 hd mv => ?_⟩
  have N1 := N.mv mv
  simp only [defW, sSeq, sIf, sSet, sRet, sRetN, sExpr, sPar, two, sFor, sRaise, dB, dOp, dUn, dV, dC, dIfE, dM1, dJoin.isS, dSl, dPart, dNoPart, dNot, dAnd, dOr, dNotV, dOrV, dAndV, dChain, dCall, dOwn, dTup, dLst, dLstM, aCons, aNil, dTru, slot, startD, iOf, its, itsOf, itm, run_bnd, run_ret, run_fail, run_chk, run_rd, run_wr, run_any, run_nox, run_exn, run_tag, see, look, lookM, W.opt, s1, s2, c1, c2, asB, List.map, List.replicate, List.append_eq, List.cons_append, List.nil_append, List.set, andThen, endF, sNil, wipeD, dTrue, gE2, run_atT, run_atL, atI_0, atI_1, atI_2, atI_3, atI_4, run_optS, if_true, if_false, Bool.false_eq_true, decide_true, decide_false, Bool.not_true, Bool.not_false, true_and, and_true, gXorI, gOrI, gAndI, gShl, gShr, DL.gSub, gNeg, oI0, oI, gLt, gGt, gLe, gGe, gOrd, List.length_cons, List.length_nil, two_le]
  rw [run_append N1.gates (by rw [List.length_map]; omega)]
  exact q _ _ _ (N1.app (.iz i)) (I.add (g := .iz i) (by show b01 i; unfold b01; omega) room) ((hd.set N.r0 _).mono (by omega))
theorem nd_box (h : Dk μ t) (ht : t < 1000000) (N : NSt ℓ r μ L gs) (I : NI Ks size L gs) (sm : size ≤ 100) (room : gs.length + 1 + L.length ≤ size)
    (q : ∀ L' g μ', NSt ℓ r μ' L' (gs ++ [g]) → NI Ks size L' (gs ++ [g]) → Dk μ' (t + 4) → R (.nx (eND ℓ r size gs.length F x3 x4 x9 x10 way)) μ') :
    (sExpr (dMet gAppend (dV 5) (aCons (dTup (aCons (dC (.str "box")) (aCons (dOp gAt (dC (.str "cd")) (dOwn 2 F_l_draw (aCons (dV 0) (aCons (dC (.int 2)) aNil)))) (aCons (dOwn 2 F_l_draw (aCons (dV 0) (aCons (dC (.int 2)) aNil))) (aCons (dOwn 2 F_l_draw (aCons (dV 0) (aCons (dV 6) aNil))) aNil))))) aNil)) (eND ℓ r size gs.length F x3 x4 x9 x10 way)).run R E μ := by
  have big := sl1000
  simp only [eND, sExpr, defW, sSeq, sIf, sSet, sRet, sRetN, sExpr, sPar, two, sFor, sRaise, dB, dOp, dUn, dV, dC, dIfE, dM1, dJoin.isS, dSl, dPart, dNoPart, dNot, dAnd, dOr, dNotV, dOrV, dAndV, dChain, dCall, dOwn, dTup, dLst, dLstM, aCons, aNil, dTru, slot, startD, iOf, its, itsOf, itm, run_bnd, run_ret, run_fail, run_chk, run_rd, run_wr, run_any, run_nox, run_exn, run_tag, see, look, lookM, W.opt, s1, s2, c1, c2, asB, List.map, List.replicate, List.append_eq, List.cons_append, List.nil_append, List.set, andThen, endF, sNil, wipeD, dTrue, gE2, run_atT, run_atL, atI_0, atI_1, atI_2, atI_3, atI_4, run_optS, if_true, if_false, Bool.false_eq_true, decide_true, decide_false, Bool.not_true, Bool.not_false, true_and, and_true, gXorI, gOrI, gAndI, gShl, gShr, DL.gSub, gNeg, oI0, oI, gLt, gGt, gLe, gGe, gOrd]
  rw [run_met rfl N.gates]
  simp only [defW, sSeq, sIf, sSet, sRet, sRetN, sExpr, sPar, two, sFor, sRaise, dB, dOp, dUn, dV, dC, dIfE, dM1, dJoin.isS, dSl, dPart, dNoPart, dNot, dAnd, dOr, dNotV, dOrV, dAndV, dChain, dCall, dOwn, dTup, dLst, dLstM, aCons, aNil, dTru, slot, startD, iOf, its, itsOf, itm, run_bnd, run_ret, run_fail, run_chk, run_rd, run_wr, run_any, run_nox, run_exn, run_tag, see, look, lookM, W.opt, s1, s2, c1, c2, asB, List.map, List.replicate, List.append_eq, List.cons_append, List.nil_append, List.set, andThen, endF, sNil, wipeD, dTrue, gE2, run_atT, run_atL, atI_0, atI_1, atI_2, atI_3, atI_4, run_optS, if_true, if_false, Bool.false_eq_true, decide_true, decide_false, Bool.not_true, Bool.not_false, true_and, and_true, gXorI, gOrI, gAndI, gShl, gShr, DL.gSub, gNeg, oI0, oI, gLt, gGt, gLe, gGe, gOrd]
  refine ⟨rfl, run_draw h (by omega) (by omega) (by omega) fun c c0 c1 μ1 hd mv => ?_⟩
  simp only [defW, sSeq, sIf, sSet, sRet, sRetN, sExpr, sPar, two, sFor, sRaise, dB, dOp, dUn, dV, dC, dIfE, dM1, dJoin.isS, dSl, dPart, dNoPart, dNot, dAnd, dOr, dNotV, dOrV, dAndV, dChain, dCall, dOwn, dTup, dLst, dLstM, aCons, aNil, dTru, slot, startD, iOf, its, itsOf, itm, run_bnd, run_ret, run_fail, run_chk, run_rd, run_wr, run_any, run_nox, run_exn, run_tag, see, look, lookM, W.opt, s1, s2, c1, c2, asB, List.map, List.replicate, List.append_eq, List.cons_append, List.nil_append, List.set, andThen, endF, sNil, wipeD, dTrue, gE2, run_atT, run_atL, atI_0, atI_1, atI_2, atI_3, atI_4, run_optS, if_true, if_false, Bool.false_eq_true, decide_true, decide_false, Bool.not_true, Bool.not_false, true_and, and_true, gXorI, gOrI, gAndI, gShl, gShr, DL.gSub, gNeg, oI0, oI, gLt, gGt, gLe, gGe, gOrd, at_cd c0 c1]
  refine ⟨rfl, run_draw hd (by omega) (by omega) (by omega) fun b b0 b1 μ2 hd2 mv2 => ?_⟩
  refine ⟨rfl, run_draw hd2 (by omega) (by omega) (by omega) fun f f0 f1 μ3 hd3 mv3 => ?_⟩
  have N1 := ((N.mv mv).mv mv2).mv mv3
  simp only [defW, sSeq, sIf, sSet, sRet, sRetN, sExpr, sPar, two, sFor, sRaise, dB, dOp, dUn, dV, dC, dIfE, dM1, dJoin.isS, dSl, dPart, dNoPart, dNot, dAnd, dOr, dNotV, dOrV, dAndV, dChain, dCall, dOwn, dTup, dLst, dLstM, aCons, aNil, dTru, slot, startD, iOf, its, itsOf, itm, run_bnd, run_ret, run_fail, run_chk, run_rd, run_wr, run_any, run_nox, run_exn, run_tag, see, look, lookM, W.opt, s1, s2, c1, c2, asB, List.map, List.replicate, List.append_eq, List.cons_append, List.nil_append, List.set, andThen, endF, sNil, wipeD, dTrue, gE2, run_atT, run_atL, atI_0, atI_1, atI_2, atI_3, atI_4, run_optS, if_true, if_false, Bool.false_eq_true, decide_true, decide_false, Bool.not_true, Bool.not_false, true_and, and_true, gXorI, gOrI, gAndI, gShl, gShr, DL.gSub, gNeg, oI0, oI, gLt, gGt, gLe, gGe, gOrd, List.length_cons, List.length_nil, four_le]
  rw [run_append N1.gates (by rw [List.length_map]; omega)]
  obtain ⟨f, rfl⟩ := Int.eq_ofNat_of_zero_le f0
  exact q _ _ _ (N1.app (.box (cdn c.toNat) b f)) (I.add (g := .box (cdn c.toNat) b f) ⟨cdn_or _, by unfold b01; omega, by omega⟩ room) ((hd3.set N.r0 _).mono (by omega))
theorem nd_not (h : Dk μ t) (ht : t < 1000000) (N : NSt ℓ r μ L gs) (I : NI Ks size L gs) (sm : size ≤ 100) (room : gs.length + 1 + L.length ≤ size) (pos : 0 < gs.length)
    (q : ∀ L' g μ', NSt ℓ r μ' L' (gs ++ [g]) → NI Ks size L' (gs ++ [g]) → Dk μ' (t + 4) → R (.nx (eND ℓ r size gs.length F x3 x4 x9 x10 way)) μ') :
    (sExpr (dMet gAppend (dV 5) (aCons (dTup (aCons (dC (.str "not")) (aCons (dOwn 2 F_l_draw (aCons (dV 0) (aCons (dV 7) aNil))) aNil))) aNil)) (eND ℓ r size gs.length F x3 x4 x9 x10 way)).run R E μ := by
  have big := sl1000
  simp only [eND, sExpr, defW, sSeq, sIf, sSet, sRet, sRetN, sExpr, sPar, two, sFor, sRaise, dB, dOp, dUn, dV, dC, dIfE, dM1, dJoin.isS, dSl, dPart, dNoPart, dNot, dAnd, dOr, dNotV, dOrV, dAndV, dChain, dCall, dOwn, dTup, dLst, dLstM, aCons, aNil, dTru, slot, startD, iOf, its, itsOf, itm, run_bnd, run_ret, run_fail, run_chk, run_rd, run_wr, run_any, run_nox, run_exn, run_tag, see, look, lookM, W.opt, s1, s2, c1, c2, asB, List.map, List.replicate, List.append_eq, List.cons_append, List.nil_append, List.set, andThen, endF, sNil, wipeD, dTrue, gE2, run_atT, run_atL, atI_0, atI_1, atI_2, atI_3, atI_4, run_optS, if_true, if_false, Bool.false_eq_true, decide_true, decide_false, Bool.not_true, Bool.not_false, true_and, and_true, gXorI, gOrI, gAndI, gShl, gShr, DL.gSub, gNeg, oI0, oI, gLt, gGt, gLe, gGe, gOrd]
  rw [run_met rfl N.gates]
  simp only [defW, sSeq, sIf, sSet, sRet, sRetN, sExpr, sPar, two, sFor, sRaise, dB, dOp, dUn, dV, dC, dIfE, dM1, dJoin.isS, dSl, dPart, dNoPart, dNot, dAnd, dOr, dNotV, dOrV, dAndV, dChain, dCall, dOwn, dTup, dLst, dLstM, aCons, aNil, dTru, slot, startD, iOf, its, itsOf, itm, run_bnd, run_ret, run_fail, run_chk, run_rd, run_wr, run_any, run_nox, run_exn, run_tag, see, look, lookM, W.opt, s1, s2, c1, c2, asB, List.map, List.replicate, List.append_eq, List.cons_append, List.nil_append, List.set, andThen, endF, sNil, wipeD, dTrue, gE2, run_atT, run_atL, atI_0, atI_1, atI_2, atI_3, atI_4, run_optS, if_true, if_false, Bool.false_eq_true, decide_true, decide_false, Bool.not_true, Bool.not_false, true_and, and_true, gXorI, gOrI, gAndI, gShl, gShr, DL.gSub, gNeg, oI0, oI, gLt, gGt, gLe, gGe, gOrd]
  refine ⟨rfl, run_draw h (by omega) (by omega) (by omega) fun a a0 a1 μ1 hd mv => ?_⟩
  have N1 := N.mv mv
  simp only [defW, sSeq, sIf, sSet, sRet, sRetN, sExpr, sPar, two, sFor, sRaise, dB, dOp, dUn, dV, dC, dIfE, dM1, dJoin.isS, dSl, dPart, dNoPart, dNot, dAnd, dOr, dNotV, dOrV, dAndV, dChain, dCall, dOwn, dTup, dLst, dLstM, aCons, aNil, dTru, slot, startD, iOf, its, itsOf, itm, run_bnd, run_ret, run_fail, run_chk, run_rd, run_wr, run_any, run_nox, run_exn, run_tag, see, look, lookM, W.opt, s1, s2, c1, c2, asB, List.map, List.replicate, List.append_eq, List.cons_append, List.nil_append, List.set, andThen, endF, sNil, wipeD, dTrue, gE2, run_atT, run_atL, atI_0, atI_1, atI_2, atI_3, atI_4, run_optS, if_true, if_false, Bool.false_eq_true, decide_true, decide_false, Bool.not_true, Bool.not_false, true_and, and_true, gXorI, gOrI, gAndI, gShl, gShr, DL.gSub, gNeg, oI0, oI, gLt, gGt, gLe, gGe, gOrd, List.length_cons, List.length_nil, two_le]
  rw [run_append N1.gates (by rw [List.length_map]; omega)]
  obtain ⟨a, rfl⟩ := Int.eq_ofNat_of_zero_le a0
  exact q _ _ _ (N1.app (.nt a)) (I.add (g := .nt a) (by show a < _; omega) room) ((hd.set N.r0 _).mono (by omega))
theorem three_le : 0 + 1 + 1 + 1 ≤ sizeLine := by decide
theorem at_words {i : Int} (h0 : 0 ≤ i) (h : i < 3) : ∃ w : Str, (w = "and" ∨ w = "or" ∨ w = "xor") ∧ ∀ {Q : D → Mu → Prop} {E : Exn → Mu → Prop} {μ : Mu}, (gAt (.lst [.str "and", .str "or", .str "xor"]) (.int i)).run Q E μ = Q (.str w) μ := by
  rcases (by omega : i = 0 ∨ i = 1 ∨ i = 2) with rfl | rfl | rfl
  · exact ⟨_, .inl rfl, rfl⟩
  · exact ⟨_, .inr (.inl rfl), rfl⟩
  · exact ⟨_, .inr (.inr rfl), rfl⟩
theorem nd_two (h : Dk μ t) (ht : t < 1000000) (N : NSt ℓ r μ L gs) (I : NI Ks size L gs) (sm : size ≤ 100) (room : gs.length + 1 + L.length ≤ size) (pos : 0 < gs.length)
    (q : ∀ L' g μ', NSt ℓ r μ' L' (gs ++ [g]) → NI Ks size L' (gs ++ [g]) → Dk μ' (t + 4) → R (.nx (eND ℓ r size gs.length F x3 x4 x9 x10 way)) μ') :
    (sExpr (dMet gAppend (dV 5) (aCons (dTup (aCons (dOp gAt (dLst (aCons (dC (.str "and")) (aCons (dC (.str "or")) (aCons (dC (.str "xor")) aNil)))) (dOwn 2 F_l_draw (aCons (dV 0) (aCons (dC (.int 3)) aNil)))) (aCons (dOwn 2 F_l_draw (aCons (dV 0) (aCons (dV 7) aNil))) (aCons (dOwn 2 F_l_draw (aCons (dV 0) (aCons (dV 7) aNil))) aNil)))) aNil)) (eND ℓ r size gs.length F x3 x4 x9 x10 way)).run R E μ := by
  have big := sl1000
  simp only [eND, sExpr, defW, sSeq, sIf, sSet, sRet, sRetN, sExpr, sPar, two, sFor, sRaise, dB, dOp, dUn, dV, dC, dIfE, dM1, dJoin.isS, dSl, dPart, dNoPart, dNot, dAnd, dOr, dNotV, dOrV, dAndV, dChain, dCall, dOwn, dTup, dLst, dLstM, aCons, aNil, dTru, slot, startD, iOf, its, itsOf, itm, run_bnd, run_ret, run_fail, run_chk, run_rd, run_wr, run_any, run_nox, run_exn, run_tag, see, look, lookM, W.opt, s1, s2, c1, c2, asB, List.map, List.replicate, List.append_eq, List.cons_append, List.nil_append, List.set, andThen, endF, sNil, wipeD, dTrue, gE2, run_atT, run_atL, atI_0, atI_1, atI_2, atI_3, atI_4, run_optS, if_true, if_false, Bool.false_eq_true, decide_true, decide_false, Bool.not_true, Bool.not_false, true_and, and_true, gXorI, gOrI, gAndI, gShl, gShr, DL.gSub, gNeg, oI0, oI, gLt, gGt, gLe, gGe, gOrd]
  rw [run_met rfl N.gates]
  simp only [defW, sSeq, sIf, sSet, sRet, sRetN, sExpr, sPar, two, sFor, sRaise, dB, dOp, dUn, dV, dC, dIfE, dM1, dJoin.isS, dSl, dPart, dNoPart, dNot, dAnd, dOr, dNotV, dOrV, dAndV, dChain, dCall, dOwn, dTup, dLst, dLstM, aCons, aNil, dTru, slot, startD, iOf, its, itsOf, itm, run_bnd, run_ret, run_fail, run_chk, run_rd, run_wr, run_any, run_nox, run_exn, run_tag, see, look, lookM, W.opt, s1, s2, c1, c2, asB, List.map, List.replicate, List.append_eq, List.cons_append, List.nil_append, List.set, andThen, endF, sNil, wipeD, dTrue, gE2, run_atT, run_atL, atI_0, atI_1, atI_2, atI_3, atI_4, run_optS, if_true, if_false, Bool.false_eq_true, decide_true, decide_false, Bool.not_true, Bool.not_false, true_and, and_true, gXorI, gOrI, gAndI, gShl, gShr, DL.gSub, gNeg, oI0, oI, gLt, gGt, gLe, gGe, gOrd, List.length_cons, List.length_nil, three_le]
  refine run_draw h (by omega) (by omega) (by omega) fun c c0 c1 μ1 hd mv => ?_
  obtain ⟨w, hw, ew⟩ := at_words c0 c1
  simp only [defW, sSeq, sIf, sSet, sRet, sRetN, sExpr, sPar, two, sFor, sRaise, dB, dOp, dUn, dV, dC, dIfE, dM1, dJoin.isS, dSl, dPart, dNoPart, dNot, dAnd, dOr, dNotV, dOrV, dAndV, dChain, dCall, dOwn, dTup, dLst, dLstM, aCons, aNil, dTru, slot, startD, iOf, its, itsOf, itm, run_bnd, run_ret, run_fail, run_chk, run_rd, run_wr, run_any, run_nox, run_exn, run_tag, see, look, lookM, W.opt, s1, s2, c1, c2, asB, List.map, List.replicate, List.append_eq, List.cons_append, List.nil_append, List.set, andThen, endF, sNil, wipeD, dTrue, gE2, run_atT, run_atL, atI_0, atI_1, atI_2, atI_3, atI_4, run_optS, if_true, if_false, Bool.false_eq_true, decide_true, decide_false, Bool.not_true, Bool.not_false, true_and, and_true, gXorI, gOrI, gAndI, gShl, gShr, DL.gSub, gNeg, oI0, oI, gLt, gGt, gLe, gGe, gOrd, ew]
  refine run_draw hd (by omega) (by omega) (by omega) fun b b0 b1 μ2 hd2 mv2 => ?_
  refine run_draw hd2 (by omega) (by omega) (by omega) fun f f0 f1 μ3 hd3 mv3 => ?_
  have N1 := ((N.mv mv).mv mv2).mv mv3
  rw [run_append N1.gates (by rw [List.length_map]; omega)]
  obtain ⟨f, rfl⟩ := Int.eq_ofNat_of_zero_le f0
  obtain ⟨b, rfl⟩ := Int.eq_ofNat_of_zero_le b0
  exact q _ _ _ (N1.app (.two w b f)) (I.add (g := .two w b f) ⟨hw, by omega, by omega⟩ room) ((hd3.set N.r0 _).mono (by omega))
theorem run_dAnd {t u : DS → W Bool} {ε : DS} {a b : Bool} {Q' : Bool → Mu → Prop} (h : ∀ Q' : Bool → Mu → Prop, (t ε).run Q' E μ = Q' a μ) (g : ∀ Q' : Bool → Mu → Prop, (u ε).run Q' E μ = Q' b μ) : (dAnd t u ε).run Q' E μ = Q' (a && b) μ := by
  unfold dAnd
  rw [run_bnd, h]
  cases a with
  | true => exact g Q'
  | false => rfl
theorem run_dOr {t u : DS → W Bool} {ε : DS} {a b : Bool} {Q' : Bool → Mu → Prop} (h : ∀ Q' : Bool → Mu → Prop, (t ε).run Q' E μ = Q' a μ) (g : ∀ Q' : Bool → Mu → Prop, (u ε).run Q' E μ = Q' b μ) : (dOr t u ε).run Q' E μ = Q' (a || b) μ := by
  unfold dOr
  rw [run_bnd, h]
  cases a with
  | false => exact g Q'
  | true => rfl
theorem emp_map {α : Type} {f : α → D} (L : List α) : (L.map f).isEmpty = L.isEmpty := by cases L <;> rfl
theorem run_nd (h : Dk μ t) (ht : t < 999000) (N : NSt ℓ r μ L gs) (I : NI Ks size L gs) (sm : size ≤ 100) (lt : gs.length < size) {x7 x8 : Option D}
    (q : ∀ L' g way μ', NSt ℓ r μ' L' (gs ++ [g]) → NI Ks size L' (gs ++ [g]) → Dk μ' (t + 5) → R (.nx (eND ℓ r size gs.length F x3 x4 x9 x10 way)) μ') :
    (L_l_net_drawn_2 [some (.ref 0), some F, some (.ref ℓ), x3, x4, some (.ref r), some (nD size), x7, x8, x9, x10]).run R E μ := by
  have big := sl1000
  have rm := I.room
  unfold L_l_net_drawn_2
  rw [show (sSeq (sPar 7 8 (aCons (dCall (c1 gLen) (aCons (dV 5) aNil)) (aCons (dOwn 2 F_l_draw (aCons (dV 0) (aCons (dC (.int 8)) aNil))) aNil))) _ [some (.ref 0), some F, some (.ref ℓ), x3, x4, some (.ref r), some (nD size), x7, x8, x9, x10]) = W.bnd (sPar 7 8 (aCons (dCall (c1 gLen) (aCons (dV 5) aNil)) (aCons (dOwn 2 F_l_draw (aCons (dV 0) (aCons (dC (.int 8)) aNil))) aNil)) [some (.ref 0), some F, some (.ref ℓ), x3, x4, some (.ref r), some (nD size), x7, x8, x9, x10]) (andThen _) from rfl, run_bnd]
  simp only [sPar, dCall, aCons, aNil, run_bnd, run_ret, dV, slot, c1, see, look, lookM, run_rd, N.gates, W.opt, gLen, List.length_map, dOwn, dC, run_tag, run_chk]
  refine ⟨rfl, run_draw h (by omega) (by omega) (by omega) fun way w0 w1 μ1 hd mv => ?_⟩
  have N1 := N.mv mv
  simp only [two, run_ret, andThen, List.set]
  have q' : ∀ L' g μ', NSt ℓ r μ' L' (gs ++ [g]) → NI Ks size L' (gs ++ [g]) → Dk μ' (t + 1 + 4) → R (.nx (eND ℓ r size gs.length F x3 x4 x9 x10 way)) μ' := fun L' g μ' a b c => q L' g way μ' a b c
  refine Eq.mpr (run_sIf (b := !L.isEmpty && (decide (way < 3) || (decide ((size : Int) - gs.length ≤ L.length) || decide ((gs.length : Int) = 0)))) fun Q' => ?_) ?_
  · refine run_dAnd (fun Q' => ?_) fun Q' => run_dOr (fun Q' => ?_) fun Q' => run_dOr (fun Q' => ?_) fun Q' => ?_
    · simp only [defW, sSeq, sIf, sSet, sRet, sRetN, sExpr, sPar, two, sFor, sRaise, dB, dOp, dUn, dV, dC, dIfE, dM1, dJoin.isS, dSl, dPart, dNoPart, dNot, dAnd, dOr, dNotV, dOrV, dAndV, dChain, dCall, dOwn, dTup, dLst, dLstM, aCons, aNil, dTru, slot, startD, iOf, its, itsOf, itm, run_bnd, run_ret, run_fail, run_chk, run_rd, run_wr, run_any, run_nox, run_exn, run_tag, see, look, lookM, W.opt, s1, s2, c1, c2, asB, List.map, List.replicate, List.append_eq, List.cons_append, List.nil_append, List.set, andThen, endF, sNil, wipeD, dTrue, gE2, run_atT, run_atL, atI_0, atI_1, atI_2, atI_3, atI_4, run_optS, if_true, if_false, Bool.false_eq_true, decide_true, decide_false, Bool.not_true, Bool.not_false, true_and, and_true, gXorI, gOrI, gAndI, gShl, gShr, DL.gSub, gNeg, oI0, oI, gLt, gGt, gLe, gGe, gOrd, N1.left, emp_map, List.length_nil, (Nat.zero_le _ : (0 : Nat) ≤ sizeLine)]
    · simp only [defW, sSeq, sIf, sSet, sRet, sRetN, sExpr, sPar, two, sFor, sRaise, dB, dOp, dUn, dV, dC, dIfE, dM1, dJoin.isS, dSl, dPart, dNoPart, dNot, dAnd, dOr, dNotV, dOrV, dAndV, dChain, dCall, dOwn, dTup, dLst, dLstM, aCons, aNil, dTru, slot, startD, iOf, its, itsOf, itm, run_bnd, run_ret, run_fail, run_chk, run_rd, run_wr, run_any, run_nox, run_exn, run_tag, see, look, lookM, W.opt, s1, s2, c1, c2, asB, List.map, List.replicate, List.append_eq, List.cons_append, List.nil_append, List.set, andThen, endF, sNil, wipeD, dTrue, gE2, run_atT, run_atL, atI_0, atI_1, atI_2, atI_3, atI_4, run_optS, if_true, if_false, Bool.false_eq_true, decide_true, decide_false, Bool.not_true, Bool.not_false, true_and, and_true, gXorI, gOrI, gAndI, gShl, gShr, DL.gSub, gNeg, oI0, oI, gLt, gGt, gLe, gGe, gOrd]
    · simp only [defW, sSeq, sIf, sSet, sRet, sRetN, sExpr, sPar, two, sFor, sRaise, dB, dOp, dUn, dV, dC, dIfE, dM1, dJoin.isS, dSl, dPart, dNoPart, dNot, dAnd, dOr, dNotV, dOrV, dAndV, dChain, dCall, dOwn, dTup, dLst, dLstM, aCons, aNil, dTru, slot, startD, iOf, its, itsOf, itm, run_bnd, run_ret, run_fail, run_chk, run_rd, run_wr, run_any, run_nox, run_exn, run_tag, see, look, lookM, W.opt, s1, s2, c1, c2, asB, List.map, List.replicate, List.append_eq, List.cons_append, List.nil_append, List.set, andThen, endF, sNil, wipeD, dTrue, gE2, run_atT, run_atL, atI_0, atI_1, atI_2, atI_3, atI_4, run_optS, if_true, if_false, Bool.false_eq_true, decide_true, decide_false, Bool.not_true, Bool.not_false, true_and, and_true, gXorI, gOrI, gAndI, gShl, gShr, DL.gSub, gNeg, oI0, oI, gLt, gGt, gLe, gGe, gOrd, N1.left, gLen, List.length_map]
    · simp only [defW, sSeq, sIf, sSet, sRet, sRetN, sExpr, sPar, two, sFor, sRaise, dB, dOp, dUn, dV, dC, dIfE, dM1, dJoin.isS, dSl, dPart, dNoPart, dNot, dAnd, dOr, dNotV, dOrV, dAndV, dChain, dCall, dOwn, dTup, dLst, dLstM, aCons, aNil, dTru, slot, startD, iOf, its, itsOf, itm, run_bnd, run_ret, run_fail, run_chk, run_rd, run_wr, run_any, run_nox, run_exn, run_tag, see, look, lookM, W.opt, s1, s2, c1, c2, asB, List.map, List.replicate, List.append_eq, List.cons_append, List.nil_append, List.set, andThen, endF, sNil, wipeD, dTrue, gE2, run_atT, run_atL, atI_0, atI_1, atI_2, atI_3, atI_4, run_optS, if_true, if_false, Bool.false_eq_true, decide_true, decide_false, Bool.not_true, Bool.not_false, true_and, and_true, gXorI, gOrI, gAndI, gShl, gShr, DL.gSub, gNeg, oI0, oI, gLt, gGt, gLe, gGe, gOrd]
  by_cases c1 : (!L.isEmpty && (decide (way < 3) || (decide ((size : Int) - gs.length ≤ L.length) || decide ((gs.length : Int) = 0)))) = true
  · rw [if_pos c1]
    rw [Bool.and_eq_true] at c1
    refine nd_pop hd (by omega) N1 I sm (fun z => ?_) q'
    rw [z] at c1
    exact Bool.noConfusion c1.1
  rw [if_neg c1]
  have room : gs.length + 1 + L.length ≤ size := by
    cases L with
    | nil => exact lt
    | cons x L =>
      rw [show (!(x :: L).isEmpty) = true from rfl, Bool.true_and, Bool.or_eq_true, Bool.or_eq_true, decide_eq_true_eq, decide_eq_true_eq, decide_eq_true_eq] at c1
      rw [List.length_cons] at c1 ⊢
      omega
  refine Eq.mpr (run_sIf (b := decide (way < 2) || decide ((gs.length : Int) = 0)) fun Q' => run_dOr (fun Q' => by simp only [defW, sSeq, sIf, sSet, sRet, sRetN, sExpr, sPar, two, sFor, sRaise, dB, dOp, dUn, dV, dC, dIfE, dM1, dJoin.isS, dSl, dPart, dNoPart, dNot, dAnd, dOr, dNotV, dOrV, dAndV, dChain, dCall, dOwn, dTup, dLst, dLstM, aCons, aNil, dTru, slot, startD, iOf, its, itsOf, itm, run_bnd, run_ret, run_fail, run_chk, run_rd, run_wr, run_any, run_nox, run_exn, run_tag, see, look, lookM, W.opt, s1, s2, c1, c2, asB, List.map, List.replicate, List.append_eq, List.cons_append, List.nil_append, List.set, andThen, endF, sNil, wipeD, dTrue, gE2, run_atT, run_atL, atI_0, atI_1, atI_2, atI_3, atI_4, run_optS, if_true, if_false, Bool.false_eq_true, decide_true, decide_false, Bool.not_true, Bool.not_false, true_and, and_true, gXorI, gOrI, gAndI, gShl, gShr, DL.gSub, gNeg, oI0, oI, gLt, gGt, gLe, gGe, gOrd]) fun Q' => by simp only [defW, sSeq, sIf, sSet, sRet, sRetN, sExpr, sPar, two, sFor, sRaise, dB, dOp, dUn, dV, dC, dIfE, dM1, dJoin.isS, dSl, dPart, dNoPart, dNot, dAnd, dOr, dNotV, dOrV, dAndV, dChain, dCall, dOwn, dTup, dLst, dLstM, aCons, aNil, dTru, slot, startD, iOf, its, itsOf, itm, run_bnd, run_ret, run_fail, run_chk, run_rd, run_wr, run_any, run_nox, run_exn, run_tag, see, look, lookM, W.opt, s1, s2, c1, c2, asB, List.map, List.replicate, List.append_eq, List.cons_append, List.nil_append, List.set, andThen, endF, sNil, wipeD, dTrue, gE2, run_atT, run_atL, atI_0, atI_1, atI_2, atI_3, atI_4, run_optS, if_true, if_false, Bool.false_eq_true, decide_true, decide_false, Bool.not_true, Bool.not_false, true_and, and_true, gXorI, gOrI, gAndI, gShl, gShr, DL.gSub, gNeg, oI0, oI, gLt, gGt, gLe, gGe, gOrd]) ?_
  by_cases c2 : (decide (way < 2) || decide ((gs.length : Int) = 0)) = true
  · rw [if_pos c2]
    exact nd_is hd (by omega) N1 I sm room q'
  rw [if_neg c2]
  rw [Bool.or_eq_true, decide_eq_true_eq, decide_eq_true_eq] at c2
  have pos : 0 < gs.length := by omega
  refine Eq.mpr (run_sIf (b := decide (way < 5)) fun Q' => by simp only [defW, sSeq, sIf, sSet, sRet, sRetN, sExpr, sPar, two, sFor, sRaise, dB, dOp, dUn, dV, dC, dIfE, dM1, dJoin.isS, dSl, dPart, dNoPart, dNot, dAnd, dOr, dNotV, dOrV, dAndV, dChain, dCall, dOwn, dTup, dLst, dLstM, aCons, aNil, dTru, slot, startD, iOf, its, itsOf, itm, run_bnd, run_ret, run_fail, run_chk, run_rd, run_wr, run_any, run_nox, run_exn, run_tag, see, look, lookM, W.opt, s1, s2, c1, c2, asB, List.map, List.replicate, List.append_eq, List.cons_append, List.nil_append, List.set, andThen, endF, sNil, wipeD, dTrue, gE2, run_atT, run_atL, atI_0, atI_1, atI_2, atI_3, atI_4, run_optS, if_true, if_false, Bool.false_eq_true, decide_true, decide_false, Bool.not_true, Bool.not_false, true_and, and_true, gXorI, gOrI, gAndI, gShl, gShr, DL.gSub, gNeg, oI0, oI, gLt, gGt, gLe, gGe, gOrd]) ?_
  by_cases c3 : decide (way < 5) = true
  · rw [if_pos c3]
    exact nd_box hd (by omega) N1 I sm room q'
  rw [if_neg c3]
  refine Eq.mpr (run_sIf (b := decide (way = 5)) fun Q' => by simp only [defW, sSeq, sIf, sSet, sRet, sRetN, sExpr, sPar, two, sFor, sRaise, dB, dOp, dUn, dV, dC, dIfE, dM1, dJoin.isS, dSl, dPart, dNoPart, dNot, dAnd, dOr, dNotV, dOrV, dAndV, dChain, dCall, dOwn, dTup, dLst, dLstM, aCons, aNil, dTru, slot, startD, iOf, its, itsOf, itm, run_bnd, run_ret, run_fail, run_chk, run_rd, run_wr, run_any, run_nox, run_exn, run_tag, see, look, lookM, W.opt, s1, s2, c1, c2, asB, List.map, List.replicate, List.append_eq, List.cons_append, List.nil_append, List.set, andThen, endF, sNil, wipeD, dTrue, gE2, run_atT, run_atL, atI_0, atI_1, atI_2, atI_3, atI_4, run_optS, if_true, if_false, Bool.false_eq_true, decide_true, decide_false, Bool.not_true, Bool.not_false, true_and, and_true, gXorI, gOrI, gAndI, gShl, gShr, DL.gSub, gNeg, oI0, oI, gLt, gGt, gLe, gGe, gOrd]) ?_
  by_cases c4 : decide (way = 5) = true
  · rw [if_pos c4]
    exact nd_not hd (by omega) N1 I sm room pos q'
  rw [if_neg c4]
  exact nd_two hd (by omega) N1 I sm room pos q'
end
end K34

namespace K34
open PySem PySem.Spec PyProof.Rows L2 Kit DL
section
variable {Q : D → Mu → Prop} {E : Exn → Mu → Prop} {μ : Mu}
/-! ### shown things, and indices -/
theorem _root_.DL.SR.cons {t : D} {ts : List D} {n L M : Nat} (h : SR t n L) (hs : SRL ts n M) : SRL (t :: ts) n (L + M) := SRL.cons h hs
theorem okZ_nm (i : Nat) : okZ (nm i) := by
  match i with
  | 0 => exact okZ_dec (by decide +kernel)
  | 1 => exact okZ_dec (by decide +kernel)
  | k + 2 =>
    show okZ "z"
    exact okZ_dec (by decide +kernel)
theorem okZ_c : okZ "c" := okZ_dec (by decide +kernel)
theorem okZ_d : okZ "d" := okZ_dec (by decide +kernel)
theorem okZ_cd {z : Str} (h : z = "c" ∨ z = "d") : okZ z := by
  rcases h with rfl | rfl
  · exact okZ_c
  · exact okZ_d
theorem okZ_in : okZ "in" := okZ_dec (by decide +kernel)
theorem okZ_is : okZ "is" := okZ_dec (by decide +kernel)
theorem okZ_box : okZ "box" := okZ_dec (by decide +kernel)
theorem okZ_not : okZ "not" := okZ_dec (by decide +kernel)
theorem okZ_y : okZ "y" := okZ_dec (by decide +kernel)
theorem okZ_gate : okZ "gate" := okZ_dec (by decide +kernel)
theorem okZ_op {w : Str} (h : w = "and" ∨ w = "or" ∨ w = "xor") : okZ w := by
  rcases h with rfl | rfl | rfl <;> exact okZ_dec (by decide +kernel)
theorem fl_name {fl : List (In × Str)} (ok : OkFl fl) {x : In × Str} (h : x ∈ fl) : okZ x.1.1 := by
  have : x.1.1 ∈ (List.range fl.length).map nm := by
    rw [← ok.names]
    exact List.mem_map_of_mem (f := fun x : In × Str => x.1.1) h
  obtain ⟨i, _, e⟩ := List.mem_map.mp this
  rw [← e]
  exact okZ_nm i
theorem Ks_fl {fl : List (In × Str)} {p : Str} {k : Nat} : (p, k) ∈ KsOf (fl.map (·.1)) ↔ ∃ x ∈ fl, x.1.1 = p ∧ k < x.1.2 := by
  constructor
  · intro h
    obtain ⟨a, ha, h⟩ := List.mem_flatMap.mp h
    obtain ⟨x, hx, rfl⟩ := List.mem_map.mp ha
    obtain ⟨k', hk, e⟩ := List.mem_map.mp h
    cases e
    exact ⟨x, hx, rfl, List.mem_range.mp hk⟩
  · rintro ⟨x, hx, rfl, hk⟩
    exact List.mem_flatMap.mpr ⟨x.1, List.mem_map_of_mem (f := fun x : In × Str => x.1) hx, List.mem_map.mpr ⟨k, List.mem_range.mpr hk, rfl⟩⟩
theorem SR.b01 {b : Int} (h : b01 b) (n : Nat) : SR (.int b) n 9 := by
  rcases h with rfl | rfl
  · exact SR.int (by decide) (by decide) n
  · exact SR.int (by decide) (by decide) n
theorem SR.nD {k : Nat} (h : k ≤ 9999999) (n : Nat) : SR (nD k) n 9 := SR.nat h n
theorem SR_gate {fl : List (In × Str)} (ok : OkFl fl) {n i : Nat} {g : Gt} (hn : n ≤ 1000) (hi : i < n) (h : okG (KsOf (fl.map (·.1))) n i g) : SR (dG g) 1 500 := by
  cases g with
  | inp p k =>
    obtain ⟨x, hx, rfl, hk⟩ := Ks_fl.mp h
    have := (ok.wide x hx).2
    exact (((SR.str okZ_in 0).cons ((SR.str (fl_name ok hx) 0).cons ((SR.nD (by omega) 0).cons SRL.nil))).tup).mono (by decide) (by decide)
  | iz b => exact (((SR.str okZ_is 0).cons ((SR.b01 h 0).cons SRL.nil)).tup).mono (by decide) (by decide)
  | box c b f => exact (((SR.str okZ_box 0).cons ((SR.str (okZ_cd h.1) 0).cons ((SR.b01 h.2.1 0).cons ((SR.nD (by have := h.2.2; omega) 0).cons SRL.nil)))).tup).mono (by decide) (by decide)
  | nt a => exact (((SR.str okZ_not 0).cons ((SR.nD (by have : a < i := h; omega) 0).cons SRL.nil)).tup).mono (by decide) (by decide)
  | two w a c =>
    obtain ⟨hw, ha, hc⟩ := h
    exact (((SR.str (okZ_op hw) 0).cons ((SR.nD (by omega) 0).cons ((SR.nD (by omega) 0).cons SRL.nil))).tup).mono (by decide) (by decide)
theorem SRL_gates {fl : List (In × Str)} (ok : OkFl fl) {gs : List Gt} (hn : gs.length ≤ 1000) (h : okGs (KsOf (fl.map (·.1))) gs) : SRL (gs.map dG) 1 (500 * gs.length) := by
  have := SRL.of (n := 1) (L := 500) (ts := gs.map dG) fun d hd => by
    obtain ⟨g, hg, rfl⟩ := List.mem_map.mp hd
    obtain ⟨i, e⟩ := List.getElem?_of_mem hg
    exact SR_gate ok hn (List.getElem?_eq_some_iff.mp e).1 (h i g e)
  rw [List.length_map] at this
  exact this
theorem pyL_mem : ∀ {ds : List D} {ps : List PyData} {d : D} {p : PyData}, pyL ds = some ps → d ∈ ds → py d = some p → p ∈ ps
  | [], _, _, _, _, h, _ => by cases h
  | d :: ds, ps, x, p, e, h, hp => by
    rw [pyL] at e
    obtain ⟨p1, h1, h2⟩ := bind_inv e
    obtain ⟨ps', h3, rfl⟩ := map_inv h2
    rcases List.mem_cons.mp h with rfl | h
    · rw [hp] at h1
      cases h1
      exact List.mem_cons_self
    · exact List.mem_cons_of_mem _ (pyL_mem h3 h hp)
theorem run_index {r : Nat} {xs : List D} {y : D} {n L M : Nat} (hr : μ[r]? = some (.lst xs)) (hs : SRL xs n L) (hy : SR y n M) (hn : n ≤ 60) (hm : y ∈ xs) : ∃ j, j < xs.length ∧ ∀ {Q : D → Mu → Prop} {E : Exn → Mu → Prop}, (gIndex (.ref r) [y]).run Q E μ = Q (nD j) μ := by
  obtain ⟨ps, b0, bl, b1, b3, b4, b5⟩ := hs.ok
  obtain ⟨p, a0, a1, a3, a4, a5⟩ := hy.ok
  have mem := pyL_mem b0 hm a0
  have rf : PyData.eqv p p = true := SeqAt.eqv_refl p a5
  have s1 : SeqAt.shaped (.list ps) = true := by
    unfold SeqAt.shaped
    rw [PyData.canLay0, b5, PyData.depth, decide_eq_true (by omega)]
    rfl
  have s2 : SeqAt.shaped p = true := by
    unfold SeqAt.shaped
    rw [a5, decide_eq_true (by omega)]
    rfl
  cases e : ps.findIdx? fun z => PyData.eqv z p with
  | none =>
    rw [List.findIdx?_eq_none_iff] at e
    exact absurd rf (by rw [e p mem]; decide)
  | some j =>
    have lt : j < ps.length := (List.findIdx?_eq_some_iff_getElem.mp e).1
    refine ⟨j, by rw [← bl]; exact lt, fun {Q E} => ?_⟩
    unfold gIndex
    rw [run_bnd, run_see, show look μ (.ref r) = some (.lst xs) from (show lookM μ[r]? = _ by rw [hr]; rfl)]
    show ((W.opt (pyL xs)).bnd fun ps => W.bnd (pyW y) fun q => W.chk (SeqAt.shaped (.list ps) = true ∧ SeqAt.shaped q = true) (W.bnd (W.opt (ps.findIdx? fun z => PyData.eqv z q)) fun j => W.ret (.int (j : Nat)))).run Q E μ = _
    rw [b0, run_bnd]
    show ((pyW y).bnd fun q => W.chk (SeqAt.shaped (.list ps) = true ∧ SeqAt.shaped q = true) (W.bnd (W.opt (ps.findIdx? fun z => PyData.eqv z q)) fun j => W.ret (D.int (j : Nat)))).run Q E μ = _
    unfold pyW
    rw [a0, run_bnd]
    show ((SeqAt.shaped (.list ps) = true ∧ SeqAt.shaped p = true) ∧ (W.bnd (W.opt (ps.findIdx? fun z => PyData.eqv z p)) fun j => W.ret (D.int (j : Nat))).run Q E μ) = _
    rw [propext (and_iff_right ⟨s1, s2⟩), e]
    rfl
end
end K34

namespace K34
open PySem PySem.Spec PyProof.Rows L2 Kit DL
section
variable {Q : D → Mu → Prop} {E : Exn → Mu → Prop} {μ : Mu}
/-! ### gates drawn, traces -/
variable {Ks : List (Str × Nat)} {size : Nat} {ℓ r : Nat} {F : D} {x3 x4 x9 x10 : Option D} {R : Fl → Mu → Prop}
theorem run_gates (sm : size ≤ 100) : ∀ (n : Nat) {gs : List Gt} {L : List (Str × Nat)} {μ : Mu} {t : Nat} {x7 x8 : Option D}, size - gs.length < n → Dk μ t → t + 5 * (size - gs.length) < 900000 → NSt ℓ r μ L gs → NI Ks size L gs →
    (∀ gs' x7 x8 μ', gs'.length = size → NSt ℓ r μ' [] gs' → NI Ks size [] gs' → Dk μ' (t + 5 * (size - gs.length)) → R (.nx [some (.ref 0), some F, some (.ref ℓ), x3, x4, some (.ref r), some (nD size), x7, x8, x9, x10]) μ') →
    (whW (dB (dOp gLt (dCall (c1 gLen) (aCons (dV 5) aNil)) (dV 6))) L_l_net_drawn_2 n [some (.ref 0), some F, some (.ref ℓ), x3, x4, some (.ref r), some (nD size), x7, x8, x9, x10]).run R E μ
  | 0, _, _, _, _, _, _, h, _, _, _, _, _ => absurd h (Nat.not_lt_zero _)
  | n + 1, gs, L, μ, t, x7, x8, hn, hd, ht, N, I, q => by
    have rm := I.room
    have hc : ∀ Q' : Bool → Mu → Prop, (dB (dOp gLt (dCall (c1 gLen) (aCons (dV 5) aNil)) (dV 6)) [some (.ref 0), some F, some (.ref ℓ), x3, x4, some (.ref r), some (nD size), x7, x8, x9, x10]).run Q' E μ = Q' (decide ((gs.length : Int) < size)) μ := fun Q' => by
      simp only [defW, sSeq, sIf, sSet, sRet, sRetN, sExpr, sPar, two, sFor, sRaise, dB, dOp, dUn, dV, dC, dIfE, dM1, dJoin.isS, dSl, dPart, dNoPart, dNot, dAnd, dOr, dNotV, dOrV, dAndV, dChain, dCall, dOwn, dTup, dLst, dLstM, aCons, aNil, dTru, slot, startD, iOf, its, itsOf, itm, run_bnd, run_ret, run_fail, run_chk, run_rd, run_wr, run_any, run_nox, run_exn, run_tag, see, look, lookM, W.opt, s1, s2, c1, c2, asB, List.map, List.replicate, List.append_eq, List.cons_append, List.nil_append, List.set, andThen, endF, sNil, wipeD, dTrue, gE2, run_atT, run_atL, atI_0, atI_1, atI_2, atI_3, atI_4, run_optS, if_true, if_false, Bool.false_eq_true, decide_true, decide_false, Bool.not_true, Bool.not_false, true_and, and_true, gXorI, gOrI, gAndI, gShl, gShr, DL.gSub, gNeg, oI0, oI, gLt, gGt, gLe, gGe, gOrd, N.gates, gLen, List.length_map]
    unfold whW
    rw [run_bnd, hc]
    by_cases lt : (gs.length : Int) < size
    · rw [decide_eq_true lt, if_pos rfl, run_bnd]
      refine run_nd hd (by omega) N I sm (by omega) fun L' g way μ' N' I' hd' => ?_
      have el : (gs ++ [g]).length = gs.length + 1 := by rw [List.length_append]; rfl
      refine run_gates sm n (t := t + 5) (by rw [el]; omega) hd' (by rw [el]; omega) N' I' fun gs' x7 x8 μ' h1 h2 h3 h4 => q gs' x7 x8 μ' h1 h2 h3 (h4.mono ?_)
      rw [el]
      omega
    · rw [decide_eq_false lt, if_neg (by decide), run_ret]
      have hl : L = [] := by
        cases L with
        | nil => rfl
        | cons _ _ =>
          rw [List.length_cons] at rm
          omega
      subst hl
      exact q gs x7 x8 μ (by omega) N I (hd.mono (by omega))
def trD (z : Str) (k j : Nat) : D := .tup [.str z, nD k, .tup [.str "gate", nD j]]
def IsTr (d : D) : Prop := ∃ z k j, d = trD z k j ∧ okZ z ∧ k ≤ 3 ∧ j ≤ 1000
def rNm : Rw → Str
  | .inr a _ => a.1
  | .out _ _ => "y"
def rPa (p : Str) : Rw → Str
  | .inr a _ => a.1
  | .out _ _ => p
def rN : Rw → Nat
  | .inr a _ => a.2
  | .out n _ => n
theorem w_in_out : decide (("in" : Str) = "out") = false := by decide +kernel
theorem w_out_out : decide (("out" : Str) = "out") = true := by decide +kernel
theorem dR_1 (row : Rw) : ∃ (a : Str) (d : D), dR row = .tup [.str a, .str (rNm row), nD (rN row), d] := by
  cases row with
  | inr a c => exact ⟨_, _, rfl⟩
  | out n p => exact ⟨_, _, rfl⟩
theorem run_tr {fl : List (In × Str)} (ok : OkFl fl) {gs : List Gt} (few : gs.length ≤ 1000) (og : okGs (KsOf (fl.map (·.1))) gs) (hr : μ[r]? = some (.lst (gs.map dG))) (all : ∀ x ∈ KsOf (fl.map (·.1)), gI x ∈ gs) {n : Nat} {p c : Str} {fl' : List (In × Str)} (ef : fl = ((p, n), c) :: fl') {row : Rw} (hrow : row ∈ flatR fl n p)
    {tr : List D} (ltr : tr.length ≤ 500) (htr : ∀ d ∈ tr, IsTr d) {x2 x4 x6 x7 x8 x10 : Option D}
    (q : ∀ tr' x10, tr'.length ≤ tr.length + 3 → (∀ d ∈ tr', IsTr d) → R (.nx [some (.ref 0), some (flD fl n p), x2, some (dR row), x4, some (.ref r), x6, x7, x8, some (.lst tr'), x10]) μ) :
    (L_l_net_drawn_3 [some (.ref 0), some (flD fl n p), x2, some (dR row), x4, some (.ref r), x6, x7, x8, some (.lst tr), x10]).run R E μ := by
  have big := sl1000
  have nk : okZ (rNm row) ∧ rN row ≤ 3 ∧ ∀ k, k < rN row → (rPa p row, k) ∈ KsOf (fl.map (·.1)) := by
    unfold flatR at hrow
    rcases List.mem_append.mp hrow with h | h
    · obtain ⟨x, hx, rfl⟩ := List.mem_map.mp h
      exact ⟨fl_name ok hx, (ok.wide x hx).2, fun k hk => Ks_fl.mpr ⟨x, hx, rfl, hk⟩⟩
    · rw [List.mem_singleton.mp h]
      have hx : ((p, n), c) ∈ fl := by rw [ef]; exact List.mem_cons_self
      exact ⟨okZ_y, (ok.wide _ hx).2, fun k hk => Ks_fl.mpr ⟨_, hx, rfl, hk⟩⟩
  obtain ⟨n1, n2, n3⟩ := nk
  have eF : ∃ tl, flD fl n p = .tup (.tup [.str "in", .str p, nD n, .str c] :: tl) := by
    rw [ef]
    exact ⟨_, rfl⟩
  obtain ⟨tl, eF⟩ := eF
  rw [eF] at q ⊢
  have s10 : ∀ {Q' : Fl → Mu → Prop}, ((sSet 10 (dOp gAt (dLst (aCons (dOp gAt (dV 3) (dC (.int 1))) (aCons (dOp gAt (dOp gAt (dV 1) (dC (.int 0))) (dC (.int 1))) aNil))) (dCall (c1 gInt) (aCons (dOp (s2 (gE2 false)) (dOp gAt (dV 3) (dC (.int 0))) (dC (.str "out"))) aNil)))) [some (.ref 0), some (.tup (.tup [.str "in", .str p, nD n, .str c] :: tl)), x2, some (dR row), x4, some (.ref r), x6, x7, x8, some (.lst tr), x10]).run Q' E μ = Q' (.nx [some (.ref 0), some (.tup (.tup [.str "in", .str p, nD n, .str c] :: tl)), x2, some (dR row), x4, some (.ref r), x6, x7, x8, some (.lst tr), some (.str (rPa p row))]) μ := by
    intro Q'
    cases row with
    | inr a c => simp only [defW, sSeq, sIf, sSet, sRet, sRetN, sExpr, sPar, two, sFor, sRaise, dB, dOp, dUn, dV, dC, dIfE, dM1, dJoin.isS, dSl, dPart, dNoPart, dNot, dAnd, dOr, dNotV, dOrV, dAndV, dChain, dCall, dOwn, dTup, dLst, dLstM, aCons, aNil, dTru, slot, startD, iOf, its, itsOf, itm, run_bnd, run_ret, run_fail, run_chk, run_rd, run_wr, run_any, run_nox, run_exn, run_tag, see, look, lookM, W.opt, s1, s2, c1, c2, asB, List.map, List.replicate, List.append_eq, List.cons_append, List.nil_append, List.set, andThen, endF, sNil, wipeD, dTrue, gE2, run_atT, run_atL, atI_0, atI_1, atI_2, atI_3, atI_4, run_optS, if_true, if_false, Bool.false_eq_true, decide_true, decide_false, Bool.not_true, Bool.not_false, true_and, and_true, gXorI, gOrI, gAndI, gShl, gShr, DL.gSub, gNeg, oI0, oI, gLt, gGt, gLe, gGe, gOrd, dR, w_in_out, gInt, List.length_cons, List.length_nil, two_le, rPa]
    | out n' p' => simp only [defW, sSeq, sIf, sSet, sRet, sRetN, sExpr, sPar, two, sFor, sRaise, dB, dOp, dUn, dV, dC, dIfE, dM1, dJoin.isS, dSl, dPart, dNoPart, dNot, dAnd, dOr, dNotV, dOrV, dAndV, dChain, dCall, dOwn, dTup, dLst, dLstM, aCons, aNil, dTru, slot, startD, iOf, its, itsOf, itm, run_bnd, run_ret, run_fail, run_chk, run_rd, run_wr, run_any, run_nox, run_exn, run_tag, see, look, lookM, W.opt, s1, s2, c1, c2, asB, List.map, List.replicate, List.append_eq, List.cons_append, List.nil_append, List.set, andThen, endF, sNil, wipeD, dTrue, gE2, run_atT, run_atL, atI_0, atI_1, atI_2, atI_3, atI_4, run_optS, if_true, if_false, Bool.false_eq_true, decide_true, decide_false, Bool.not_true, Bool.not_false, true_and, and_true, gXorI, gOrI, gAndI, gShl, gShr, DL.gSub, gNeg, oI0, oI, gLt, gGt, gLe, gGe, gOrd, dR, w_out_out, gInt, List.length_cons, List.length_nil, two_le, rPa]
  have H : ∀ k, k < rN row → ∃ j, j < (gs.map dG).length ∧ ∀ {Q : D → Mu → Prop} {E : Exn → Mu → Prop}, (gIndex (.ref r) [dG (gI (rPa p row, k))]).run Q E μ = Q (nD j) μ := fun k hk => by
    have hm := n3 k hk
    obtain ⟨i, ei⟩ := List.getElem?_of_mem (all _ hm)
    exact run_index hr (SRL_gates ok few og) (SR_gate ok few (List.getElem?_eq_some_iff.mp ei).1 (og i _ ei)) (by decide) (List.mem_map_of_mem (f := dG) (all _ hm))
  let jj : Nat → Nat := fun k => if h : k < rN row then Classical.choose (H k h) else 0
  have hj : ∀ k, k < rN row → jj k < gs.length ∧ ∀ {Q : D → Mu → Prop} {E : Exn → Mu → Prop}, (gIndex (.ref r) [.tup [.str "in", .str (rPa p row), nD k]]).run Q E μ = Q (nD (jj k)) μ := fun k hk => by
    have e : jj k = Classical.choose (H k hk) := dif_pos hk
    have h := Classical.choose_spec (H k hk)
    rw [← e, List.length_map] at h
    exact h
  unfold L_l_net_drawn_3
  rw [show ∀ f g ε, (sSeq f g ε) = W.bnd (f ε) (andThen g) from fun _ _ _ => rfl, run_bnd, s10]
  obtain ⟨a, d, ed⟩ := dR_1 row
  have h1 : -(2 ^ 62) ≤ (rN row : Int) ∧ (rN row : Int) < 2 ^ 62 := ⟨by omega, by omega⟩
  have h2 : rN row < sizeLine := by omega
  rw [ed] at q ⊢
  simp only [defW, sSeq, sIf, sSet, sRet, sRetN, sExpr, sPar, two, sFor, sRaise, dB, dOp, dUn, dV, dC, dIfE, dM1, dJoin.isS, dSl, dPart, dNoPart, dNot, dAnd, dOr, dNotV, dOrV, dAndV, dChain, dCall, dOwn, dTup, dLst, dLstM, aCons, aNil, dTru, slot, startD, iOf, its, itsOf, itm, run_bnd, run_ret, run_fail, run_chk, run_rd, run_wr, run_any, run_nox, run_exn, run_tag, see, look, lookM, W.opt, s1, s2, c1, c2, asB, List.map, List.replicate, List.append_eq, List.cons_append, List.nil_append, List.set, andThen, endF, sNil, wipeD, dTrue, gE2, run_atT, run_atL, atI_0, atI_1, atI_2, atI_3, atI_4, run_optS, if_true, if_false, Bool.false_eq_true, decide_true, decide_false, Bool.not_true, Bool.not_false, true_and, and_true, gXorI, gOrI, gAndI, gShl, gShr, DL.gSub, gNeg, oI0, oI, gLt, gGt, gLe, gGe, gOrd, dLc, rng1, h1, Int.toNat_natCast, rngD_map, List.length_map, List.length_range, h2]
  rw [run_lcA (p := fun _ => True) (e := nD) (t := fun _ => true) (f := fun k => trD (rNm row) k (jj k)) True.intro]
  · rw [List.filter_eq_self.mpr (fun _ _ => rfl)]
    simp only [defW, sSeq, sIf, sSet, sRet, sRetN, sExpr, sPar, two, sFor, sRaise, dB, dOp, dUn, dV, dC, dIfE, dM1, dJoin.isS, dSl, dPart, dNoPart, dNot, dAnd, dOr, dNotV, dOrV, dAndV, dChain, dCall, dOwn, dTup, dLst, dLstM, aCons, aNil, dTru, slot, startD, iOf, its, itsOf, itm, run_bnd, run_ret, run_fail, run_chk, run_rd, run_wr, run_any, run_nox, run_exn, run_tag, see, look, lookM, W.opt, s1, s2, c1, c2, asB, List.map, List.replicate, List.append_eq, List.cons_append, List.nil_append, List.set, andThen, endF, sNil, wipeD, dTrue, gE2, run_atT, run_atL, atI_0, atI_1, atI_2, atI_3, atI_4, run_optS, if_true, if_false, Bool.false_eq_true, decide_true, decide_false, Bool.not_true, Bool.not_false, true_and, and_true, gXorI, gOrI, gAndI, gShl, gShr, DL.gSub, gNeg, oI0, oI, gLt, gGt, gLe, gGe, gOrd, gAdd, List.length_map, List.length_range]
    refine ⟨by omega, q _ _ ?_ fun y hy => ?_⟩
    · rw [List.length_append, List.length_map, List.length_range]
      omega
    · rcases List.mem_append.mp hy with hy | hy
      · exact htr y hy
      · obtain ⟨k, hk, rfl⟩ := List.mem_map.mp hy
        have hk := List.mem_range.mp hk
        exact ⟨_, _, _, rfl, n1, by omega, by have := (hj k hk).1; omega⟩
  · intro k hk
    refine ⟨_, rfl, fun _ => rfl, fun _ Q' => ?_⟩
    have hk := List.mem_range.mp hk
    simp only [defW, sSeq, sIf, sSet, sRet, sRetN, sExpr, sPar, two, sFor, sRaise, dB, dOp, dUn, dV, dC, dIfE, dM1, dJoin.isS, dSl, dPart, dNoPart, dNot, dAnd, dOr, dNotV, dOrV, dAndV, dChain, dCall, dOwn, dTup, dLst, dLstM, aCons, aNil, dTru, slot, startD, iOf, its, itsOf, itm, run_bnd, run_ret, run_fail, run_chk, run_rd, run_wr, run_any, run_nox, run_exn, run_tag, see, look, lookM, W.opt, s1, s2, c1, c2, asB, List.map, List.replicate, List.append_eq, List.cons_append, List.nil_append, List.set, andThen, endF, sNil, wipeD, dTrue, gE2, run_atT, run_atL, atI_0, atI_1, atI_2, atI_3, atI_4, run_optS, if_true, if_false, Bool.false_eq_true, decide_true, decide_false, Bool.not_true, Bool.not_false, true_and, and_true, gXorI, gOrI, gAndI, gShl, gShr, DL.gSub, gNeg, oI0, oI, gLt, gGt, gLe, gGe, gOrd]
    rw [run_met rfl hr]
    simp only [defW, sSeq, sIf, sSet, sRet, sRetN, sExpr, sPar, two, sFor, sRaise, dB, dOp, dUn, dV, dC, dIfE, dM1, dJoin.isS, dSl, dPart, dNoPart, dNot, dAnd, dOr, dNotV, dOrV, dAndV, dChain, dCall, dOwn, dTup, dLst, dLstM, aCons, aNil, dTru, slot, startD, iOf, its, itsOf, itm, run_bnd, run_ret, run_fail, run_chk, run_rd, run_wr, run_any, run_nox, run_exn, run_tag, see, look, lookM, W.opt, s1, s2, c1, c2, asB, List.map, List.replicate, List.append_eq, List.cons_append, List.nil_append, List.set, andThen, endF, sNil, wipeD, dTrue, gE2, run_atT, run_atL, atI_0, atI_1, atI_2, atI_3, atI_4, run_optS, if_true, if_false, Bool.false_eq_true, decide_true, decide_false, Bool.not_true, Bool.not_false, true_and, and_true, gXorI, gOrI, gAndI, gShl, gShr, DL.gSub, gNeg, oI0, oI, gLt, gGt, gLe, gGe, gOrd, List.length_cons, List.length_nil, three_le, two_le, (hj k hk).2]
    rfl
end
end K34

namespace K34
open PySem PySem.Spec PyProof.Rows L2 Kit DL
section
variable {Q : D → Mu → Prop} {E : Exn → Mu → Prop} {μ : Mu}
/-! ### a net drawn -/
theorem SR_tr {d : D} (h : IsTr d) : SR d 2 500 := by
  obtain ⟨z, k, j, rfl, hz, hk, hj⟩ := h
  exact ((((SR.str hz 1).cons ((SR.nD (by omega) 1).cons (((((SR.str okZ_gate 0).cons ((SR.nD (by omega) 0).cons SRL.nil))).tup).cons SRL.nil))).tup)).mono (by decide) (by decide)
theorem pyd_tr (z : Str) (k j : Nat) : pyd (trD z k j) = .tuple [.str z, .int (k : Nat), .tuple [.str "gate", .int (j : Nat)]] := rfl
theorem sort_tr {tr : List D} (h : ∀ d ∈ tr, IsTr d) : SortOk tr := by
  obtain ⟨ps, b0, _⟩ := (SRL.of (n := 2) (L := 500) fun d hd => SR_tr (h d hd)).ok
  refine ⟨⟨ps, b0⟩, fun d hd d' hd' => ?_, .inl fun d hd => ?_, fun x hx => ?_⟩
  · obtain ⟨x, hx, rfl⟩ := List.mem_map.mp hd
    obtain ⟨x', hx', rfl⟩ := List.mem_map.mp hd'
    obtain ⟨z, k, j, rfl, _⟩ := h x hx
    obtain ⟨z', k', j', rfl, _⟩ := h x' hx'
    rw [pyd_tr, pyd_tr]
    simp [PySem.W.alike, PySem.W.alikeAll]
  · obtain ⟨x, hx, rfl⟩ := List.mem_map.mp hd
    obtain ⟨z, k, j, rfl, _⟩ := h x hx
    exact ⟨_, _, pyd_tr _ _ _⟩
  · obtain ⟨z, k, j, rfl, _⟩ := h x hx
    rw [pyd_tr]
    simp [PyData.depth, PyData.depthAll]
theorem sorted_tr {tr : List D} (h : ∀ d ∈ tr, IsTr d) : (∀ d ∈ sortD tr, IsTr d) ∧ (sortD tr).length = tr.length := by
  have pm : (sortD tr).Perm tr := List.mergeSort_perm _ _
  exact ⟨fun d hd => h d (pm.mem_iff.mp hd), pm.length_eq⟩
theorem NI.start {Ks : List (Str × Nat)} {size : Nat} (h : Ks.length ≤ size) : NI Ks size Ks [] := ⟨fun _ h => h, fun _ h => .inl h, fun i g e => (nomatch (show (none : Option Gt) = some g from e)), by rw [List.length_nil, Nat.zero_add]; exact h⟩
def restD (tr : List D) : List D := [.tup (sortD tr), .tup [.str "y"]]
theorem SRL_rest {tr : List D} (h : ∀ d ∈ tr, IsTr d) (hl : tr.length ≤ 100) : SRL (restD tr) 4 60000 := by
  obtain ⟨h1, h2⟩ := sorted_tr h
  exact ((SR.many (n := 2) (L := 500) (M := 50005) (fun d hd => SR_tr (h1 d hd)) (by omega)).cons ((((SR.str okZ_y 2).cons SRL.nil).tup).cons SRL.nil)).mono (by decide) (by decide)
variable {fl : List (In × Str)} {n : Nat} {p : Str} {t : Nat}
theorem one_le : 0 + 1 ≤ sizeLine := by decide
theorem run_net (ok : OkFl fl) {c : Str} {fl' : List (In × Str)} (ef : fl = ((p, n), c) :: fl') (h : Dk μ t) (ht : t < 100000)
    (q : ∀ gs tr μ', okGs (KsOf (fl.map (·.1))) gs → gs.length ≤ 50 → (∀ d ∈ tr, IsTr d) → tr.length ≤ 100 → Dk μ' (t + 300) → Q (netD gs (restD tr)) μ') : (F_l_net_drawn [.ref 0, flD fl n p]).run Q E μ := by
  have big := sl1000
  have few := ok.few
  have z0 : (0 : Nat) ≤ sizeLine := Nat.zero_le _
  have hp := h.pos
  have hk : (KsOf (fl.map (·.1))).length ≤ 9 := by
    have h := KsOf_len (ins := fl.map (·.1)) (c := 3) fun a ha => by
      obtain ⟨y, hy, rfl⟩ := List.mem_map.mp ha
      exact (ok.wide y hy).2
    rw [List.length_map] at h
    omega
  have eSl : ∀ {Q : D → Mu → Prop} {E : Exn → Mu → Prop} {μ : Mu}, (gSl (.tup ((flatR fl n p).map dR)) none (some (-1))).run Q E μ = Q (.tup (fl.map fun x => dR (.inr x.1 x.2))) μ := fun {Q E μ} => by
    rw [← flat_cut fl n p]
    rfl
  simp only [F_l_net_drawn, B_l_net_drawn, flD, defW, sSeq, sIf, sSet, sRet, sRetN, sExpr, sPar, two, sFor, sRaise, dB, dOp, dUn, dV, dC, dIfE, dM1, dJoin.isS, dSl, dPart, dNoPart, dNot, dAnd, dOr, dNotV, dOrV, dAndV, dChain, dCall, dOwn, dTup, dLst, dLstM, aCons, aNil, dTru, slot, startD, iOf, its, itsOf, itm, run_bnd, run_ret, run_fail, run_chk, run_rd, run_wr, run_any, run_nox, run_exn, run_tag, see, look, lookM, W.opt, s1, s2, c1, c2, asB, List.map, List.replicate, List.append_eq, List.cons_append, List.nil_append, List.set, andThen, endF, sNil, wipeD, dTrue, gE2, run_atT, run_atL, atI_0, atI_1, atI_2, atI_3, atI_4, run_optS, if_true, if_false, Bool.false_eq_true, decide_true, decide_false, Bool.not_true, Bool.not_false, true_and, and_true, gXorI, gOrI, gAndI, gShl, gShr, DL.gSub, gNeg, oI0, oI, gLt, gGt, gLe, gGe, gOrd, List.length_nil, z0, DL.alloc, eSl]
  refine run_forI (fun j ε μ' => ∃ x3 x4 ℓ, ε = [some (.ref 0), some (.tup ((flatR fl n p).map dR)), some (.ref ℓ), x3, x4, none, none, none, none, none, none] ∧ ℓ ≠ 0 ∧ Dk μ' t ∧ μ'[ℓ]? = some (.lst ((KsOf ((fl.take j).map (·.1))).map fun k => dG (gI k)))) _ 0 ?_ ?_ ⟨none, none, μ.length, rfl, by omega, h.app _, get_last⟩
  · rintro j x ε μ1 ex ⟨x3, x4, ℓ, rfl, l0, hd, hl⟩
    rw [Nat.zero_add] at hl ⊢
    rw [List.getElem?_map] at ex
    obtain ⟨y, ey, rfl⟩ := map_inv ex
    exact ⟨True.intro, _, rfl, run_left_1 ok ey hl fun x4 => ⟨_, x4, _, rfl, Nat.ne_of_gt hd.pos, hd.app _, get_last⟩⟩
  · rintro ε μ1 ⟨x3, x4, ℓ, rfl, l0, hd, hl⟩
    refine ⟨True.intro, ?_⟩
    rw [Nat.zero_add, List.length_map, List.take_length] at hl
    have hl' : (μ1 ++ [MO.lst []])[ℓ]? = some (.lst ((KsOf (fl.map (·.1))).map fun k => dG (gI k))) := by
      rw [List.getElem?_append_left (List.getElem?_eq_some_iff.mp hl).1]
      exact hl
    have lr : ℓ < μ1.length := (List.getElem?_eq_some_iff.mp hl).1
    simp only [defW, sSeq, sIf, sSet, sRet, sRetN, sExpr, sPar, two, sFor, sRaise, dB, dOp, dUn, dV, dC, dIfE, dM1, dJoin.isS, dSl, dPart, dNoPart, dNot, dAnd, dOr, dNotV, dOrV, dAndV, dChain, dCall, dOwn, dTup, dLst, dLstM, aCons, aNil, dTru, slot, startD, iOf, its, itsOf, itm, run_bnd, run_ret, run_fail, run_chk, run_rd, run_wr, run_any, run_nox, run_exn, run_tag, see, look, lookM, W.opt, s1, s2, c1, c2, asB, List.map, List.replicate, List.append_eq, List.cons_append, List.nil_append, List.set, andThen, endF, sNil, wipeD, dTrue, gE2, run_atT, run_atL, atI_0, atI_1, atI_2, atI_3, atI_4, run_optS, if_true, if_false, Bool.false_eq_true, decide_true, decide_false, Bool.not_true, Bool.not_false, true_and, and_true, gXorI, gOrI, gAndI, gShl, gShr, DL.gSub, gNeg, oI0, oI, gLt, gGt, gLe, gGe, gOrd, List.length_nil, z0, DL.alloc, hl', gLen, List.length_map, gAdd]
    refine ⟨rfl, run_draw (hd.app _) (by omega) (by decide) (by decide) fun sz s0 s1 μ2 hd2 mv => ?_⟩
    obtain ⟨s, rfl⟩ := Int.eq_ofNat_of_zero_le s0
    simp only [defW, sSeq, sIf, sSet, sRet, sRetN, sExpr, sPar, two, sFor, sRaise, dB, dOp, dUn, dV, dC, dIfE, dM1, dJoin.isS, dSl, dPart, dNoPart, dNot, dAnd, dOr, dNotV, dOrV, dAndV, dChain, dCall, dOwn, dTup, dLst, dLstM, aCons, aNil, dTru, slot, startD, iOf, its, itsOf, itm, run_bnd, run_ret, run_fail, run_chk, run_rd, run_wr, run_any, run_nox, run_exn, run_tag, see, look, lookM, W.opt, s1, s2, c1, c2, asB, List.map, List.replicate, List.append_eq, List.cons_append, List.nil_append, List.set, andThen, endF, sNil, wipeD, dTrue, gE2, run_atT, run_atL, atI_0, atI_1, atI_2, atI_3, atI_4, run_optS, if_true, if_false, Bool.false_eq_true, decide_true, decide_false, Bool.not_true, Bool.not_false, true_and, and_true, gXorI, gOrI, gAndI, gShl, gShr, DL.gSub, gNeg, oI0, oI, gLt, gGt, gLe, gGe, gOrd, gAdd]
    rw [show ((KsOf (fl.map (·.1))).length : Int) + 2 + (s : Nat) = (((KsOf (fl.map (·.1))).length + 2 + s : Nat) : Int) by omega]
    have N0 : NSt ℓ μ1.length (μ1 ++ [.lst []]) (KsOf (fl.map (·.1))) [] := ⟨l0, Nat.ne_of_gt hd.pos, Nat.ne_of_lt lr, hl', get_last⟩
    refine run_gates (Ks := KsOf (fl.map (·.1))) (L := KsOf (fl.map (·.1))) (gs := []) (t := t + 1) (by omega) 200 (by rw [List.length_nil]; omega) hd2 (by rw [List.length_nil]; omega) (N0.mv mv) (NI.start (by omega)) fun gs x7 x8 μ3 lg N3 I3 hd3 => ?_
    have og : okGs (KsOf (fl.map (·.1))) gs := fun i g e => by
      rw [lg]
      exact I3.ok i g e
    have all : ∀ x ∈ KsOf (fl.map (·.1)), gI x ∈ gs := fun x hx => (I3.all x hx).elim (fun h => (List.not_mem_nil h).elim) id
    rw [List.length_nil] at hd3
    simp only [defW, sSeq, sIf, sSet, sRet, sRetN, sExpr, sPar, two, sFor, sRaise, dB, dOp, dUn, dV, dC, dIfE, dM1, dJoin.isS, dSl, dPart, dNoPart, dNot, dAnd, dOr, dNotV, dOrV, dAndV, dChain, dCall, dOwn, dTup, dLst, dLstM, aCons, aNil, dTru, slot, startD, iOf, its, itsOf, itm, run_bnd, run_ret, run_fail, run_chk, run_rd, run_wr, run_any, run_nox, run_exn, run_tag, see, look, lookM, W.opt, s1, s2, c1, c2, asB, List.map, List.replicate, List.append_eq, List.cons_append, List.nil_append, List.set, andThen, endF, sNil, wipeD, dTrue, gE2, run_atT, run_atL, atI_0, atI_1, atI_2, atI_3, atI_4, run_optS, if_true, if_false, Bool.false_eq_true, decide_true, decide_false, Bool.not_true, Bool.not_false, true_and, and_true, gXorI, gOrI, gAndI, gShl, gShr, DL.gSub, gNeg, oI0, oI, gLt, gGt, gLe, gGe, gOrd, List.length_nil, z0]
    refine run_forI (fun j ε μ' => ∃ x3 x4 x7 x8 x10 tr, ε = [some (.ref 0), some (.tup ((flatR fl n p).map dR)), some (.ref ℓ), x3, x4, some (.ref μ1.length), some (nD ((KsOf (fl.map (·.1))).length + 2 + s)), x7, x8, some (.lst tr), x10] ∧ tr.length ≤ 3 * j ∧ (∀ d ∈ tr, IsTr d) ∧ μ' = μ3) _ 0 ?_ ?_ ⟨x3, x4, x7, x8, none, [], rfl, Nat.le_refl _, fun _ h => (List.not_mem_nil h).elim, rfl⟩
    · rintro j x ε μ4 ex ⟨x3, x4, x7, x8, x10, tr, rfl, ltr, htr, rfl⟩
      rw [Nat.zero_add] at ltr ⊢
      rw [List.getElem?_map] at ex
      obtain ⟨row, er, rfl⟩ := map_inv ex
      have lj : j < (flatR fl n p).length := (List.getElem?_eq_some_iff.mp er).1
      have lf : (flatR fl n p).length = fl.length + 1 := by
        unfold flatR
        rw [List.length_append, List.length_map]
        rfl
      exact ⟨True.intro, _, rfl, run_tr ok (by omega) og N3.gates all ef (List.mem_of_getElem? er) (by omega) htr fun tr' x10 h1 h2 => ⟨_, _, _, _, x10, tr', rfl, by omega, h2, rfl⟩⟩
    · rintro ε μ4 ⟨x3, x4, x7, x8, x10, tr, rfl, ltr, htr, rfl⟩
      refine ⟨True.intro, ?_⟩
      have lf : (flatR fl n p).length = fl.length + 1 := by
        unfold flatR
        rw [List.length_append, List.length_map]
        rfl
      rw [Nat.zero_add, List.length_map, lf] at ltr
      simp only [defW, sSeq, sIf, sSet, sRet, sRetN, sExpr, sPar, two, sFor, sRaise, dB, dOp, dUn, dV, dC, dIfE, dM1, dJoin.isS, dSl, dPart, dNoPart, dNot, dAnd, dOr, dNotV, dOrV, dAndV, dChain, dCall, dOwn, dTup, dLst, dLstM, aCons, aNil, dTru, slot, startD, iOf, its, itsOf, itm, run_bnd, run_ret, run_fail, run_chk, run_rd, run_wr, run_any, run_nox, run_exn, run_tag, see, look, lookM, W.opt, s1, s2, c1, c2, asB, List.map, List.replicate, List.append_eq, List.cons_append, List.nil_append, List.set, andThen, endF, sNil, wipeD, dTrue, gE2, run_atT, run_atL, atI_0, atI_1, atI_2, atI_3, atI_4, run_optS, if_true, if_false, Bool.false_eq_true, decide_true, decide_false, Bool.not_true, Bool.not_false, true_and, and_true, gXorI, gOrI, gAndI, gShl, gShr, DL.gSub, gNeg, oI0, oI, gLt, gGt, gLe, gGe, gOrd, N3.gates, gTuple, gSort, sort_tr htr, gMkL, List.length_cons, List.length_nil, three_le, one_le]
      exact q gs tr μ4 og (by omega) htr (by omega) (hd3.mono (by omega))
end
end K34

namespace K34
open PySem PySem.Spec PyProof.Rows L2 Kit DL
section
variable {Q : D → Mu → Prop} {E : Exn → Mu → Prop} {μ : Mu}
/-! ### what is drawn is in order -/
variable {gs : List Gt} {fl : List (In × Str)} {bs : List Beat} {n : Nat} {p : Str} {tr : List D}
theorem okIns (ok : OkFl fl) : OkIns (fl.map (·.1)) := by
  have few := ok.few
  refine ⟨?_, by rw [List.length_map]; omega, fun a ha => ?_⟩
  · rw [List.map_map]
    have e : fl.map ((fun a : In => a.1) ∘ fun x => x.1) = (List.range fl.length).map nm := ok.names
    rw [e]
    rcases (by have := ok.pos; omega : fl.length = 1 ∨ fl.length = 2 ∨ fl.length = 3) with h | h | h <;> rw [h] <;> decide +kernel
  · obtain ⟨x, hx, rfl⟩ := List.mem_map.mp ha
    have := (ok.wide x hx).2
    omega
theorem okWs (ok : OkFl fl) {b : Beat} (h : OkB fl b) : OkWs (fl.map (·.1)) b.2 := ⟨by rw [List.length_map]; exact h.len, fun w hw => ⟨(h.small w hw).1, by have := (h.small w hw).2; omega⟩⟩
theorem okAll (ok : OkFl fl) (og : okGs (KsOf (fl.map (·.1))) gs) (few : gs.length ≤ 50) (nb : bs.length ≤ 60) (hb : ∀ b ∈ bs, OkB fl b) : OkAll gs (fl.map (·.1)) bs := ⟨og, okIns ok, by omega, fun b h => okWs ok (hb b h), by omega⟩
theorem SR_net (ok : OkFl fl) (og : okGs (KsOf (fl.map (·.1))) gs) (few : gs.length ≤ 50) (htr : ∀ d ∈ tr, IsTr d) (ltr : tr.length ≤ 100) : SR (netD gs (restD tr)) 6 90000 :=
  ((((((SRL_gates ok (by omega) og).tup).mono (m := 4) (M := 25005) (by decide) (by omega)).cons (SRL_rest htr ltr)).tup)).mono (by decide) (by decide)
theorem SR_beat (ok : OkFl fl) {b : Beat} (h : OkB fl b) : SR (bD b) 3 600 := by
  have few := ok.few
  have h1 : SR (.tup (b.1.map D.str)) 1 413 := SR.many (n := 0) (L := 204) (fun d hd => by
    obtain ⟨z, hz, rfl⟩ := List.mem_map.mp hd
    exact SR.str (okZ_cd (h.cd z hz)) 0) (by rw [List.length_map]; have := h.few; omega)
  have h2 : SR (.tup (iD b.2)) 1 32 := SR.many (n := 0) (L := 9) (fun d hd => by
    obtain ⟨w, hw, rfl⟩ := List.mem_map.mp hd
    obtain ⟨a, c⟩ := h.small w hw
    exact SR.int a (by omega) 0) (by rw [List.length_map, h.len]; omega)
  exact ((h1.cons (h2.cons SRL.nil)).tup).mono (by decide) (by decide)
theorem SR_beats (ok : OkFl fl) (hb : ∀ b ∈ bs, OkB fl b) (nb : bs.length ≤ 60) : SR (.tup (bs.map bD)) 6 50000 :=
  (SR.many (n := 3) (L := 600) (fun d hd => by
    obtain ⟨b, hb', rfl⟩ := List.mem_map.mp hd
    exact SR_beat ok (hb b hb')) (M := 50000) (by rw [List.length_map]; omega)).mono (by decide) (by decide)
theorem SR_ins (ok : OkFl fl) : SR (.tup ((fl.map (·.1)).map inD)) 6 2000 :=
  (SR.many (n := 1) (L := 300) (fun d hd => by
    obtain ⟨a, ha, rfl⟩ := List.mem_map.mp hd
    obtain ⟨x, hx, rfl⟩ := List.mem_map.mp ha
    exact (((SR.str (fl_name ok hx) 0).cons ((SR.nD (by have := (ok.wide x hx).2; omega) 0).cons SRL.nil)).tup).mono (by decide) (by decide)) (M := 2000) (by rw [List.length_map, List.length_map]; have := ok.few; omega)).mono (by decide) (by decide)
theorem SR_all (ok : OkFl fl) (og : okGs (KsOf (fl.map (·.1))) gs) (few : gs.length ≤ 50) (htr : ∀ d ∈ tr, IsTr d) (ltr : tr.length ≤ 100) (hb : ∀ b ∈ bs, OkB fl b) (nb : bs.length ≤ 60) : SR (.tup [netD gs (restD tr), .tup (bs.map bD), .tup ((fl.map (·.1)).map inD)]) 7 200000 :=
  ((((SR_net ok og few htr ltr).cons ((SR_beats ok hb nb).cons ((SR_ins ok).cons SRL.nil)))).tup).mono (by decide) (by decide)
theorem after_rows01 {ins : List In} (A : OkAll gs ins bs) : ∀ j, j ≤ bs.length → ∀ r ∈ (after gs ins bs j).2, ∀ x ∈ r, b01 x
  | 0, _ => fun r h => (List.not_mem_nil h).elim
  | j + 1, h => fun r hr => by
    have lt : j < bs.length := h
    rw [after_succ (List.getElem?_eq_getElem lt)] at hr
    rcases List.mem_append.mp hr with hr | hr
    · exact after_rows01 A j (Nat.le_of_lt lt) r hr
    · rw [List.mem_singleton.mp hr]
      intro x hx
      have V : Vals01 (KsOf ins) (after gs ins bs j).1 (knV ins bs[j].2) := ⟨after_01 A j (Nat.le_of_lt lt), fun p k _ => kn_01 (A.w _ (List.getElem_mem _)) p k⟩
      have := stp_01 V A.g gs.length (Nat.le_refl _) x
      rw [List.take_length] at this
      exact this hx
theorem SR_waves {ins : List In} (A : OkAll gs ins bs) (few : gs.length ≤ 50) (nb : bs.length ≤ 60) : SR (wavesD gs ins bs) 6 40000 := by
  unfold wavesD
  refine (SR.many (n := 1) (L := 600) (fun d hd => ?_) (M := 40000) (by rw [List.length_map, List.length_range]; omega)).mono (by decide) (by decide)
  obtain ⟨g, _, rfl⟩ := List.mem_map.mp hd
  refine SR.many (n := 0) (L := 9) (fun d hd => ?_) (by rw [List.length_map, after_len _ (Nat.le_refl _)]; omega)
  obtain ⟨r, hr, rfl⟩ := List.mem_map.mp hd
  exact SR.b01 (getD_01 (after_rows01 A _ (Nat.le_refl _) r hr) g) 0
end
end K34

namespace K34
open PySem PySem.Spec PyProof.Rows L2 Kit DL
section
variable {Q : D → Mu → Prop} {E : Exn → Mu → Prop} {μ : Mu}
/-! ### the law -/
theorem at_many {m : Int} (h0 : 0 ≤ m) (h : m < 13) (b : Bool) : ∃ k : Nat, k ≤ 60 ∧ atI [D.int m, .int 60] (if b = true then 1 else 0) = some (.int (k : Nat)) := by
  cases b with
  | true => exact ⟨60, by decide, rfl⟩
  | false =>
    obtain ⟨k, rfl⟩ := Int.eq_ofNat_of_zero_le h0
    exact ⟨k, by omega, rfl⟩
theorem slFl {fl : List (In × Str)} {n : Nat} {p : Str} : (gSl (flD fl n p) none (some (-1))).run Q E μ = Q (.tup (fl.map fun x => dR (.inr x.1 x.2))) μ := by
  rw [← flat_cut fl n p]
  rfl
theorem seeFl {fl : List (In × Str)} {n : Nat} {p : Str} {α : Type} {f : D → W α} {Q : α → Mu → Prop} : (W.bnd (see (flD fl n p)) f).run Q E μ = (f (flD fl n p)).run Q E μ := rfl
variable {a0 a1 a2 a3 a4 a5 a6 a7 a8 a9 a10 a11 a12 a13 : Option D}
theorem run_own {fl : List (In × Str)} (ok : OkFl fl) {n : Nat} {p : Str} : (dLc [8] (iOf its (dSl (dV 4) dNoPart (dPart (dUn gNeg (dC (.int 1)))))) (gN 8) dTrue (dTup (aCons (dOp gAt (dV 8) (dC (.int 1))) (aCons (dOp gAt (dV 8) (dC (.int 2))) aNil))) [a0, a1, a2, a3, some (flD fl n p), a5, a6, a7, a8, a9, a10, a11, a12, a13]).run Q E μ = Q (.lst ((fl.map (·.1)).map inD)) μ := by
  have big := sl1000
  have few := ok.few
  simp only [dLc, run_bnd, iOf, dSl, dNoPart, dPart, dUn, dC, dV, slot, run_ret, gNeg, W.opt]
  rw [show ∀ (Q : D → Mu → Prop) E μ, (see (flD fl n p)).run Q E μ = Q (flD fl n p) μ from fun _ _ _ => rfl, slFl]
  simp only [defW, sSeq, sIf, sSet, sRet, sRetN, sExpr, sPar, two, sFor, sRaise, dB, dOp, dUn, dV, dC, dIfE, dM1, dJoin.isS, dSl, dPart, dNoPart, dNot, dAnd, dOr, dNotV, dOrV, dAndV, dChain, dCall, dOwn, dTup, dLst, dLstM, aCons, aNil, dTru, slot, startD, iOf, its, itsOf, itm, run_bnd, run_ret, run_fail, run_chk, run_rd, run_wr, run_any, run_nox, run_exn, run_tag, see, look, lookM, W.opt, s1, s2, c1, c2, asB, List.map, List.replicate, List.append_eq, List.cons_append, List.nil_append, List.set, andThen, endF, sNil, wipeD, dTrue, gE2, run_atT, run_atL, atI_0, atI_1, atI_2, atI_3, atI_4, run_optS, if_true, if_false, Bool.false_eq_true, decide_true, decide_false, Bool.not_true, Bool.not_false, true_and, and_true, gXorI, gOrI, gAndI, gShl, gShr, DL.gSub, gNeg, oI0, oI, gLt, gGt, gLe, gGe, gOrd, List.length_map]
  rw [propext (and_iff_right (by omega : fl.length < sizeLine)), run_lcA (p := fun _ => True) (e := fun x : In × Str => dR (.inr x.1 x.2)) (t := fun _ => true) (f := fun x => inD x.1) True.intro]
  · rw [List.filter_eq_self.mpr (fun _ _ => rfl), List.map_map]
    rfl
  · intro x hx
    refine ⟨_, rfl, fun _ => rfl, fun _ Q' => ?_⟩
    simp only [defW, sSeq, sIf, sSet, sRet, sRetN, sExpr, sPar, two, sFor, sRaise, dB, dOp, dUn, dV, dC, dIfE, dM1, dJoin.isS, dSl, dPart, dNoPart, dNot, dAnd, dOr, dNotV, dOrV, dAndV, dChain, dCall, dOwn, dTup, dLst, dLstM, aCons, aNil, dTru, slot, startD, iOf, its, itsOf, itm, run_bnd, run_ret, run_fail, run_chk, run_rd, run_wr, run_any, run_nox, run_exn, run_tag, see, look, lookM, W.opt, s1, s2, c1, c2, asB, List.map, List.replicate, List.append_eq, List.cons_append, List.nil_append, List.set, andThen, endF, sNil, wipeD, dTrue, gE2, run_atT, run_atL, atI_0, atI_1, atI_2, atI_3, atI_4, run_optS, if_true, if_false, Bool.false_eq_true, decide_true, decide_false, Bool.not_true, Bool.not_false, true_and, and_true, gXorI, gOrI, gAndI, gShl, gShr, DL.gSub, gNeg, oI0, oI, gLt, gGt, gLe, gGe, gOrd, dR, inD, List.length_cons, List.length_nil, two_le]
theorem run_due {gs : List Gt} {rest : List D} {rows : List (List Int)} (few : gs.length ≤ 1000) (lr : rows.length ≤ 1000) (hr : ∀ r ∈ rows, r.length = gs.length) : (dLc [11] (iOf rng1 (aCons (dCall (c1 gLen) (aCons (dOp gAt (dV 5) (dC (.int 0))) aNil)) aNil)) (gN 11) dTrue (dCall (c1 gTuple) (aCons (dLc [8] (iOf its (dV 9)) (gN 8) dTrue (dOp gAt (dV 8) (dV 11))) aNil)) [a0, a1, a2, a3, a4, some (netD gs rest), a6, a7, a8, some (.lst (rows.map fun r => .lst (iD r))), a10, a11, a12, a13]).run Q E μ = Q (.lst ((List.range gs.length).map fun g => .tup (rows.map fun r => .int (r.getD g 0)))) μ := by
  have big := sl1000
  have h1 : -(2 ^ 62) ≤ (gs.length : Int) ∧ (gs.length : Int) < 2 ^ 62 := ⟨by omega, by omega⟩
  have h2 : gs.length < sizeLine := by omega
  have h3 : rows.length < sizeLine := by omega
  simp only [dLc, netD, defW, sSeq, sIf, sSet, sRet, sRetN, sExpr, sPar, two, sFor, sRaise, dB, dOp, dUn, dV, dC, dIfE, dM1, dJoin.isS, dSl, dPart, dNoPart, dNot, dAnd, dOr, dNotV, dOrV, dAndV, dChain, dCall, dOwn, dTup, dLst, dLstM, aCons, aNil, dTru, slot, startD, iOf, its, itsOf, itm, run_bnd, run_ret, run_fail, run_chk, run_rd, run_wr, run_any, run_nox, run_exn, run_tag, see, look, lookM, W.opt, s1, s2, c1, c2, asB, List.map, List.replicate, List.append_eq, List.cons_append, List.nil_append, List.set, andThen, endF, sNil, wipeD, dTrue, gE2, run_atT, run_atL, atI_0, atI_1, atI_2, atI_3, atI_4, run_optS, if_true, if_false, Bool.false_eq_true, decide_true, decide_false, Bool.not_true, Bool.not_false, true_and, and_true, gXorI, gOrI, gAndI, gShl, gShr, DL.gSub, gNeg, oI0, oI, gLt, gGt, gLe, gGe, gOrd, gLen, List.length_map, rng1, h1, Int.toNat_natCast, rngD_map, List.length_range, h2]
  rw [run_lcA (p := fun _ => True) (e := nD) (t := fun _ => true) (f := fun g => .tup (rows.map fun r => .int (r.getD g 0))) True.intro]
  · rw [List.filter_eq_self.mpr (fun _ _ => rfl)]
  · intro i hi
    have li : i < gs.length := List.mem_range.mp hi
    refine ⟨_, rfl, fun _ => rfl, fun _ Q' => ?_⟩
    simp only [defW, sSeq, sIf, sSet, sRet, sRetN, sExpr, sPar, two, sFor, sRaise, dB, dOp, dUn, dV, dC, dIfE, dM1, dJoin.isS, dSl, dPart, dNoPart, dNot, dAnd, dOr, dNotV, dOrV, dAndV, dChain, dCall, dOwn, dTup, dLst, dLstM, aCons, aNil, dTru, slot, startD, iOf, its, itsOf, itm, run_bnd, run_ret, run_fail, run_chk, run_rd, run_wr, run_any, run_nox, run_exn, run_tag, see, look, lookM, W.opt, s1, s2, c1, c2, asB, List.map, List.replicate, List.append_eq, List.cons_append, List.nil_append, List.set, andThen, endF, sNil, wipeD, dTrue, gE2, run_atT, run_atL, atI_0, atI_1, atI_2, atI_3, atI_4, run_optS, if_true, if_false, Bool.false_eq_true, decide_true, decide_false, Bool.not_true, Bool.not_false, true_and, and_true, gXorI, gOrI, gAndI, gShl, gShr, DL.gSub, gNeg, oI0, oI, gLt, gGt, gLe, gGe, gOrd, dLc, List.length_map, h3]
    rw [run_lcA (p := fun _ => True) (e := fun r => D.lst (iD r)) (t := fun _ => true) (f := fun r => .int (r.getD i 0)) True.intro]
    · rw [List.filter_eq_self.mpr (fun _ _ => rfl)]
      rfl
    · intro r hr'
      refine ⟨_, rfl, fun _ => rfl, fun _ Q' => ?_⟩
      have lr : i < r.length := by
        rw [hr r hr']
        exact li
      simp only [defW, sSeq, sIf, sSet, sRet, sRetN, sExpr, sPar, two, sFor, sRaise, dB, dOp, dUn, dV, dC, dIfE, dM1, dJoin.isS, dSl, dPart, dNoPart, dNot, dAnd, dOr, dNotV, dOrV, dAndV, dChain, dCall, dOwn, dTup, dLst, dLstM, aCons, aNil, dTru, slot, startD, iOf, its, itsOf, itm, run_bnd, run_ret, run_fail, run_chk, run_rd, run_wr, run_any, run_nox, run_exn, run_tag, see, look, lookM, W.opt, s1, s2, c1, c2, asB, List.map, List.replicate, List.append_eq, List.cons_append, List.nil_append, List.set, andThen, endF, sNil, wipeD, dTrue, gE2, run_atT, run_atL, atI_0, atI_1, atI_2, atI_3, atI_4, run_optS, if_true, if_false, Bool.false_eq_true, decide_true, decide_false, Bool.not_true, Bool.not_false, true_and, and_true, gXorI, gOrI, gAndI, gShl, gShr, DL.gSub, gNeg, oI0, oI, gLt, gGt, gLe, gGe, gOrd, iD_get lr]
theorem seeS {z : Str} : (see (.str z)).run Q E μ = Q (.str z) μ := rfl
theorem seeT {xs : List D} : (see (.tup xs)).run Q E μ = Q (.tup xs) μ := rfl
theorem run_judge {w kp x y z : D} {s : Str} (h1 : ∀ Q' : D → Mu → Prop, (gRepr w).run Q' E μ = Q' (.str s) μ) (h2 : ∀ Q' : D → Mu → Prop, (gRepr (.tup [x, y, z])).run Q' E μ = Q' kp μ) {z' : Str} (ek : kp = .str z') (v : ∀ μ, look μ w = some w) {R : Fl → Mu → Prop} (q : R (.nx [a0, a1, a2, a3, a4, some x, some y, some z, a8, a9, some w, a11, some kp, some w]) μ) :
    (L_law_1 [a0, a1, a2, a3, a4, some x, some y, some z, a8, a9, some w, a11, some kp, some w]).run R E μ := by
  subst ek
  have sw : ∀ (Q : D → Mu → Prop) E μ, (see w).run Q E μ = Q w μ := fun Q E μ => by
    unfold see
    rw [run_rd, v]
    rfl
  unfold L_law_1
  refine Eq.mpr (run_sIf (b := false || false) fun Q' => run_dOr (fun Q' => ?_) fun Q' => ?_) ?_
  · simp only [dB, dOp, dCall, aCons, aNil, dV, slot, run_bnd, run_ret, W.opt, c1, sw, h1, s2, seeS, gE2, if_true, decide_true, Bool.not_true, asB]
  · simp only [dB, dOp, dCall, dTup, aCons, aNil, dV, slot, run_bnd, run_ret, run_chk, W.opt, c1, List.length_cons, List.length_nil, three_le, true_and, seeS, seeT, h2, s2, gE2, if_true, decide_true, Bool.not_true, asB]
  · exact q
theorem run_turn {ns : List Int} {t : Nat} (ht : t < 10000) (h : Dk μ t) {x2 : D} {x3 x4 x5 x6 x7 x8 x9 x10 x11 x12 x13 : Option D} {R : Fl → Mu → Prop}
    (q : ∀ (x3 x4 x5 x6 x7 x8 x9 x10 x11 x12 x13 : Option D) μ', Dk μ' (t + 700) → R (.nx [some (.scr ns), some (.ref 0), some x2, x3, x4, x5, x6, x7, x8, x9, x10, x11, x12, x13]) μ') :
    (L_law_2 [some (.scr ns), some (.ref 0), some x2, x3, x4, x5, x6, x7, x8, x9, x10, x11, x12, x13]).run R E μ := by
  have big := sl1000
  unfold L_law_2
  simp only [defW, sSeq, sIf, sSet, sRet, sRetN, sExpr, sPar, two, sFor, sRaise, dB, dOp, dUn, dV, dC, dIfE, dM1, dJoin.isS, dSl, dPart, dNoPart, dNot, dAnd, dOr, dNotV, dOrV, dAndV, dChain, dCall, dOwn, dTup, dLst, dLstM, aCons, aNil, dTru, slot, startD, iOf, its, itsOf, itm, run_bnd, run_ret, run_fail, run_chk, run_rd, run_wr, run_any, run_nox, run_exn, run_tag, see, look, lookM, W.opt, s1, s2, c1, c2, asB, List.map, List.replicate, List.append_eq, List.cons_append, List.nil_append, List.set, andThen, endF, sNil, wipeD, dTrue, gE2, run_atT, run_atL, atI_0, atI_1, atI_2, atI_3, atI_4, run_optS, if_true, if_false, Bool.false_eq_true, decide_true, decide_false, Bool.not_true, Bool.not_false, true_and, and_true, gXorI, gOrI, gAndI, gShl, gShr, DL.gSub, gNeg, oI0, oI, gLt, gGt, gLe, gGe, gOrd]
  refine ⟨rfl, run_draw h (by omega) (by decide) (by decide) fun m m0 m1 μ1 hd1 mv1 => ?_⟩
  simp only [defW, sSeq, sIf, sSet, sRet, sRetN, sExpr, sPar, two, sFor, sRaise, dB, dOp, dUn, dV, dC, dIfE, dM1, dJoin.isS, dSl, dPart, dNoPart, dNot, dAnd, dOr, dNotV, dOrV, dAndV, dChain, dCall, dOwn, dTup, dLst, dLstM, aCons, aNil, dTru, slot, startD, iOf, its, itsOf, itm, run_bnd, run_ret, run_fail, run_chk, run_rd, run_wr, run_any, run_nox, run_exn, run_tag, see, look, lookM, W.opt, s1, s2, c1, c2, asB, List.map, List.replicate, List.append_eq, List.cons_append, List.nil_append, List.set, andThen, endF, sNil, wipeD, dTrue, gE2, run_atT, run_atL, atI_0, atI_1, atI_2, atI_3, atI_4, run_optS, if_true, if_false, Bool.false_eq_true, decide_true, decide_false, Bool.not_true, Bool.not_false, true_and, and_true, gXorI, gOrI, gAndI, gShl, gShr, DL.gSub, gNeg, oI0, oI, gLt, gGt, gLe, gGe, gOrd, List.length_cons, List.length_nil, two_le]
  refine run_draw hd1 (by omega) (by decide) (by decide) fun b b0 b1 μ2 hd2 mv2 => ?_
  simp only [defW, sSeq, sIf, sSet, sRet, sRetN, sExpr, sPar, two, sFor, sRaise, dB, dOp, dUn, dV, dC, dIfE, dM1, dJoin.isS, dSl, dPart, dNoPart, dNot, dAnd, dOr, dNotV, dOrV, dAndV, dChain, dCall, dOwn, dTup, dLst, dLstM, aCons, aNil, dTru, slot, startD, iOf, its, itsOf, itm, run_bnd, run_ret, run_fail, run_chk, run_rd, run_wr, run_any, run_nox, run_exn, run_tag, see, look, lookM, W.opt, s1, s2, c1, c2, asB, List.map, List.replicate, List.append_eq, List.cons_append, List.nil_append, List.set, andThen, endF, sNil, wipeD, dTrue, gE2, run_atT, run_atL, atI_0, atI_1, atI_2, atI_3, atI_4, run_optS, if_true, if_false, Bool.false_eq_true, decide_true, decide_false, Bool.not_true, Bool.not_false, true_and, and_true, gXorI, gOrI, gAndI, gShl, gShr, DL.gSub, gNeg, oI0, oI, gLt, gGt, gLe, gGe, gOrd, gInt]
  obtain ⟨k, hk, ek⟩ := at_many m0 m1 (decide (b = 5))
  simp only [ek, run_ret]
  refine run_flat hd2 (by omega) fun fl n p μ3 ok ef hd3 => ?_
  obtain ⟨c, fl', ef⟩ := ef
  refine run_net ok ef hd3 (by omega) fun gs tr μ4 og few htr ltr hd4 => ?_
  refine run_beats (by omega) hd4 ok hk fun bs μ5 lb hb hd5 => ?_
  have A := okAll ok og few (by omega : bs.length ≤ 60) hb
  rw [run_own ok]
  simp only [defW, sSeq, sIf, sSet, sRet, sRetN, sExpr, sPar, two, sFor, sRaise, dB, dOp, dUn, dV, dC, dIfE, dM1, dJoin.isS, dSl, dPart, dNoPart, dNot, dAnd, dOr, dNotV, dOrV, dAndV, dChain, dCall, dOwn, dTup, dLst, dLstM, aCons, aNil, dTru, slot, startD, iOf, its, itsOf, itm, run_bnd, run_ret, run_fail, run_chk, run_rd, run_wr, run_any, run_nox, run_exn, run_tag, see, look, lookM, W.opt, s1, s2, c1, c2, asB, List.map, List.replicate, List.append_eq, List.cons_append, List.nil_append, List.set, andThen, endF, sNil, wipeD, dTrue, gE2, run_atT, run_atL, atI_0, atI_1, atI_2, atI_3, atI_4, run_optS, if_true, if_false, Bool.false_eq_true, decide_true, decide_false, Bool.not_true, Bool.not_false, true_and, and_true, gXorI, gOrI, gAndI, gShl, gShr, DL.gSub, gNeg, oI0, oI, gLt, gGt, gLe, gGe, gOrd, gTuple, netD]
  refine run_gate_beats A fun m5 => ?_
  have eN : D.tup (.tup (gs.map dG) :: restD tr) = netD gs (restD tr) := rfl
  simp only [eN]
  rw [run_due (by omega) (by rw [after_len _ (Nat.le_refl _)]; omega) fun r hr => after_row A hr]
  simp only [defW, sSeq, sIf, sSet, sRet, sRetN, sExpr, sPar, two, sFor, sRaise, dB, dOp, dUn, dV, dC, dIfE, dM1, dJoin.isS, dSl, dPart, dNoPart, dNot, dAnd, dOr, dNotV, dOrV, dAndV, dChain, dCall, dOwn, dTup, dLst, dLstM, aCons, aNil, dTru, slot, startD, iOf, its, itsOf, itm, run_bnd, run_ret, run_fail, run_chk, run_rd, run_wr, run_any, run_nox, run_exn, run_tag, see, look, lookM, W.opt, s1, s2, c1, c2, asB, List.map, List.replicate, List.append_eq, List.cons_append, List.nil_append, List.set, andThen, endF, sNil, wipeD, dTrue, gE2, run_atT, run_atL, atI_0, atI_1, atI_2, atI_3, atI_4, run_optS, if_true, if_false, Bool.false_eq_true, decide_true, decide_false, Bool.not_true, Bool.not_false, true_and, and_true, gXorI, gOrI, gAndI, gShl, gShr, DL.gSub, gNeg, oI0, oI, gLt, gGt, gLe, gGe, gOrd, gTuple, List.length_cons, List.length_nil, three_le]
  have S := SR_all ok og few htr ltr hb (by omega : bs.length ≤ 60)
  have S2 := SR_waves A few (by omega : bs.length ≤ 60)
  rw [run_repr S rfl (by decide) (by decide)]
  refine run_waves A fun m6 => ⟨rfl, ?_⟩
  rw [show prm 3 [2, 1, 0] [D.tup (List.map inD (List.map (fun x => x.fst) fl)), D.tup (List.map bD bs), netD gs (restD tr)] = [netD gs (restD tr), D.tup (List.map bD bs), D.tup (List.map inD (List.map (fun x => x.fst) fl))] from rfl]
  refine run_waves A fun m7 => ?_
  have hd8 : Dk (μ5 ++ m5 ++ m6 ++ m7) (t + 700) := (((hd5.app m5).app m6).app m7).mono (by omega)
  refine run_forI (fun _ ε μ' => ∃ y13, ε = [some (.scr ns), some (.ref 0), some x2, some (.int (k : Nat)), some (flD fl n p), some (netD gs (restD tr)), some (.tup (bs.map bD)), some (.tup ((fl.map (·.1)).map inD)), x8, some (.lst ((after gs (fl.map (·.1)) bs bs.length).2.map fun r => .lst (iD r))), some (wavesD gs (fl.map (·.1)) bs), x11, some (.str (shw (.tup [netD gs (restD tr), .tup (bs.map bD), .tup ((fl.map (·.1)).map inD)]))), y13] ∧ Dk μ' (t + 700)) _ 0 ?_ ?_ ⟨x13, rfl, hd8⟩
  · rintro j x ε μ' ex ⟨y13, rfl, hd⟩
    have ex' : x = wavesD gs (fl.map (·.1)) bs := by
      match j, ex with
      | 0, ex => cases ex; rfl
      | 1, ex => cases ex; rfl
      | j + 2, ex => cases ex
    subst ex'
    exact ⟨True.intro, _, rfl, run_judge (fun Q' => run_repr S2 rfl (by decide) (by decide)) (fun Q' => run_repr S rfl (by decide) (by decide)) rfl (fun _ => rfl) ⟨_, rfl, hd⟩⟩
  · rintro ε μ' ⟨y13, rfl, hd⟩
    exact ⟨True.intro, q _ _ _ _ _ _ _ _ _ _ _ _ hd⟩
end
end K34

namespace K34
open PySem PySem.Spec PyProof.Rows L2 Kit DL
theorem run_law {ns : List Int} (h1 : ns.length ≤ 63) (h2 : ∀ z ∈ ns, Builtin.Int.intBits z ≤ 1048576) : (F_law [.scr ns]).run (fun d _ => d = .bl true) (fun _ _ => False) [] := by
  have r1 : -(2 ^ 62) ≤ (3 : Int) ∧ (3 : Int) < 2 ^ 62 := ⟨by omega, by omega⟩
  simp only [F_law, B_law, defW, sSeq, sIf, sSet, sRet, sRetN, sExpr, sPar, two, sFor, sRaise, dB, dOp, dUn, dV, dC, dIfE, dM1, dJoin.isS, dSl, dPart, dNoPart, dNot, dAnd, dOr, dNotV, dOrV, dAndV, dChain, dCall, dOwn, dTup, dLst, dLstM, aCons, aNil, dTru, slot, startD, iOf, its, itsOf, itm, run_bnd, run_ret, run_fail, run_chk, run_rd, run_wr, run_any, run_nox, run_exn, run_tag, see, look, lookM, W.opt, s1, s2, c1, c2, asB, List.map, List.replicate, List.append_eq, List.cons_append, List.nil_append, List.set, andThen, endF, sNil, wipeD, dTrue, gE2, run_atT, run_atL, atI_0, atI_1, atI_2, atI_3, atI_4, run_optS, if_true, if_false, Bool.false_eq_true, decide_true, decide_false, Bool.not_true, Bool.not_false, true_and, and_true, gXorI, gOrI, gAndI, gShl, gShr, DL.gSub, gNeg, oI0, oI, gLt, gGt, gLe, gGe, gOrd]
  refine ⟨rfl, run_deck h1 h2 ?_⟩
  simp only [defW, sSeq, sIf, sSet, sRet, sRetN, sExpr, sPar, two, sFor, sRaise, dB, dOp, dUn, dV, dC, dIfE, dM1, dJoin.isS, dSl, dPart, dNoPart, dNot, dAnd, dOr, dNotV, dOrV, dAndV, dChain, dCall, dOwn, dTup, dLst, dLstM, aCons, aNil, dTru, slot, startD, iOf, its, itsOf, itm, run_bnd, run_ret, run_fail, run_chk, run_rd, run_wr, run_any, run_nox, run_exn, run_tag, see, look, lookM, W.opt, s1, s2, c1, c2, asB, List.map, List.replicate, List.append_eq, List.cons_append, List.nil_append, List.set, andThen, endF, sNil, wipeD, dTrue, gE2, run_atT, run_atL, atI_0, atI_1, atI_2, atI_3, atI_4, run_optS, if_true, if_false, Bool.false_eq_true, decide_true, decide_false, Bool.not_true, Bool.not_false, true_and, and_true, gXorI, gOrI, gAndI, gShl, gShr, DL.gSub, gNeg, oI0, oI, gLt, gGt, gLe, gGe, gOrd, rng1, r1]
  refine run_forI (fun j ε μ' => ∃ x2 x3 x4 x5 x6 x7 x8 x9 x10 x11 x12 x13, ε = [some (.scr ns), some (.ref 0), x2, x3, x4, x5, x6, x7, x8, x9, x10, x11, x12, x13] ∧ Dk μ' (700 * j)) _ 0 ?_ ?_ ⟨none, none, none, none, none, none, none, none, none, none, none, none, rfl, ⟨0, Nat.le_refl _, rfl⟩⟩
  · rintro j x ε μ' ex ⟨x2, x3, x4, x5, x6, x7, x8, x9, x10, x11, x12, x13, rfl, hd⟩
    rw [Nat.zero_add] at hd ⊢
    have lj : j < 3 := (List.getElem?_eq_some_iff.mp ex).1
    exact ⟨True.intro, _, rfl, run_turn (by omega) hd fun x3 x4 x5 x6 x7 x8 x9 x10 x11 x12 x13 μ2 hd2 => ⟨_, x3, x4, x5, x6, x7, x8, x9, x10, x11, x12, x13, rfl, hd2.mono (by omega)⟩⟩
  · rintro ε μ' ⟨x2, x3, x4, x5, x6, x7, x8, x9, x10, x11, x12, x13, rfl, hd⟩
    refine ⟨True.intro, ?_⟩
    simp only [defW, sSeq, sIf, sSet, sRet, sRetN, sExpr, sPar, two, sFor, sRaise, dB, dOp, dUn, dV, dC, dIfE, dM1, dJoin.isS, dSl, dPart, dNoPart, dNot, dAnd, dOr, dNotV, dOrV, dAndV, dChain, dCall, dOwn, dTup, dLst, dLstM, aCons, aNil, dTru, slot, startD, iOf, its, itsOf, itm, run_bnd, run_ret, run_fail, run_chk, run_rd, run_wr, run_any, run_nox, run_exn, run_tag, see, look, lookM, W.opt, s1, s2, c1, c2, asB, List.map, List.replicate, List.append_eq, List.cons_append, List.nil_append, List.set, andThen, endF, sNil, wipeD, dTrue, gE2, run_atT, run_atL, atI_0, atI_1, atI_2, atI_3, atI_4, run_optS, if_true, if_false, Bool.false_eq_true, decide_true, decide_false, Bool.not_true, Bool.not_false, true_and, and_true, gXorI, gOrI, gAndI, gShl, gShr, DL.gSub, gNeg, oI0, oI, gLt, gGt, gLe, gGe, gOrd]
end K34

namespace K34
open PySem PySem.Spec PyProof.Rows L2 Kit DL
section
variable {P : Program} {w : World} {K : PySem.W.Frag} {mg : Str → Option Value} {base : Heap}
theorem ok_draw {f : Addr} {fd : FuncData} (D : DefAt K mg "_law_draw" ["_law_deck_here", "_law_sides"] s_l_draw f fd) :
    Cal P w K mg base L2.CX0 1 "_law_draw" ["_law_deck_here", "_law_sides"] spDraw := by
  have S := S_l_draw
  refine cal_of D.fn D.mgf D.bs D.kbs S (fun vs H Q E h => ?_) (fun cdv A outer s H vs Q E hq hr h => ?_)
  · obtain ⟨d, c, n, t, rfl, _⟩ := h
    rfl
  · obtain ⟨d, c, n, t, rfl, hn1, hn2, ⟨cs, sd, hd, hc, hs0, hs1, hl, hz⟩, ht, q⟩ := h
    refine ⟨_, (pss_cons (ps_dput (hu_of hr) (pv 0) pe_str (pe_op op_add (pe_dget (hu_of hr) (pv 0) pe_str (fun _ _ => rfl)) pe_int) rfl)
 (pss_cons (ps_set (i := 2) S.nd rfl (.inl rfl) (pe_dget (hu_of hr) (pv 0) pe_str (fun _ _ => rfl)))
 (pss_cons (ps_set (i := 3) S.nd rfl (.inl rfl) (pe_op op_add (pe_dget (hu_of hr) (pv 0) pe_str (fun _ _ => rfl)) (pe_op op_mulB (pe_op op_mulB pe_int (pv 2)) (pv 2))))
 (C8.pss_cut (ps_if (pt_cmpR (op_neNil (room200 hr)) (pe_dget (hu_of hr) (pv 0) pe_str (fun _ _ => rfl)) (pe_lst pa_nil) (nomark _))
  (pss_cons (ps_set (i := 4) S.nd rfl (.inl rfl) (pe_bm0 PySem.F.plainAttrs_list PySem.F.slot_list_pop PySem.F.type_list_pop (mt_pop) (pe_dget (hu_of hr) (pv 0) pe_str (fun _ _ => rfl))))
 (pss_cons (ps_if (pt_cmpR op_ge (pv 4) (pe_op op_pow pe_int pe_int) (nomark _))
  (pss_cons (ps_expr (pe_bm PySem.F.plainAttrs_list PySem.F.slot_list_append PySem.F.type_list_append mt_append (pe_dget (hu_of hr) (pv 0) pe_str (fun _ _ => rfl)) (pa_cons (pe_op op_fdivW (pv 4) (pv 1)) pa_nil)))
 (pss_one (ps_ret (pe_op op_mod (pv 4) (pv 1)))))
  pss_nil)
 (pss_one (ps_set (i := 3) S.nd rfl (.inl rfl) (pe_op op_add (pv 3) (pe_op op_mulB pe_int (pv 4)))))))
  pss_nil)
 (pss_cons (ps_set (i := 3) S.nd rfl (.inl rfl) (pe_op op_mod (pe_op op_mulB (pv 3) (pe_op op_add (pv 3) (pe_op op_mulB pe_int (pv 2)))) pe_int))
 (pss_cons (ps_set (i := 3) S.nd rfl (.inl rfl) (pe_op op_mod (pe_op op_add (pe_op op_mulB (pv 3) (pv 3)) (pe_op op_mulB pe_int (pv 2))) pe_int))
 (pss_one (ps_ret (pe_op op_mod (pe_op op_fdivN (pv 3) pe_int) (pv 1)))))))))), ?_⟩
    have ndc : c ≠ d := ne_of hc hd (by intro z; cases z)
    have g1 : DGet H d (.str "at") (some (.int (t : Int))) := DGet.k (k := Sum.inr "at") hd
    refine ⟨.ref d, rfl, d, _, rfl, g1, t, 1, rfl, rfl, .ref d, rfl, d, _, rfl, DPut.k (k := Sum.inr "at") hd (sl3 c sd t), ?_⟩
    rw [put_at]
    have hd1 : (upd H d (.dK (deckKv c sd (t + 1)))) d = some (.dK (deckKv c sd (t + 1))) := upd_same
    have hc1 : (upd H d (.dK (deckKv c sd (t + 1)))) c = some (.lst (cs.map V.int)) := by
      rw [upd_ne ndc]
      exact hc
    have bt1 : But d c H (upd H d (.dK (deckKv c sd (t + 1)))) := fun b o h1 h2 e => by
      rw [upd_ne h1]
      exact e
    revert hd1 hc1 bt1
    show _ → _ → _ → tSeq _ _ _ _ (upd H d (.dK (deckKv c sd (t + 1))))
    generalize upd H d (.dK (deckKv c sd (t + 1))) = H1
    intro hd1 hc1 bt1
    have g2 : DGet H1 d (.str "at") (some (.int ((t + 1 : Nat) : Int))) := DGet.k (k := Sum.inr "at") hd1
    have g3 : DGet H1 d (.str "seed") (some (.int sd)) := DGet.k (k := Sum.inr "seed") hd1
    have g4 : DGet H1 d (.str "cells") (some (.ref c)) := DGet.k (k := Sum.inr "cells") hd1
    refine ⟨.ref d, rfl, d, _, rfl, g2, ?_⟩
    refine ⟨.ref d, rfl, d, _, rfl, g3, ?_⟩
    refine ⟨.int ((t + 1 : Nat) : Int), rfl, 7919, ((t + 1 : Nat) : Int), rfl, rfl, ?_, .int ((t + 1 : Nat) : Int), rfl, 7919 * ((t + 1 : Nat) : Int), ((t + 1 : Nat) : Int), rfl, rfl, ?_, sd, _, rfl, rfl, ?_⟩
    · exact IntMulOk.of_left (by decide)
    · exact IntMulOk.of_right (intBits_le_64 (by omega) (by omega))
    have T1 : (0 : Int) ≤ ((t + 1 : Nat) : Int) ∧ ((t + 1 : Nat) : Int) < 2 ^ 41 := by omega
    have T2 : (0 : Int) ≤ 7919 * ((t + 1 : Nat) : Int) * ((t + 1 : Nat) : Int) ∧ 7919 * ((t + 1 : Nat) : Int) * ((t + 1 : Nat) : Int) < 2 ^ 100 := by
      generalize ((t + 1 : Nat) : Int) = k at T1
      have h1 : (0 : Int) ≤ 7919 * k := by omega
      refine ⟨Int.mul_nonneg h1 T1.1, ?_⟩
      have h3 : 7919 * k * k ≤ 7919 * k * 2 ^ 41 := Int.mul_le_mul_of_nonneg_left (by omega) h1
      omega
    refine ⟨fun σ' H3 => ∃ (m : Int) (x4 : Option V), σ' = [some (.ref d), some (.int n), some (.int ((t + 1 : Nat) : Int)), some (.int m), x4] ∧ Builtin.Int.intBits m ≤ 1048700 ∧
      But d c H H3 ∧ Deck H3 d c (t + 1), ?_, ?_⟩
    · refine ⟨.ref d, rfl, d, _, rfl, g4, ?_⟩
      refine ⟨Nat.zero_le _, fun p np => ?_⟩
      have npc : c ≠ p := ne_of_none hc1 np
      have hcp : (upd H1 p (.lst [])) c = some (.lst (cs.map V.int)) := by
        rw [upd_ne npc]
        exact hc1
      have npd : d ≠ p := ne_of_none hd1 np
      have hdp : (upd H1 p (.lst [])) d = some (.dK (deckKv c sd (t + 1))) := by
        rw [upd_ne npd]
        exact hd1
      have btp : But d c H (upd H1 p (.lst [])) := fun b o h1 h2 e => by
        have e1 := bt1 b o h1 h2 e
        rw [upd_ne (ne_of_none e1 np)]
        exact e1
      refine ⟨c, p, _, rfl, rfl, .inl (.inl hcp), .inl (.inl upd_same), _, rfl, ?_⟩
      revert hcp hdp btp
      generalize upd H1 p (.lst []) = H2
      intro hc2 hd2 bt2
      have bm : Builtin.Int.intBits (sd + 7919 * ((t + 1 : Nat) : Int) * ((t + 1 : Nat) : Int)) ≤ 200 := by
        have hb : big < 2 ^ 127 := by decide
        exact bits_lt (by omega) (by omega)
      rcases snoc cs with rfl | ⟨l, x, rfl⟩
      · exact iteF ⟨_, _, rfl, Nat.le_trans bm (by decide), bt2, ⟨[], sd, hd2, hc2, hs0, hs1, hl, hz⟩⟩
      · have ne0 : ((l ++ [x]).map V.int).isEmpty = false := by
          cases l <;> rfl
        rw [ne0]
        refine iteT ?_
        have g5 : DGet H2 d (.str "cells") (some (.ref c)) := DGet.k (k := Sum.inr "cells") hd2
        have hx : Builtin.Int.intBits x ≤ 1048576 := hz x (List.mem_append_right _ (List.mem_singleton.mpr rfl))
        have hl' : l.length < 63 := by
          have e := hl
          rw [List.length_append, List.length_singleton] at e
          omega
        have hz' : ∀ z ∈ l, Builtin.Int.intBits z ≤ 1048576 := fun z hm => hz z (List.mem_append_left _ hm)
        have lst1 : ((l ++ [x]).map V.int)[((l ++ [x]).map V.int).length - 1]? = some (.int x) := by
          rw [List.map_append, List.length_append, List.length_map]
          show (l.map V.int ++ [V.int x])[l.length + 1 - 1]? = _
          rw [Nat.add_sub_cancel, List.getElem?_append_right (by rw [List.length_map]; exact Nat.le_refl _), List.length_map, Nat.sub_self]
          rfl
        have drop1 : ((l ++ [x]).map V.int).dropLast = l.map V.int := by
          rw [List.map_append]
          exact List.dropLast_concat
        -- the last cell is taken
        refine ⟨.ref d, rfl, d, _, rfl, g5, .inl ⟨rfl, _, .inl (.inl hc2)⟩, c, _, _, rfl, rfl, hc2, lst1, ?_⟩
        rw [drop1]
        have hd3 : (upd H2 c (.lst (l.map V.int))) d = some (.dK (deckKv c sd (t + 1))) := by
          rw [upd_ne ndc.symm]
          exact hd2
        have hc3 : (upd H2 c (.lst (l.map V.int))) c = some (.lst (l.map V.int)) := upd_same
        have bt3 : But d c H (upd H2 c (.lst (l.map V.int))) := fun b o h1 h2 e => by
          rw [upd_ne h2]
          exact bt2 b o h1 h2 e
        revert hd3 hc3 bt3
        show _ → _ → _ → tSeq _ _ _ _ (upd H2 c (.lst (l.map V.int)))
        generalize upd H2 c (.lst (l.map V.int)) = H3
        intro hd3 hc3 bt3
        refine ⟨.int x, rfl, 10, 18, rfl, rfl, ⟨by decide, by decide, by decide⟩, x, _, rfl, rfl, _, rfl, ite2 (fun _ => ?_) (fun _ => ?_)⟩
        · -- a digit of it
          have g6 : DGet H3 d (.str "cells") (some (.ref c)) := DGet.k (k := Sum.inr "cells") hd3
          refine ⟨.ref d, rfl, d, _, rfl, g6, .inl ⟨rfl, _, .inl (.inl hc3)⟩, .int x, rfl, .int n, rfl, x, n, rfl, rfl, wide_div (b := 41) (by omega) (by omega) (by decide) (by decide), c, _, _, rfl, rfl, hc3, ?_, ?_⟩
          · rw [List.length_map]
            exact Nat.lt_of_lt_of_le hl' (by decide)
          refine ⟨.int x, rfl, .int n, rfl, x, n, rfl, rfl, by omega, ?_⟩
          refine q _ _ (Int.emod_nonneg _ (by omega)) (Int.emod_lt_of_pos _ (by omega)) (fun b o h1 h2 e => ?_) ⟨l ++ [x / n], sd, ?_, ?_, hs0, hs1, ?_, ?_⟩
          · rw [upd_ne h2]
            exact bt3 b o h1 h2 e
          · rw [upd_ne ndc.symm]
            exact hd3
          · rw [upd_same, List.map_append]
            rfl
          · rw [List.length_append]
            exact hl'
          · intro z hm
            rcases List.mem_append.mp hm with h1 | h1
            · exact hz' z h1
            · rw [List.mem_singleton.mp h1]
              rw [← Int.fdiv_eq_ediv_of_nonneg _ (by omega : (0 : Int) ≤ n)]
              exact PySem.intBits_fdiv_le hx
        · refine ⟨_, rfl, .int x, rfl, 69621, x, rfl, rfl, .of_left (by decide), _, _, rfl, rfl, ?_⟩
          refine ⟨_, _, rfl, ?_, bt3, ⟨l, sd, hd3, hc3, hs0, hs1, by omega, hz'⟩⟩
          have b1 : Builtin.Int.intBits (69621 * x) ≤ 1048650 := Nat.le_trans (PySem.intBits_mul_le (bits_lt (n := 20) (by decide) (by decide)) hx) (by decide)
          exact Nat.le_trans (bits_add (Nat.le_trans bm (by decide)) b1) (by decide)
    · rintro σ' H3 ⟨m, x4, rfl, hm, bt, dk⟩
      have T3 : Builtin.Int.intBits (48271 * ((t + 1 : Nat) : Int)) ≤ 100 := bits_lt (by omega) (by omega)
      have T4 : Builtin.Int.intBits (m + 48271 * ((t + 1 : Nat) : Int)) ≤ 1048701 := bits_add hm (Nat.le_trans T3 (by decide))
      refine ⟨.int m, rfl, .int m, rfl, .int ((t + 1 : Nat) : Int), rfl, 48271, ((t + 1 : Nat) : Int), rfl, rfl, .of_left (by decide), ?_⟩
      refine ⟨m, _, rfl, rfl, m, m + 48271 * ((t + 1 : Nat) : Int), rfl, rfl, .of_le hm T4 (by decide), _, _, rfl, rfl, pos_big, ?_⟩
      have b1 : (0 : Int) ≤ m * (m + 48271 * ((t + 1 : Nat) : Int)) % big := Int.emod_nonneg _ (by decide)
      have b2 : m * (m + 48271 * ((t + 1 : Nat) : Int)) % big < big := Int.emod_lt_of_pos _ (by decide)
      show tSeq _ _ _ [some (.ref d), some (.int n), some (.int ((t + 1 : Nat) : Int)), some (.int (m * (m + 48271 * ((t + 1 : Nat) : Int)) % big)), x4] _
      generalize m * (m + 48271 * ((t + 1 : Nat) : Int)) % big = r at b1 b2
      have b3 : Builtin.Int.intBits r ≤ 127 := bits_lt b1 (Int.lt_of_lt_of_le b2 (by decide))
      refine ⟨.int r, rfl, .int r, rfl, r, r, rfl, rfl, .of_le b3 b3 (by decide), .int ((t + 1 : Nat) : Int), rfl, 104729, ((t + 1 : Nat) : Int), rfl, rfl, .of_left (by decide), _, _, rfl, rfl, _, _, rfl, rfl, pos_big, ?_⟩
      refine ⟨_, rfl, _, 1048576, rfl, rfl, ⟨by decide, by decide⟩, .int n, rfl, _, n, rfl, rfl, by omega, ?_⟩
      exact q _ _ (Int.emod_nonneg _ (by omega)) (Int.emod_lt_of_pos _ (by omega)) bt dk

theorem ok_deck {f : Addr} {fd : FuncData} (D : DefAt K mg "_law_deck" ["_law_script"] s_l_deck f fd) (M : Bi mg) :
    Cal P w K mg base L2.CX0 1 "_law_deck" ["_law_script"] (spDeck K) := by
  have S := S_l_deck
  refine cal_of D.fn D.mgf D.bs D.kbs S (fun vs H Q E h => ?_) (fun cdv A outer s H vs Q E hq hr h => ?_)
  · obtain ⟨a, ns, rfl, _⟩ := h
    rfl
  · obtain ⟨a, ns, rfl, hs, hl, hb, q⟩ := h
    refine ⟨_, (pss_cons (ps_set (i := 1) S.nd rfl (.inl rfl) (pe_callTy call_list_of (by rfl) M.list_ (by decide +kernel) (pa_cons (pe_slice sl_list (pv 0) po_none (po_some pe_int)) pa_nil)))
 (pss_cons (ps_set (i := 2) S.nd rfl (.inl rfl) (pe_op op_add pe_int (pe_callB call_len_seq (by rfl) M.len_ (by decide +kernel) (pa_cons (pv 1) pa_nil))))
 (pss_cons (ps_for PassesOwn.never rfl (pi_list (pv 1)) (pg_name (i := 3) S.nd rfl (.inl rfl))
  (pss_one (ps_set (i := 2) S.nd rfl (.inl rfl) (pe_op op_mod (pe_op op_add (pe_op op_mulB (pv 2) pe_int) (pv 3)) pe_int))))
 (pss_one (ps_ret (pe_disp (pps_cons pe_str (pe_revL (pv 1)) (pps_cons pe_str (pv 2) (pps_cons pe_str pe_int pps_nil))) (by rfl) (by rfl) (fun z => by cases z) (by decide))))))), ?_⟩
    -- list(script[:63])
    refine ⟨.ref a, rfl, 63, rfl, a, _, rfl, hs, fun p np => ?_⟩
    have e63 : cutV (ns.map V.int) none (some 63) = ns.map V.int := by
      unfold cutV
      rw [HT.sIx_none, show HT.sIx (ns.map V.int).length (ns.map V.int).length (some 63) = min 63 (ns.map V.int).length from HT.sIx_nat _ _ 63]
      rw [List.length_map, Nat.min_eq_right hl]
      exact List.take_of_length_le (by rw [List.drop_zero, List.length_map]; exact Nat.le_refl _)
    rw [e63]
    refine ⟨p, _, rfl, .inl (.inl (.inl upd_same)), fun l nl => ?_⟩
    have s1 := same_new (o := .lst (ns.map V.int)) np
    have s2 := s1.trans (same_new (o := .lst (ns.map V.int)) nl)
    have el : (upd (upd H p (.lst (ns.map V.int))) l (.lst (ns.map V.int))) l = some (.lst (ns.map V.int)) := upd_same
    have fl : H l = none := s1.free nl
    revert s2 el
    show _ → _ → tSeq _ _ _ _ (upd (upd H p (.lst (ns.map V.int))) l (.lst (ns.map V.int)))
    generalize upd (upd H p (.lst (ns.map V.int))) l (.lst (ns.map V.int)) = H1
    intro s2 el
    -- the seed
    refine ⟨.ref l, rfl, l, _, rfl, .inl (.inl (.inl el)), 104729, _, rfl, rfl, ?_⟩
    have hlen : (ns.map V.int).length = ns.length := List.length_map _
    rw [hlen]
    refine ⟨.ref l, rfl, l, rfl, ⟨_, .inl (.inl el)⟩, for_list (xs := ns.map V.int)
      (fun i σ H' => H' = H1 ∧ ∃ (sd : Int) (x : Option V), σ = [some (.ref a), some (.ref l), some (.int sd), x] ∧ 0 ≤ sd ∧ sd < big) ?_ ?_ ?_ ?_⟩
    · exact ⟨rfl, 104729 + (ns.length : Int), none, rfl, by omega, by
        show (104729 : Int) + _ < 170141183460469231731687303715884105727
        omega⟩
    · rintro i σ H' _ ⟨rfl, _⟩
      exact .inl (.inl el)
    · rintro i x σ H' hx ⟨rfl, sd, y, rfl, h0, h1⟩
      rw [List.getElem?_map] at hx
      cases hz : ns[i]? with
      | none =>
        rw [hz] at hx
        cases hx
      | some z =>
        rw [hz] at hx
        obtain rfl : V.int z = x := Option.some.inj hx
        have bz := hb z (List.mem_of_getElem? hz)
        refine ⟨_, rfl, sd, 1000003, rfl, rfl, .of_right (by decide), _, rfl, _, _, rfl, rfl, _, _, rfl, rfl, pos_big, rfl, _, _, rfl, ?_, ?_⟩
        · exact Int.emod_nonneg _ (by decide)
        · exact Int.emod_lt_of_pos _ (by decide)
    · rintro σ H' ⟨rfl, sd, y, rfl, h0, h1⟩
      -- the dict
      intro r nr
      have npr : l ≠ r := ne_of_none el nr
      have el2 : (upd H' r (.dK [])) l = some (.lst (ns.map V.int)) := by
        rw [upd_ne npr]
        exact el
      refine ⟨.ref l, rfl, l, _, rfl, .inl (.inl el2), fun c nc => ?_⟩
      have ncr : r ≠ c := fun z => by
        rw [← z, upd_same] at nc
        cases nc
      refine ⟨_, rfl, ?_⟩
      refine ⟨by rw [upd_ne ncr, upd_same], deckKv c sd 0, rfl, by show 3 ≤ 15; decide, ?_⟩
      have fc : H' c = none := by
        rw [upd_ne (fun z => ncr z.symm)] at nc
        exact nc
      have fr : H r = none := s2.free nr
      have fc2 : H c = none := s2.free fc
      refine q r c _ ?_ fr fc2 ⟨ns.reverse, sd, ?_, ?_, h0, h1, ?_, ?_⟩
      · exact same_mut (same_mut (same_mut s2 fr) fc2) fr
      · exact upd_same
      · rw [upd_ne ncr.symm, upd_same, List.map_reverse]
      · rw [List.length_reverse]
        exact hl
      · intro z hz
        exact hb z (List.mem_reverse.mp hz)

def spLaw (K : PySem.W.Frag) : Sp := spX K dkD 1 F_law
end
theorem all_mk {l : PySem.W.OpenLaw} {w : World} {K : PySem.W.Frag} {h : Heap} {mg : Str → Option Value} {fa : Addr} (X : K.In h) (G : h.Ns mainGlobals mg) (hfa : mg "law" = some (.ref fa))
    {f_l_deck : Addr} {oc_l_deck kV_l_deck dc_l_deck pm_l_deck cd_l_deck ct_l_deck : Value} {od_l_deck an_l_deck : Option Addr} {sl_l_deck : Array (Option Value)}
    (a_l_deck : PySem.W.nsIn K mainGlobals "_law_deck" = some (some (.ref f_l_deck)))
    (l_l_deck : K.lookup f_l_deck = some ⟨oc_l_deck, od_l_deck, .func (PySem.W.fnOf "_law_deck" "_law_deck" (defArgs s_l_deck) (defBody s_l_deck) (defScope s_l_deck) .none kV_l_deck dc_l_deck pm_l_deck an_l_deck cd_l_deck ct_l_deck), sl_l_deck⟩)
    (c_l_deck : PySem.W.codeIn K cd_l_deck "_law_deck" = true)
    (k_l_deck : PySem.W.keepIn K (.ref f_l_deck) = true)
    {f_l_draw : Addr} {oc_l_draw kV_l_draw dc_l_draw pm_l_draw cd_l_draw ct_l_draw : Value} {od_l_draw an_l_draw : Option Addr} {sl_l_draw : Array (Option Value)}
    (a_l_draw : PySem.W.nsIn K mainGlobals "_law_draw" = some (some (.ref f_l_draw)))
    (l_l_draw : K.lookup f_l_draw = some ⟨oc_l_draw, od_l_draw, .func (PySem.W.fnOf "_law_draw" "_law_draw" (defArgs s_l_draw) (defBody s_l_draw) (defScope s_l_draw) .none kV_l_draw dc_l_draw pm_l_draw an_l_draw cd_l_draw ct_l_draw), sl_l_draw⟩)
    (c_l_draw : PySem.W.codeIn K cd_l_draw "_law_draw" = true)
    (k_l_draw : PySem.W.keepIn K (.ref f_l_draw) = true)
    {f_l_flat_drawn : Addr} {oc_l_flat_drawn kV_l_flat_drawn dc_l_flat_drawn pm_l_flat_drawn cd_l_flat_drawn ct_l_flat_drawn : Value} {od_l_flat_drawn an_l_flat_drawn : Option Addr} {sl_l_flat_drawn : Array (Option Value)}
    (a_l_flat_drawn : PySem.W.nsIn K mainGlobals "_law_flat_drawn" = some (some (.ref f_l_flat_drawn)))
    (l_l_flat_drawn : K.lookup f_l_flat_drawn = some ⟨oc_l_flat_drawn, od_l_flat_drawn, .func (PySem.W.fnOf "_law_flat_drawn" "_law_flat_drawn" (defArgs s_l_flat_drawn) (defBody s_l_flat_drawn) (defScope s_l_flat_drawn) .none kV_l_flat_drawn dc_l_flat_drawn pm_l_flat_drawn an_l_flat_drawn cd_l_flat_drawn ct_l_flat_drawn), sl_l_flat_drawn⟩)
    (c_l_flat_drawn : PySem.W.codeIn K cd_l_flat_drawn "_law_flat_drawn" = true)
    (k_l_flat_drawn : PySem.W.keepIn K (.ref f_l_flat_drawn) = true)
    {f_l_net_drawn : Addr} {oc_l_net_drawn kV_l_net_drawn dc_l_net_drawn pm_l_net_drawn cd_l_net_drawn ct_l_net_drawn : Value} {od_l_net_drawn an_l_net_drawn : Option Addr} {sl_l_net_drawn : Array (Option Value)}
    (a_l_net_drawn : PySem.W.nsIn K mainGlobals "_law_net_drawn" = some (some (.ref f_l_net_drawn)))
    (l_l_net_drawn : K.lookup f_l_net_drawn = some ⟨oc_l_net_drawn, od_l_net_drawn, .func (PySem.W.fnOf "_law_net_drawn" "_law_net_drawn" (defArgs s_l_net_drawn) (defBody s_l_net_drawn) (defScope s_l_net_drawn) .none kV_l_net_drawn dc_l_net_drawn pm_l_net_drawn an_l_net_drawn cd_l_net_drawn ct_l_net_drawn), sl_l_net_drawn⟩)
    (c_l_net_drawn : PySem.W.codeIn K cd_l_net_drawn "_law_net_drawn" = true)
    (k_l_net_drawn : PySem.W.keepIn K (.ref f_l_net_drawn) = true)
    {f_l_drawn_beats : Addr} {oc_l_drawn_beats kV_l_drawn_beats dc_l_drawn_beats pm_l_drawn_beats cd_l_drawn_beats ct_l_drawn_beats : Value} {od_l_drawn_beats an_l_drawn_beats : Option Addr} {sl_l_drawn_beats : Array (Option Value)}
    (a_l_drawn_beats : PySem.W.nsIn K mainGlobals "_law_drawn_beats" = some (some (.ref f_l_drawn_beats)))
    (l_l_drawn_beats : K.lookup f_l_drawn_beats = some ⟨oc_l_drawn_beats, od_l_drawn_beats, .func (PySem.W.fnOf "_law_drawn_beats" "_law_drawn_beats" (defArgs s_l_drawn_beats) (defBody s_l_drawn_beats) (defScope s_l_drawn_beats) .none kV_l_drawn_beats dc_l_drawn_beats pm_l_drawn_beats an_l_drawn_beats cd_l_drawn_beats ct_l_drawn_beats), sl_l_drawn_beats⟩)
    (c_l_drawn_beats : PySem.W.codeIn K cd_l_drawn_beats "_law_drawn_beats" = true)
    (k_l_drawn_beats : PySem.W.keepIn K (.ref f_l_drawn_beats) = true)
    {f_l_stepped : Addr} {oc_l_stepped kV_l_stepped dc_l_stepped pm_l_stepped cd_l_stepped ct_l_stepped : Value} {od_l_stepped an_l_stepped : Option Addr} {sl_l_stepped : Array (Option Value)}
    (a_l_stepped : PySem.W.nsIn K mainGlobals "_law_stepped" = some (some (.ref f_l_stepped)))
    (l_l_stepped : K.lookup f_l_stepped = some ⟨oc_l_stepped, od_l_stepped, .func (PySem.W.fnOf "_law_stepped" "_law_stepped" (defArgs s_l_stepped) (defBody s_l_stepped) (defScope s_l_stepped) .none kV_l_stepped dc_l_stepped pm_l_stepped an_l_stepped cd_l_stepped ct_l_stepped), sl_l_stepped⟩)
    (c_l_stepped : PySem.W.codeIn K cd_l_stepped "_law_stepped" = true)
    (k_l_stepped : PySem.W.keepIn K (.ref f_l_stepped) = true)
    {f_l_gate_beats : Addr} {oc_l_gate_beats kV_l_gate_beats dc_l_gate_beats pm_l_gate_beats cd_l_gate_beats ct_l_gate_beats : Value} {od_l_gate_beats an_l_gate_beats : Option Addr} {sl_l_gate_beats : Array (Option Value)}
    (a_l_gate_beats : PySem.W.nsIn K mainGlobals "_law_gate_beats" = some (some (.ref f_l_gate_beats)))
    (l_l_gate_beats : K.lookup f_l_gate_beats = some ⟨oc_l_gate_beats, od_l_gate_beats, .func (PySem.W.fnOf "_law_gate_beats" "_law_gate_beats" (defArgs s_l_gate_beats) (defBody s_l_gate_beats) (defScope s_l_gate_beats) .none kV_l_gate_beats dc_l_gate_beats pm_l_gate_beats an_l_gate_beats cd_l_gate_beats ct_l_gate_beats), sl_l_gate_beats⟩)
    (c_l_gate_beats : PySem.W.codeIn K cd_l_gate_beats "_law_gate_beats" = true)
    (k_l_gate_beats : PySem.W.keepIn K (.ref f_l_gate_beats) = true)
    {f_told_of_feeds : Addr} {oc_told_of_feeds kV_told_of_feeds dc_told_of_feeds pm_told_of_feeds cd_told_of_feeds ct_told_of_feeds : Value} {od_told_of_feeds an_told_of_feeds : Option Addr} {sl_told_of_feeds : Array (Option Value)}
    (a_told_of_feeds : PySem.W.nsIn K mainGlobals "told_of_feeds" = some (some (.ref f_told_of_feeds)))
    (l_told_of_feeds : K.lookup f_told_of_feeds = some ⟨oc_told_of_feeds, od_told_of_feeds, .func (PySem.W.fnOf "told_of_feeds" "told_of_feeds" (defArgs s_told_of_feeds) (defBody s_told_of_feeds) (defScope s_told_of_feeds) .none kV_told_of_feeds dc_told_of_feeds pm_told_of_feeds an_told_of_feeds cd_told_of_feeds ct_told_of_feeds), sl_told_of_feeds⟩)
    (c_told_of_feeds : PySem.W.codeIn K cd_told_of_feeds "told_of_feeds" = true)
    (k_told_of_feeds : PySem.W.keepIn K (.ref f_told_of_feeds) = true)
    {f_gates_in_beat : Addr} {oc_gates_in_beat kV_gates_in_beat dc_gates_in_beat pm_gates_in_beat cd_gates_in_beat ct_gates_in_beat : Value} {od_gates_in_beat an_gates_in_beat : Option Addr} {sl_gates_in_beat : Array (Option Value)}
    (a_gates_in_beat : PySem.W.nsIn K mainGlobals "gates_in_beat" = some (some (.ref f_gates_in_beat)))
    (l_gates_in_beat : K.lookup f_gates_in_beat = some ⟨oc_gates_in_beat, od_gates_in_beat, .func (PySem.W.fnOf "gates_in_beat" "gates_in_beat" (defArgs s_gates_in_beat) (defBody s_gates_in_beat) (defScope s_gates_in_beat) .none kV_gates_in_beat dc_gates_in_beat pm_gates_in_beat an_gates_in_beat cd_gates_in_beat ct_gates_in_beat), sl_gates_in_beat⟩)
    (c_gates_in_beat : PySem.W.codeIn K cd_gates_in_beat "gates_in_beat" = true)
    (k_gates_in_beat : PySem.W.keepIn K (.ref f_gates_in_beat) = true)
    {f_in_bits : Addr} {oc_in_bits kV_in_bits dc_in_bits pm_in_bits cd_in_bits ct_in_bits : Value} {od_in_bits an_in_bits : Option Addr} {sl_in_bits : Array (Option Value)}
    (a_in_bits : PySem.W.nsIn K mainGlobals "in_bits" = some (some (.ref f_in_bits)))
    (l_in_bits : K.lookup f_in_bits = some ⟨oc_in_bits, od_in_bits, .func (PySem.W.fnOf "in_bits" "in_bits" (defArgs s_in_bits) (defBody s_in_bits) (defScope s_in_bits) .none kV_in_bits dc_in_bits pm_in_bits an_in_bits cd_in_bits ct_in_bits), sl_in_bits⟩)
    (c_in_bits : PySem.W.codeIn K cd_in_bits "in_bits" = true)
    (k_in_bits : PySem.W.keepIn K (.ref f_in_bits) = true)
    {f_gate_waves : Addr} {oc_gate_waves kV_gate_waves dc_gate_waves pm_gate_waves cd_gate_waves ct_gate_waves : Value} {od_gate_waves an_gate_waves : Option Addr} {sl_gate_waves : Array (Option Value)}
    (a_gate_waves : PySem.W.nsIn K mainGlobals "gate_waves" = some (some (.ref f_gate_waves)))
    (l_gate_waves : K.lookup f_gate_waves = some ⟨oc_gate_waves, od_gate_waves, .func (PySem.W.fnOf "gate_waves" "gate_waves" (defArgs s_gate_waves) (defBody s_gate_waves) (defScope s_gate_waves) .none kV_gate_waves dc_gate_waves pm_gate_waves an_gate_waves cd_gate_waves ct_gate_waves), sl_gate_waves⟩)
    (c_gate_waves : PySem.W.codeIn K cd_gate_waves "gate_waves" = true)
    (k_gate_waves : PySem.W.keepIn K (.ref f_gate_waves) = true)
    {f_law : Addr} {oc_law kV_law dc_law pm_law cd_law ct_law : Value} {od_law an_law : Option Addr} {sl_law : Array (Option Value)}
    (a_law : PySem.W.nsIn K mainGlobals "law" = some (some (.ref f_law)))
    (l_law : K.lookup f_law = some ⟨oc_law, od_law, .func (PySem.W.fnOf "law" "law" (defArgs s_law) (defBody s_law) (defScope s_law) .none kV_law dc_law pm_law an_law cd_law ct_law), sl_law⟩)
    (c_law : PySem.W.codeIn K cd_law "law" = true)
    (k_law : PySem.W.keepIn K (.ref f_law) = true)
    (z_list : PySem.W.nsIn K mainGlobals "list" = some none)
    (z_len : PySem.W.nsIn K mainGlobals "len" = some none)
    (z_range : PySem.W.nsIn K mainGlobals "range" = some none)
    (z_tuple : PySem.W.nsIn K mainGlobals "tuple" = some none)
    (z_int : PySem.W.nsIn K mainGlobals "int" = some none)
    (z_sorted : PySem.W.nsIn K mainGlobals "sorted" = some none)
    (z_enumerate : PySem.W.nsIn K mainGlobals "enumerate" = some none)
    (z_dict : PySem.W.nsIn K mainGlobals "dict" = some none)
    (z_zip : PySem.W.nsIn K mainGlobals "zip" = some none)
    (z_repr : PySem.W.nsIn K mainGlobals "repr" = some none)
    : ∃ fd : FuncData, (∀ (s : Shared) (v : Value), BindsTo s fd ⟨[v], []⟩ [("_law_script", v)]) ∧ ∀ base : Heap, K.In base → base.Ns mainGlobals mg → base.NoDigits → FnG l.prog w K mg base (L2.CX l.prog w) 4 fa fd ["_law_script"] (spLaw K) := by
  have e := hfa.symm.trans (PySem.W.mg_of X G a_law)
  cases e
  have D_l_deck := def_mk (ps := ["_law_script"]) (st := s_l_deck) X G a_l_deck l_l_deck c_l_deck k_l_deck (fun _ _ _ _ _ _ us hl => match us, hl with | [_], _ => rfl) (fun _ _ _ _ _ _ _ ws hl => match ws, hl with | [_], _ => rfl)
  have D_l_draw := def_mk (ps := ["_law_deck_here", "_law_sides"]) (st := s_l_draw) X G a_l_draw l_l_draw c_l_draw k_l_draw (fun _ _ _ _ _ _ us hl => match us, hl with | [_, _], _ => rfl) (fun _ _ _ _ _ _ _ ws hl => match ws, hl with | [_, _], _ => rfl)
  have D_l_flat_drawn := def_mk (ps := ["_law_deck_here"]) (st := s_l_flat_drawn) X G a_l_flat_drawn l_l_flat_drawn c_l_flat_drawn k_l_flat_drawn (fun _ _ _ _ _ _ us hl => match us, hl with | [_], _ => rfl) (fun _ _ _ _ _ _ _ ws hl => match ws, hl with | [_], _ => rfl)
  have D_l_net_drawn := def_mk (ps := ["_law_deck_here", "_law_flat"]) (st := s_l_net_drawn) X G a_l_net_drawn l_l_net_drawn c_l_net_drawn k_l_net_drawn (fun _ _ _ _ _ _ us hl => match us, hl with | [_, _], _ => rfl) (fun _ _ _ _ _ _ _ ws hl => match ws, hl with | [_, _], _ => rfl)
  have D_l_drawn_beats := def_mk (ps := ["_law_deck_here", "_law_flat", "_law_ticks", "_law_many"]) (st := s_l_drawn_beats) X G a_l_drawn_beats l_l_drawn_beats c_l_drawn_beats k_l_drawn_beats (fun _ _ _ _ _ _ us hl => match us, hl with | [_, _, _, _], _ => rfl) (fun _ _ _ _ _ _ _ ws hl => match ws, hl with | [_, _, _, _], _ => rfl)
  have D_l_stepped := def_mk (ps := ["_law_gates", "_law_boxes", "_law_known"]) (st := s_l_stepped) X G a_l_stepped l_l_stepped c_l_stepped k_l_stepped (fun _ _ _ _ _ _ us hl => match us, hl with | [_, _, _], _ => rfl) (fun _ _ _ _ _ _ _ ws hl => match ws, hl with | [_, _, _], _ => rfl)
  have D_l_gate_beats := def_mk (ps := ["_law_gates", "_law_flat", "_law_rows"]) (st := s_l_gate_beats) X G a_l_gate_beats l_l_gate_beats c_l_gate_beats k_l_gate_beats (fun _ _ _ _ _ _ us hl => match us, hl with | [_, _, _], _ => rfl) (fun _ _ _ _ _ _ _ ws hl => match ws, hl with | [_, _, _], _ => rfl)
  have D_told_of_feeds := def_mk (ps := ["word", "feeds", "all_ones"]) (st := s_told_of_feeds) X G a_told_of_feeds l_told_of_feeds c_told_of_feeds k_told_of_feeds (fun _ _ _ _ _ _ us hl => match us, hl with | [_, _, _], _ => rfl) (fun _ _ _ _ _ _ _ ws hl => match ws, hl with | [_, _, _], _ => rfl)
  have D_gates_in_beat := def_mk (ps := ["gates", "boxed", "given"]) (st := s_gates_in_beat) X G a_gates_in_beat l_gates_in_beat c_gates_in_beat k_gates_in_beat (fun _ _ _ _ _ _ us hl => match us, hl with | [_, _, _], _ => rfl) (fun _ _ _ _ _ _ _ ws hl => match ws, hl with | [_, _, _], _ => rfl)
  have D_in_bits := def_mk (ps := ["ins", "worths"]) (st := s_in_bits) X G a_in_bits l_in_bits c_in_bits k_in_bits (fun _ _ _ _ _ _ us hl => match us, hl with | [_, _], _ => rfl) (fun _ _ _ _ _ _ _ ws hl => match ws, hl with | [_, _], _ => rfl)
  have D_gate_waves := def_mk (ps := ["net", "beats", "ins"]) (st := s_gate_waves) X G a_gate_waves l_gate_waves c_gate_waves k_gate_waves (fun _ _ _ _ _ _ us hl => match us, hl with | [_, _, _], _ => rfl) (fun _ _ _ _ _ _ _ ws hl => match ws, hl with | [_, _, _], _ => rfl)
  have D_law := def_mk (ps := ["_law_script"]) (st := s_law) X G a_law l_law c_law k_law (fun _ _ _ _ _ _ us hl => match us, hl with | [_], _ => rfl) (fun _ _ _ _ _ _ _ ws hl => match ws, hl with | [_], _ => rfl)
  have M : Bi mg := ⟨PySem.W.mg_none_of X G z_list, PySem.W.mg_none_of X G z_len, PySem.W.mg_none_of X G z_range, PySem.W.mg_none_of X G z_tuple, PySem.W.mg_none_of X G z_int, PySem.W.mg_none_of X G z_sorted, PySem.W.mg_none_of X G z_enumerate, PySem.W.mg_none_of X G z_dict, PySem.W.mg_none_of X G z_zip, PySem.W.mg_none_of X G z_repr⟩
  
  refine ⟨PySem.W.fnOf "law" "law" (defArgs s_law) (defBody s_law) (defScope s_law) .none kV_law dc_law pm_law an_law cd_law ct_law, fun s v => .of_eq rfl, fun base _ _ nd => ?_⟩
  · have C_l_draw : Cal l.prog w K mg base (L2.CX l.prog w) 1 "_law_draw" ["_law_deck_here", "_law_sides"] (spX K dkD 2 F_l_draw) := Cal.cxD (sp' := spX K dkD 2 F_draw) (ok_draw (P := l.prog) (w := w) (base := base) D_l_draw) draw_sp
    have C_l_deck : Cal l.prog w K mg base (L2.CX l.prog w) 1 "_law_deck" ["_law_script"] (spX K dkD 1 F_l_deck) := Cal.cxD (sp' := spX K dkD 1 F_deck) (ok_deck (P := l.prog) (w := w) (base := base) D_l_deck M) deck_sp
    have C_l_flat_drawn := ok_l_flat_drawn (P := l.prog) (w := w) (base := base) D_l_flat_drawn M C_l_draw
    have C_l_net_drawn := ok_l_net_drawn (P := l.prog) (w := w) (base := base) D_l_net_drawn M C_l_draw
    have C_l_drawn_beats := ok_l_drawn_beats (P := l.prog) (w := w) (base := base) D_l_drawn_beats M C_l_draw
    have C_l_stepped := ok_l_stepped (P := l.prog) (w := w) (base := base) D_l_stepped M 
    have C_l_gate_beats := ok_l_gate_beats (P := l.prog) (w := w) (base := base) D_l_gate_beats M C_l_stepped
    have C_told_of_feeds := ok_told_of_feeds (P := l.prog) (w := w) (base := base) D_told_of_feeds M 
    have C_gates_in_beat := ok_gates_in_beat (P := l.prog) (w := w) (base := base) D_gates_in_beat M C_told_of_feeds
    have C_in_bits := ok_in_bits (P := l.prog) (w := w) (base := base) D_in_bits M 
    have FF_gate_waves := okF_gate_waves (P := l.prog) (w := w) (base := base) D_gate_waves M C_gates_in_beat C_in_bits
    have C_gate_waves := cal_F D_gate_waves FF_gate_waves
    have CP_gate_waves_210 := calP_F (ks := ["ins", "beats", "net"]) (pm := [2, 1, 0]) D_gate_waves FF_gate_waves (by decide) (fun s ws hl => match ws, hl with | [_, _, _], _ => .of_eq rfl)
    exact FnG.imp (okF_law D_law M C_l_deck C_l_flat_drawn C_l_net_drawn C_l_drawn_beats C_l_gate_beats C_gate_waves C_l_draw CP_gate_waves_210) fun vs H Q E h => h
end K34
open PySem PySem.W PyProof.Rows
set_option maxRecDepth 100000 in
set_option maxHeartbeats 0 in
theorem PySem.Challenge.cw_wiretongue_k34_gates_beat_by_beat_holds : PySem.Challenge.rw_wiretongue_k34_gates_beat_by_beat.Holds := by
  w_on; o_law; k_head; (case hw => w_witness2)
  k_fill
  refine Kit.walk_ofN (l := PySem.Challenge.rw_wiretongue_k34_gates_beat_by_beat) (n := 63) (k := 4) (x := "_law_script") (CX := fun w => L2.CX PySem.Challenge.rw_wiretongue_k34_gates_beat_by_beat.prog w) (sp := fun w => K34.spLaw _) rfl (by decide) rfl ⟨rfl, by decide, by decide⟩ (fun w h Y => PySem.W.kIn_of Y) ?F (fun w H a ns hl hb hO hS => DL.law_sp hO hS (K34.run_law hl hb)) (fun _ _ _ _ _ h => h.elim fun _ h => h.elim fun _ h => h.elim fun _ h => h.elim fun _ h => h.elim fun _ h => h.2.2.2.2.2.2.2)
  case F =>
    intro w mg fa h KX G hmg
    refine' K34.all_mk KX G hmg ?a_l_deck ?l_l_deck ?c_l_deck ?k_l_deck ?a_l_draw ?l_l_draw ?c_l_draw ?k_l_draw ?a_l_flat_drawn ?l_l_flat_drawn ?c_l_flat_drawn ?k_l_flat_drawn ?a_l_net_drawn ?l_l_net_drawn ?c_l_net_drawn ?k_l_net_drawn ?a_l_drawn_beats ?l_l_drawn_beats ?c_l_drawn_beats ?k_l_drawn_beats ?a_l_stepped ?l_l_stepped ?c_l_stepped ?k_l_stepped ?a_l_gate_beats ?l_l_gate_beats ?c_l_gate_beats ?k_l_gate_beats ?a_told_of_feeds ?l_told_of_feeds ?c_told_of_feeds ?k_told_of_feeds ?a_gates_in_beat ?l_gates_in_beat ?c_gates_in_beat ?k_gates_in_beat ?a_in_bits ?l_in_bits ?c_in_bits ?k_in_bits ?a_gate_waves ?l_gate_waves ?c_gate_waves ?k_gate_waves ?a_law ?l_law ?c_law ?k_law ?z_list ?z_len ?z_range ?z_tuple ?z_int ?z_sorted ?z_enumerate ?z_dict ?z_zip ?z_repr
    (case a_l_deck => k_is)
    (case l_l_deck => k_is)
    (case c_l_deck => k_is)
    (case k_l_deck => k_is)
    (case a_l_draw => k_is)
    (case l_l_draw => k_is)
    (case c_l_draw => k_is)
    (case k_l_draw => k_is)
    (case a_l_flat_drawn => k_is)
    (case l_l_flat_drawn => k_is)
    (case c_l_flat_drawn => k_is)
    (case k_l_flat_drawn => k_is)
    (case a_l_net_drawn => k_is)
    (case l_l_net_drawn => k_is)
    (case c_l_net_drawn => k_is)
    (case k_l_net_drawn => k_is)
    (case a_l_drawn_beats => k_is)
    (case l_l_drawn_beats => k_is)
    (case c_l_drawn_beats => k_is)
    (case k_l_drawn_beats => k_is)
    (case a_l_stepped => k_is)
    (case l_l_stepped => k_is)
    (case c_l_stepped => k_is)
    (case k_l_stepped => k_is)
    (case a_l_gate_beats => k_is)
    (case l_l_gate_beats => k_is)
    (case c_l_gate_beats => k_is)
    (case k_l_gate_beats => k_is)
    (case a_told_of_feeds => k_is)
    (case l_told_of_feeds => k_is)
    (case c_told_of_feeds => k_is)
    (case k_told_of_feeds => k_is)
    (case a_gates_in_beat => k_is)
    (case l_gates_in_beat => k_is)
    (case c_gates_in_beat => k_is)
    (case k_gates_in_beat => k_is)
    (case a_in_bits => k_is)
    (case l_in_bits => k_is)
    (case c_in_bits => k_is)
    (case k_in_bits => k_is)
    (case a_gate_waves => k_is)
    (case l_gate_waves => k_is)
    (case c_gate_waves => k_is)
    (case k_gate_waves => k_is)
    (case a_law => k_is)
    (case l_law => k_is)
    (case c_law => k_is)
    (case k_law => k_is)
    (case z_list => k_is)
    (case z_len => k_is)
    (case z_range => k_is)
    (case z_tuple => k_is)
    (case z_int => k_is)
    (case z_sorted => k_is)
    (case z_enumerate => k_is)
    (case z_dict => k_is)
    (case z_zip => k_is)
    (case z_repr => k_is)

