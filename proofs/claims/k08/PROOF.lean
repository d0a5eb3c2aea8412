import PyProof.Rows.All
import Wide.All
import OpenK.AllK
import Wide.FinOn
import PyProof.EqAt
import PyProof.EqKinds
import PyProof.TupleCall
import HandS.ForMost
import HandS.ForExc
import HandS.Evl
import HandS.Steps
import HandS.Wide
import HandS.WideBits
import HandS.IsInst
import HandS.Defaults
import HandS.TryMany
import HandS.ExcField
import HandS.ExcIs
import HandS.ExcInit
import HandS.RaiseMore
import HandS.TupAny
import HandS.TupLe
import HandS.Style
import HandS.Flow
import HandS.ClsMeth
import KE.KExcIs
import HandS.Walk
import HandS.Ends
import HandS.Dict
import HandS.Small
import HandS.ExcOwn
import HandS.WordsDict
import HandS.Iter
import HandS.TupMul
import PySem.Challenge.RW_cordsounds_k08_shapes_by_their_gates
set_option Elab.async false
set_option linter.all false
set_option maxRecDepth 100000
set_option maxHeartbeats 4000000
namespace Gx
open PySem PySem.Spec PyProof.Rows L2

/-! ### defs that are called where no repr is under way -/
structure FnG (P : Program) (w : World) (K : PySem.W.Frag) (mg : Str → Option Value) (base : Heap) (CX : CXT) (k : Nat) (f : Addr) (fd : FuncData) (ps : List Str) (sp : Sp) : Prop where
  len : ∀ vs H Q E, sp vs H Q E → vs.length = ps.length
  go : ∀ (A : Around) (outer : List Env) (s : Shared) (H : Hp) (args : Args) (us : List Value) (vs : List V) (Q : VK) (E : XK),
    A.guards = some [] → Room k A → Env0 P w K mg base A outer s H → BindsTo s fd args (ps.zip us) →
    Vals vs us → sp vs H Q E → codeAny (model P w) A (.call (.ref f) args) (CR CX outer P w H s Q E) s
section
variable {P : Program} {w : World} {K : PySem.W.Frag} {mg : Str → Option Value} {base : Heap} {CX : CXT} {k : Nat} {f : Addr}
  {fd : FuncData} {ps : List Str} {sp : Sp}
theorem FnG.of (F : FnOk P w K mg base CX k f fd ps sp) : FnG P w K mg base CX k f fd ps sp :=
  ⟨F.len, fun A o s H args us vs Q E _ => F.run A o s H args us vs Q E⟩
theorem FnG.up (F : FnG P w K mg base CX k f fd ps sp) {j : Nat} (h : k ≤ j) : FnG P w K mg base CX j f fd ps sp :=
  ⟨F.len, fun A o s H args us vs Q E g hr => F.go A o s H args us vs Q E g (hr.mono h)⟩
/-- a def of the text by its body's reading -/
theorem fnG {x qual : Str} {st : Stmt} {N : List Str} (F : Fun K x qual st f fd) (S : FnScope N ps (defScope st)) (len : ∀ vs H Q E, sp vs H Q E → vs.length = ps.length)
    (body : ∀ (cdv : Value) (A : Around) (outer : List Env) (s : Shared) (H : Hp) (vs : List V) (Q : VK) (E : XK),
      A.guards = some [] → Room k (A.deeper (envOfC qual (defScope st) s.heap.objs.size f cdv)) → sp vs H Q E →
      ∃ t, PSs (cxOf CX P w K mg base N qual (defScope st) f cdv A outer s H E) (defBody st) t ∧
        t { nx := fun _ H' => Q .non H', rt := Q } (start N vs) H) :
    FnG P w K mg base CX (k + 1) f fd ps sp := by
  obtain ⟨oc, od, kV, doc, pm, an, cdv, ct, osl, rfl, lk, hcd⟩ := F.ex
  refine ⟨len, fun A outer s H args us vs Q E hg hr e0 hb r hsp => ?_⟩
  have keep := fun b o e => (e0.bs b o e).1
  refine Att.call_fn (e0.mod.kin.keeps keep) (e0.mod.nolimit.keeps keep) lk hcd hr.depth hb ?_ (fun s1 x => ?_) S.co S.gen S.kind
  · rw [List.all_eq_true]
    rintro ⟨n, v⟩ hy
    rcases S.par n (List.of_mem_zip hy).1 with q | q <;> simp [q]
  · obtain ⟨t, ht, hq⟩ := body cdv A outer s H vs Q E hg (hr.deeper _) hsp
    have I := inv_start (CX := CX) (E := E) S hr.hd e0 (len _ _ _ _ hsp) r x
    refine wpAny_mono (ht.run [] s1 (start N vs) H _ I hq) ?_ (fun e s' z => z)
    intro fl s' hs
    cases fl with
    | ret u =>
      obtain ⟨v, _, H', J, rv, q⟩ := hs
      exact ⟨v, H', J.os, J.bare, J.base, J.hok, rv, q⟩
    | next =>
      obtain ⟨_, H', J, q⟩ := hs
      exact ⟨.non, H', J.os, J.bare, J.base, J.hok, rfl, q⟩
    | brk => exact hs.elim fun _ z => z.elim fun _ z => z.2.elim
    | cont => exact hs.elim fun _ z => z.elim fun _ z => z.2.elim
end

/-! ### calls of module functions -/
/-- a def of the module as its callers see it -/
structure Cal (P : Program) (w : World) (K : PySem.W.Frag) (mg : Str → Option Value) (base : Heap) (CX : CXT) (k : Nat) (x : Str) (ps : List Str) (sp : Sp) : Prop where
  ex : ∃ f fd, FnG P w K mg base CX k f fd ps sp ∧ mg x = some (.ref f) ∧ PySem.W.keepIn K (.ref f) = true ∧ Binds K fd ps []
/-- the same with keywords: ks the names as they are written, g puts their values into the parameters' order -/
structure CalK (P : Program) (w : World) (K : PySem.W.Frag) (mg : Str → Option Value) (base : Heap) (CX : CXT) (k : Nat) (x : Str) (ps : List Str) (sp : Sp) (ks : List Str) (gV : List V → List V → List V) : Prop where
  ex : ∃ f fd g, FnG P w K mg base CX k f fd ps sp ∧ mg x = some (.ref f) ∧ PySem.W.keepIn K (.ref f) = true ∧ KBinds K fd ps ks g gV
def tG (sp : Sp) (E : L2.St → XK) (t : TA) : TE := fun σ H Q => t σ H fun vs H1 => sp vs H1 Q (E σ)
def tK (sp : Sp) (gV : List V → List V → List V) (E : L2.St → XK) (t : TA) : TE := fun σ H Q => t σ H fun zs H1 => sp (gV [] zs) H1 Q (E σ)
section
variable {X : Cx} {CX : CXT} {k : Nat} {ps ks : List Str} {sp : Sp} {x : Str} {p pos : Pos} {e : Expr} {es : List Expr} {kws : List Keyword} {t : TA} {E : L2.St → XK}
theorem pe_g (C : Cal X.prog X.w X.K X.mg X.base CX k x ps sp) (hG : X.A.guards = some []) (hr : Room k X.A) (hx : ∀ σ, PassesAt CX X σ (E σ)) (ha : PA X (e :: es) t)
    (hg : Gl X x := by rfl) (hdb : (x == ("__debug__" : Str)) = false := by decide)
    (he : starEach (e :: es) X.env = (false, eval e X.env) :: starEach es X.env := by rfl)
    (hpl : (backTo pos (starEach es X.env)).any (·.1) = false := by rfl) : PE X (.Call (.Name x p) (e :: es) [] pos) (tG sp E t) := by
  obtain ⟨f, fd, F, hm, hk, hb⟩ := C.ex
  refine ⟨fun pins s σ H Q I h => wpAny_Call_Name_kw (ld_glob I hg hm ?_ hdb)⟩
  refine PySem.W.callWith_K (h₀ := X.base) I.ok.mod.kin hk ?_ he hpl
  refine thn (ha.run pos pins s σ H _ I h) ?_
  rintro us s1 ⟨vs, H1, I1, r, q⟩
  refine ⟨I1.kIn, ?_⟩
  have hl : us.length = ps.length := r.length.symm.trans (F.len _ _ _ _ q)
  have b := hb s1 us I1.kIn (by simpa using hl)
  rw [List.append_nil] at b
  refine wpAny_call (codeAny_mono (F.go X.A X.stack s1 H1 ⟨us, []⟩ us vs Q (E σ) hG hr I1.env0 b r q) ?_)
  intro r s' hq
  match r, hq with
  | .error e, hq => exact hx σ pins H1 s1 e s' I1 hq
  | .ok (.ret u), hq => exact I1.after hq
  | .ok .next, hq => exact hq.elim
  | .ok .brk, hq => exact hq.elim
  | .ok .cont, hq => exact hq.elim
theorem pe_k {gV : List V → List V → List V} (C : CalK X.prog X.w X.K X.mg X.base CX k x ps sp ks gV) (hG : X.A.guards = some []) (hr : Room k X.A) (hx : ∀ σ, PassesAt CX X σ (E σ)) (hkw : PK X kws t)
    (hg : Gl X x := by rfl) (hall : (backToKw pos (keywordEach kws X.env)).all (·.1.isSome) = true := by rfl)
    (hks : (backToKw pos (keywordEach kws X.env)).filterMap (·.1) = ks := by rfl) (hdb : (x == ("__debug__" : Str)) = false := by decide)
    (hpl : ((backTo pos (starEach [] X.env)).any (·.1) || (backToKw pos (keywordEach kws X.env)).any (·.1.isNone)) = false := by rfl) :
    PE X (.Call (.Name x p) [] kws pos) (tK sp gV E t) := by
  obtain ⟨f, fd, g, F, hm, hk, hb⟩ := C.ex
  refine ⟨fun pins s σ H Q I h => wpAny_Call_Name_kw (ld_glob I hg hm ?_ hdb)⟩
  refine PySem.W.callWith_KW0 (h₀ := X.base) I.ok.mod.kin hk hall ?_ hpl
  refine thn (hkw.run pos pins s σ H _ I h) ?_
  rintro ws s1 ⟨zs, H1, I1, rz, q⟩
  refine ⟨I1.kIn, ?_⟩
  rw [hks]
  have r2 := hb.rel (vs := []) (us := []) .nil rz
  have hl : (g [] ws).length = ps.length := r2.length.symm.trans (F.len _ _ _ _ q)
  refine wpAny_call (codeAny_mono (F.go X.A X.stack s1 H1 ⟨[], ks.zip ws⟩ (g [] ws) _ Q (E σ) hG hr I1.env0 (hb.to s1 [] ws I1.kIn hl) r2 q) ?_)
  intro r s' hq
  match r, hq with
  | .error e, hq => exact hx σ pins H1 s1 e s' I1 hq
  | .ok (.ret u), hq => exact I1.after hq
  | .ok .next, hq => exact hq.elim
  | .ok .brk, hq => exact hq.elim
  | .ok .cont, hq => exact hq.elim
theorem passS {σ : L2.St} : PassesAt (L2.CX X.prog X.w) X σ E0 := fun pins H s e s' I c => passL pins σ H s e s' I c
end

/-! ### what a value shows: repr -/
mutual
/-- v is the datum, over the tracked heap -/
def IsD (H : Hp) : PyData → V → Prop
  | .none, v => v = .non
  | .bool b, v => v = .bl b
  | .int i, v => v = .int i
  | .str x, v => v = .str x
  | .list ds, v => ∃ a xs, v = .ref a ∧ H a = some (.lst xs) ∧ AllD H ds xs
  | .tuple ds, v => ∃ a xs, v = .ref a ∧ H a = some (.tup xs) ∧ AllD H ds xs
  | .dict kvs, v => ∃ a es, v = .ref a ∧ H a = some (.dK es) ∧ DctD H kvs es
def AllD (H : Hp) : List PyData → List V → Prop
  | [], xs => xs = []
  | d :: ds, xs => ∃ x r, xs = x :: r ∧ IsD H d x ∧ AllD H ds r
def DctD (H : Hp) : List (PyData × PyData) → List (Key × V) → Prop
  | [], es => es = []
  | (k, d) :: r, es => ∃ y z es', es = (y, z) :: es' ∧ IsD H k (kV y) ∧ IsD H d z ∧ DctD H r es'
end
section
variable {P : Program} {w : World} {H : Hp} {h : Heap}
mutual
theorem reads_of (ok : HOk P w H h) : ∀ (d : PyData) (v : V) (u : Value), d.hasDict = false → IsD H d v → RelV v u → ∃ as, Reads h u d as
  | .none, v, u, _, i, r => by
    unfold IsD at i
    subst i
    obtain rfl : u = Value.none := r
    exact ⟨_, .none⟩
  | .bool b, v, u, _, i, r => by
    unfold IsD at i
    subst i
    obtain rfl : u = Value.bool b := r
    exact ⟨_, .bool b⟩
  | .int n, v, u, _, i, r => by
    unfold IsD at i
    subst i
    obtain ⟨t, rfl⟩ : ∃ t, u = Value.int n t := r
    exact ⟨_, .int n t⟩
  | .str x, v, u, _, i, r => by
    unfold IsD at i
    subst i
    obtain ⟨t, rfl⟩ : ∃ t, u = Value.str x t := r
    exact ⟨_, .str x t⟩
  | .list ds, v, u, hd, i, r => by
    unfold IsD at i
    obtain ⟨a, xs, rfl, ha, hs⟩ := i
    obtain rfl : u = Value.ref a := r
    obtain ⟨_, its, n, rv, ho⟩ : ObjOk P w H h a (.lst xs) := ok a _ ha
    obtain ⟨as, q⟩ := readsAll_of ok ds xs its (by simpa [PyData.hasDict] using hd) hs rv
    exact ⟨_, .list ho rfl rfl q⟩
  | .tuple ds, v, u, hd, i, r => by
    unfold IsD at i
    obtain ⟨a, xs, rfl, ha, hs⟩ := i
    obtain rfl : u = Value.ref a := r
    obtain ⟨_, its, rv, o, ho, hc, n, hdt⟩ : ObjOk P w H h a (.tup xs) := ok a _ ha
    obtain ⟨as, q⟩ := readsAll_of ok ds xs its (by simpa [PyData.hasDict] using hd) hs rv
    exact ⟨_, .tuple ho hc hdt q⟩
  | .dict kvs, v, u, hd, i, r => by simp [PyData.hasDict] at hd
theorem readsAll_of (ok : HOk P w H h) : ∀ (ds : List PyData) (xs : List V) (us : List Value), PyData.hasDictAll ds = false → AllD H ds xs → Vals xs us → ∃ as, ReadsAll h us ds as
  | [], xs, us, _, i, r => by
    unfold AllD at i
    subst i
    cases r
    exact ⟨_, .nil⟩
  | d :: ds, xs, us, hd, i, r => by
    unfold AllD at i
    obtain ⟨x, t, rfl, i1, i2⟩ := i
    cases r with
    | cons r1 r2 =>
      have hd' : d.hasDict = false ∧ PyData.hasDictAll ds = false := by simpa [PyData.hasDictAll] using hd
      obtain ⟨as, q1⟩ := reads_of ok d x _ hd'.1 i1 r1
      obtain ⟨bs, q2⟩ := readsAll_of ok ds t _ hd'.2 i2 r2
      exact ⟨_, .cons q1 q2⟩
end
end
end Gx
set_option linter.all false
set_option maxRecDepth 100000
set_option maxHeartbeats 4000000
namespace Gx
open PySem PySem.Spec PyProof.Rows L2
section
variable {X : Cx}
/-- what repr asks: the one value as a datum without dicts -/
def rShow : List V → Hp → VK → Prop := fun xs H Q => ∃ v d, xs = [v] ∧ IsD H d v ∧ d.hasDict = false ∧ d.showable = true ∧ d.depth ≤ 20 ∧ d.shown.length ≤ sizeLine ∧ Q (.str d.shown) H
theorem call_show (hG : X.A.guards = some []) (hu : X.A.units + 64 < cLine) : CallR X (.builtin "repr") rShow := by
  intro pins s σ H xs us Q I r h
  obtain ⟨v, d, rfl, hd, hn, hs, hp, hl, q⟩ := h
  obtain ⟨u, rfl, ru⟩ : ∃ u, us = [u] ∧ RelV v u := by
    cases r with
    | cons r1 r2 => cases r2; exact ⟨_, rfl, r1⟩
  have big : ∀ a, u = Value.ref a → wpAny (model X.prog X.w) X.A (call (.builtin "repr") [u]) (EP X pins σ Q) X.xe s := by
    rintro a rfl
    obtain ⟨as, rd⟩ := reads_of I.hok d v _ hn hd ru
    refine repr_of_reads' rd hs (PyData.noDict_hsm hn) hG (by omega) (fun _ _ z => z) ?_ hl
    intro h' t tk keep
    exact ⟨.str d.shown, H, I.kept (t' := tk) keep, ⟨t, rfl⟩, q⟩
  cases d with
  | none =>
    unfold IsD at hd
    subst hd
    obtain rfl : u = Value.none := ru
    exact PySem.P.repr_of_none ⟨.str _, H, I.tok _, ⟨_, rfl⟩, by simpa only [PyData.shown] using q⟩
  | bool b =>
    unfold IsD at hd
    subst hd
    obtain rfl : u = Value.bool b := ru
    refine PySem.P.repr_of_bool ⟨.str _, H, I.tok _, ⟨_, rfl⟩, ?_⟩
    simpa only [PyData.shown] using q
  | int i =>
    unfold IsD at hd
    subst hd
    obtain ⟨t, rfl⟩ : ∃ t, u = Value.int i t := ru
    have hz : i.natAbs.log2 < 1920 := by simpa [PyData.showable] using hs
    refine PySem.P.repr_of_int hz ⟨.str _, H, I.tok _, ⟨_, rfl⟩, ?_⟩
    simpa only [PyData.shown] using q
  | str x =>
    unfold IsD at hd
    subst hd
    obtain ⟨t, rfl⟩ : ∃ t, u = Value.str x t := ru
    have hl' : (reprText x).length ≤ sizeLine := by simpa only [PyData.shown] using hl
    refine PySem.P.repr_of_str ⟨.str _, H, I.tok _, ⟨_, rfl⟩, ?_⟩ hl'
    simpa only [PyData.shown] using q
  | list ds =>
    unfold IsD at hd
    obtain ⟨a, ys, rfl, _⟩ := hd
    exact big a ru
  | tuple ds =>
    unfold IsD at hd
    obtain ⟨a, ys, rfl, _⟩ := hd
    exact big a ru
  | dict kvs => simp [PyData.hasDict] at hn
end

/-! ### exceptions whose __init__ calls that of an own class above -/
/-- S.__init__ is ValueError's, S an own class -/
structure UpC (K : PySem.W.Frag) (mg : Str → Option Value) (x : Str) (S : Addr) : Prop where
  gl : mg x = some (.ref S)
  ga : PySem.W.specialIn K (.ref S) "__getattribute__" = some (some (.builtin "type.__getattribute__"))
  rd : PySem.W.readsIn K S (.type "type") = true
  vl : PySem.W.findCls K (.ref S) (.type "type") "__init__" = some (.val (.builtin "ValueError.__init__"))
section
variable {X : Cx} {x : Str} {S : Addr} {e : Expr} {es : List Expr} {ta : TA} {p1 p2 pos : Pos}
theorem pe_upinit {pl : Sem Bool} (U : UpC X.K X.mg x S) (ha : PA X (e :: es) ta) (hg : Gl X x := by rfl)
    (hc : eval (.Call (.Attribute (.Name x p1) "__init__" p2) (e :: es) [] pos) X.env = (do
      let o ← eval (.Name x p1) X.env
      standAt p2.atName
      let (f, first) ← holding [o] (getMethod o "__init__" pl)
      callWith pos f first (backTo pos (starEach (e :: es) X.env)) (backToKw pos (keywordEach [] X.env))) := by rfl)
    (hdb : (x == ("__debug__" : Str)) = false := by decide)
    (he : starEach (e :: es) X.env = (false, eval e X.env) :: starEach es X.env := by rfl)
    (hpl : (backTo pos (starEach es X.env)).any (·.1) = false := by rfl) :
    PE X (.Call (.Attribute (.Name x p1) "__init__" p2) (e :: es) [] pos) (tVeI X.K ta) := by
  refine ⟨fun pins s σ H Q I h => PySem.W.methodCall_KW (ld_glob I hg U.gl ?_ hdb) hc⟩
  refine PySem.W.method_cls I.kIn U.ga (PySem.W.cls_value I.kIn U.rd U.vl (by decide +kernel) ?_)
  show wpAny _ _ (callWith pos (Value.builtin "ValueError.__init__") [] (backTo pos (starEach (e :: es) X.env)) []) _ _ _
  refine PyProof.Rows.callWith_method1 (thn (ha.run pos pins _ σ H _ (I.tok _) h) ?_) he hpl
  rintro us s1 ⟨vs, H1, I1, r1, a, C, ws, rfl, hl, T, ea, q⟩
  cases r1 with
  | @cons _ u0 _ ur ra rest =>
    obtain rfl : u0 = Value.ref a := ra
    refine oinit_ok T I1 ea ?_ fun s' J => ⟨.non, H1, J, rfl, q⟩
    have := Paired.length rest
    rw [sizeLine_eq]
    omega
end
end Gx
set_option linter.all false
set_option maxRecDepth 100000
set_option maxHeartbeats 4000000
namespace Gx
open PySem PySem.Spec PyProof.Rows L2
/-! ### readings, step by step -/
section
variable {K : PySem.W.Frag} {σ : L2.St} {H : Hp} {Q : VK} {D : Ends} {ta tb tc te to ti : TE} {tt tu : TT} {t u : TS} {g : TG} {r r' : R2} {v x y : V} {i : Nat} {al : TA} {QB : Bool → Hp → Prop} {QL : List V → Hp → Prop} {QS : L2.St → Hp → Prop}
theorem r_var (h : σ[i]? = some (some v)) (q : Q v H) : tVar i σ H Q := ⟨v, h, q⟩
theorem r_c (q : Q v H) : tC v σ H Q := q
theorem r_op (h : ta σ H fun x H1 => tb σ H1 fun y H2 => r x y H2 Q) : tOp r ta tb σ H Q := h
theorem r_un {f : V → Hp → VK → Prop} (h : ta σ H fun x H1 => f x H1 Q) : tUn f ta σ H Q := h
theorem r_I0 {f : Int → Int → V} {a b : Int} (q : Q (f a b) H) : rI0 f (.int a) (.int b) H Q := ⟨a, b, rfl, rfl, q⟩
theorem r_I {C : Int → Int → Prop} {f : Int → Int → V} {a b : Int} (hc : C a b) (q : Q (f a b) H) : rI C f (.int a) (.int b) H Q := ⟨a, b, rfl, rfl, hc, q⟩
theorem r_fdivK {f : Int → Int → V} {a b : Int} (hc : decide (0 < b ∧ b < 1073741824) = true) (q : Q (f a b) H) : rI CDiv f (.int a) (.int b) H Q := ⟨a, b, rfl, rfl, (of_decide_eq_true hc : 0 < b ∧ b < 1073741824), q⟩
theorem r_modK {f : Int → Int → V} {a b : Int} (hc : decide (0 < b) = true) (q : Q (f a b) H) : rI (fun _ j => 0 < j) f (.int a) (.int b) H Q := ⟨a, b, rfl, rfl, of_decide_eq_true hc, q⟩
theorem r_mulL {f : Int → Int → V} {a b : Int} (hc : decide (-(2 ^ 64) < a ∧ a < 2 ^ 64) = true) (q : Q (f a b) H) : rI CMul f (.int a) (.int b) H Q := ⟨a, b, rfl, rfl, .inl (of_decide_eq_true hc), q⟩
theorem r_mulR {f : Int → Int → V} {a b : Int} (hc : decide (-(2 ^ 64) < b ∧ b < 2 ^ 64) = true) (q : Q (f a b) H) : rI CMul f (.int a) (.int b) H Q := ⟨a, b, rfl, rfl, .inr (of_decide_eq_true hc), q⟩
theorem r_powK {f : Int → Int → V} {a b : Int} (hc : decide (0 ≤ b ∧ b ≤ 1000000 ∧ a.natAbs < 2 ^ 64) = true) (q : Q (f a b) H) : rI CPow f (.int a) (.int b) H Q := ⟨a, b, rfl, rfl, (of_decide_eq_true hc : 0 ≤ b ∧ b ≤ 1000000 ∧ a.natAbs < 2 ^ 64), q⟩
theorem r_neg {f : Int → V} {a : Int} (q : Q (f a) H) : rU f (.int a) H Q := ⟨a, rfl, q⟩
theorem r_eq (hs : scal x y = true) (q : Q (.bl (decide (x = y))) H) : rEq x y H Q := ⟨hs, q⟩
theorem r_ne (hs : scal x y = true) (q : Q (.bl (!decide (x = y))) H) : rNe x y H Q := ⟨hs, q⟩
theorem r_test (h : ta σ H fun x H' => ∃ k, x = .bl k ∧ QB k H') : tTest ta σ H QB := h
theorem r_B (h : ta σ H fun x H' => ∃ k, x = .bl k ∧ QB k H') : L2.tB ta σ H QB := h
theorem r_bl {b : Bool} (q : QB b H) : ∃ k, V.bl b = V.bl k ∧ QB k H := ⟨b, rfl, q⟩
theorem r_blx {b : Bool} {X : Bool → Prop} (q : X b) : ∃ k, V.bl b = V.bl k ∧ X k := ⟨b, rfl, q⟩
theorem r_seq (h : t { D with nx := u D } σ H) : tSeq t u D σ H := h
theorem r_ret (h : te σ H D.rt) : tRet te D σ H := h
theorem r_asg (h : te σ H fun x H1 => g x σ H1 D.nx) : tAsg te g D σ H := h
theorem r_name (q : QS (σ.set i (some v)) H) : gName i v σ H QS := q
theorem r_gsub {ts : TSet} (h : to σ H fun o H1 => ti σ H1 fun j H2 => ts o j v H2 fun H3 => QS σ H3) : gSub to ti ts v σ H QS := h
theorem r_setL {p : Addr} {xs : List V} {j : Nat} {k : Int} {QH : Hp → Prop} (h : H p = some (.lst xs)) (hj : ixN xs.length k = some j) (q : QH (upd H p (.lst (xs.set j v)))) : rSetL (.ref p) (.int k) v H QH :=
  ⟨p, xs, k, j, rfl, rfl, h, hj, q⟩
theorem r_if (h : tt σ H fun b H1 => if b = true then t D σ H1 else u D σ H1) : tIfS tt t u D σ H := h
theorem r_next (q : D.nx σ H) : tNext D σ H := q
theorem r_drop (h : te σ H fun _ H1 => D.nx σ H1) : tDrop te D σ H := h
theorem r_cb {f : List V → Hp → VK → Prop} (h : al σ H fun vs H1 => f vs H1 Q) : tCB f al σ H Q := h
theorem r_nil (q : QL [] H) : tNil σ H QL := q
theorem r_cons (h : te σ H fun x H1 => al σ H1 fun xs H2 => QL (x :: xs) H2) : tCons te al σ H QL := h
theorem r_g {sp : Sp} {E : L2.St → XK} (h : al σ H fun vs H1 => sp vs H1 Q (E σ)) : tG sp E al σ H Q := h
theorem r_k {sp : Sp} {gV : List V → List V → List V} {E : L2.St → XK} (h : al σ H fun zs H1 => sp (gV [] zs) H1 Q (E σ)) : tK sp gV E al σ H Q := h
theorem r_lst (h : al σ H fun xs H1 => xs.length ≤ sizeLine ∧ ∀ p, H1 p = none → Q (.ref p) (upd H1 p (.lst xs))) : tLst al σ H Q := h
theorem r_tup (h : al σ H fun xs H1 => xs.length ≤ sizeLine ∧ ∀ p, H1 p = none → Q (.ref p) (upd H1 p (.tup xs))) : tTup al σ H Q := h
theorem r_new {xs : List V} {C : Addr → Prop} (hz : Nat.ble xs.length 1000 = true) (q : ∀ p, H p = none → C p) : xs.length ≤ sizeLine ∧ ∀ p, H p = none → C p := ⟨Nat.le_trans (Nat.le_of_ble_eq_true hz) (by decide), q⟩
theorem at_pos {α : Type} {xs : List α} {d : Int} (h0 : 0 ≤ d) (h : d.toNat < xs.length) : atI xs d = some xs[d.toNat] := by
  have q := atI_nat (xs := xs) (j := d.toNat) (v := xs[d.toNat]) (List.getElem?_eq_getElem h)
  rwa [Int.toNat_of_nonneg h0] at q
theorem r_ixL {p : Addr} {xs : List V} {a : Int} {j : Nat} (h : SqL K H p xs) (ha : a = (j : Int)) (hx : xs[j]? = some v) (q : Q v H) : rIxL K (.ref p) (.int a) H Q := ⟨p, xs, a, v, rfl, rfl, h, at_of ha hx, q⟩
theorem r_ixLs {p : Addr} {xs : List V} {a : Int} {j : Nat} (h : H p = some (.lst xs)) (ha : a = (j : Int)) (hx : xs[j]? = some v) (q : Q v H) : rIxL K (.ref p) (.int a) H Q := r_ixL (SqL.of h) ha hx q
theorem r_andV (h : ta σ H fun x H1 => ∃ c, x = .bl c ∧ if c = true then tb σ H1 Q else Q (.bl false) H1) : tAndV ta tb σ H Q := h
theorem r_orV (h : ta σ H fun x H1 => ∃ c, x = .bl c ∧ if c = true then Q (.bl true) H1 else tb σ H1 Q) : tOrV ta tb σ H Q := h
theorem r_notV (h : ta σ H fun x H1 => ∃ c, x = .bl c ∧ Q (.bl (!c)) H1) : tNotV ta σ H Q := h
theorem r_ifE (h : tt σ H fun c H1 => if c = true then ta σ H1 Q else tb σ H1 Q) : tIf tt ta tb σ H Q := h
theorem r_and (h : tt σ H fun b H1 => if b = true then tu σ H1 QB else QB false H1) : tAnd tt tu σ H QB := h
theorem r_or (h : tt σ H fun b H1 => if b = true then QB true H1 else tu σ H1 QB) : tOr tt tu σ H QB := h
theorem r_not (h : tt σ H fun b H1 => QB (!b) H1) : tNot tt σ H QB := h
theorem r_chain (h : ta σ H fun x H1 => tb σ H1 fun y H2 => r x y H2 fun z H3 => ∃ k, z = .bl k ∧ (if k = true then tc σ H3 fun w H4 => r' y w H4 Q else Q (.bl false) H3)) : tChain r r' ta tb tc σ H Q := h
theorem r_sl {f : V → Option Int → Option Int → Hp → VK → Prop} {tl th : TO} (h : te σ H fun x H1 => tl σ H1 fun l H2 => th σ H2 fun u H3 => f x l u H3 Q) : tSl f te tl th σ H Q := h
theorem r_part {QO : Option Int → Hp → Prop} (h : te σ H fun x H1 => ∃ i, x = .int i ∧ QO (some i) H1) : tPart te σ H QO := h
theorem r_nop {QO : Option Int → Hp → Prop} (h : QO none H) : tNoPart σ H QO := h
theorem r_nx {a b c : L2.St → Hp → Prop} {d : VK} (q : a σ H) : (Ends.mk a d b c).nx σ H := q
theorem r_rt {a b c : L2.St → Hp → Prop} {d : VK} (q : d v H) : (Ends.mk a d b c).rt v H := q
theorem r_ct {a b c : L2.St → Hp → Prop} {d : VK} (q : c σ H) : (Ends.mk a d b c).ct σ H := q
theorem r_ei {b : Int} {X : Int → Prop} (q : X b) : ∃ k, V.int b = V.int k ∧ X k := ⟨b, rfl, q⟩
end
/-! ### the box -/
/-- a box that was drawn from n times at most stands at b -/
def Bx (n : Nat) (H : Hp) (b : Addr) : Prop := ∃ x y z : Int, H b = some (.lst [.int x, .int y, .int z]) ∧ 0 ≤ x ∧ 0 ≤ y ∧ y < 2147483648 ∧ 0 ≤ z ∧ z ≤ (n : Int)
/-- all but b stands as it stood -/
def Off (b : Addr) (H H' : Hp) : Prop := ∀ c o, c ≠ b → H c = some o → H' c = some o
theorem Off.refl {b : Addr} {H : Hp} : Off b H H := fun _ _ _ h => h
theorem Off.trans {b : Addr} {H H1 H2 : Hp} (p : Off b H H1) (q : Off b H1 H2) : Off b H H2 := fun c o n h => q c o n (p c o n h)
theorem Off.upd {b : Addr} {H : Hp} {o : HO} : Off b H (upd H b o) := fun c u n h => by rw [upd_ne n]; exact h
theorem Off.new {b p : Addr} {H : Hp} {o : HO} (h : H p = none) : Off b H (L2.upd H p o) := fun c u n hc => by
  rw [upd_ne (ne_of_none hc h)]
  exact hc
theorem Bx.new {n : Nat} {b p : Addr} {H : Hp} {o : HO} (B : Bx n H b) (h : H p = none) : Bx n (upd H p o) b := by
  obtain ⟨x, y, z, hb, r⟩ := B
  exact ⟨x, y, z, by rw [upd_ne (ne_of_none hb h)]; exact hb, r⟩
theorem Bx.ne {n : Nat} {H : Hp} {b p : Addr} (B : Bx n H b) (h : H p = none) : p ≠ b := fun z => by
  obtain ⟨_, _, _, hb, _⟩ := B
  rw [z, hb] at h
  cases h
theorem Bx.up {n m : Nat} {b : Addr} {H : Hp} (B : Bx n H b) (h : n ≤ m) : Bx m H b := by
  obtain ⟨x, y, z, hb, r1, r2, r3, r4, r5⟩ := B
  exact ⟨x, y, z, hb, r1, r2, r3, r4, by omega⟩
/-- a draw: a number below size, the box drawn from once more -/
def spTake : Sp := fun vs H Q _ => ∃ (b : Addr) (size : Int) (n : Nat), vs = [.ref b, .int size] ∧ 0 < size ∧ size < 2 ^ 200 ∧ Bx n H b ∧ n < 100000 ∧
  ∀ (d : Int) (H' : Hp), 0 ≤ d → d < size → Bx (n + 1) H' b → Off b H H' → Q (.int d) H'
end Gx
set_option linter.all false
set_option maxRecDepth 100000
set_option maxHeartbeats 4000000
namespace Gx
open PySem PySem.Spec PyProof.Rows L2
/-! ### a constant of the module; a built-in name -/
theorem pe_gc {X : Cx} {x : Str} {v : V} {pos : Pos} (h : ∃ u, X.mg x = some u ∧ RelV v u) (hg : Gl X x := by rfl) (hd : (x == ("__debug__" : Str)) = false := by decide) : PE X (.Name x pos) (tC v) := by
  obtain ⟨u, hm, r⟩ := h
  exact pe_glob hg hm r hd
theorem pe_tyn {X : Cx} {x : Str} {pos : Pos} (T : String) (hm : X.mg x = none) (hv : bootBuiltins x = some (.type T)) (hg : Gl X x := by rfl) (hn : x ≠ "__name__" := by decide) (hd : (x == ("__debug__" : Str)) = false := by decide) : PE X (.Name x pos) (tC (.ty T)) :=
  pe_bltn hg hm hv rfl hn hd
/-! ### isinstance, exceptions of own classes among the values -/
/-- at a an exception of the class C, made, with its own dict -/
def XAt (K : PySem.W.Frag) (H : Hp) (a C : Addr) : Prop := ∃ d fs, H a = some (exo a C (some d)) ∧ H d = some (exd d fs) ∧ ExcC K C
/-- whether v is an instance of the built-in type T -/
def IsI (K : PySem.W.Frag) (H : Hp) (v : V) (T : String) (b : Bool) : Prop :=
  (∃ t, TyX K H v t ∧ PySem.W.kitOne K t (.type T) = some b) ∨ ∃ a C, v = .ref a ∧ XAt K H a C ∧ PySem.W.kitOne K (.ref C) (.type T) = some b
def rIs2 (K : PySem.W.Frag) : List V → Hp → VK → Prop := fun xs H Q => ∃ v T b, xs = [v, .ty T] ∧ IsI K H v T b ∧ Q (.bl b) H
theorem call_is2 {X : Cx} : CallR X (.builtin "isinstance") (rIs2 X.K) := by
  intro pins s σ H xs us Q I r h
  obtain ⟨v, T, b, rfl, hi, q⟩ := h
  rcases hi with ⟨t, ty, e⟩ | ⟨a, C, rfl, ⟨d, fs, ha, hd, ec⟩, e⟩
  · exact call_isi pins s σ H _ us Q I r ⟨v, .ty T, t, .type T, b, rfl, .ty T, ty, e, q⟩
  · cases r with
    | cons r1 r2 =>
      cases r2 with
      | cons r2 r3 =>
        cases r3
        rename_i u1 u2
        obtain rfl : u1 = Value.ref a := r1
        obtain rfl : u2 = Value.type T := r2
        obtain ⟨t0, ho⟩ := exo_at I.hok ha
        obtain ⟨mA, hns, _⟩ := exd_at I.hok hd
        obtain ⟨od, es, ep, hod, _⟩ := hns
        have J : PySem.W.InstAt s.heap a _ C (some od) := ⟨ho, rfl, rfl, hod⟩
        exact PySem.W.kia_one (PySem.W.kitx_exc (od := some od) (by obtain ⟨cd, hc, _⟩ := PySem.W.any_some ec.hd; rw [hc]; rfl) ec.hg ec.hk ec.hs ec.ha ec.hn ec.ht ec.hm)
          I.kIn J e (fun z => nomatch z) fun tk => ⟨.bl b, H, I.tok tk, rfl, q⟩
/-- of the built-in kinds -/
theorem isI_ty {K : PySem.W.Frag} {H : Hp} {v : V} {t T : String} {b : Bool} (h : TyX K H v (.type t)) (e : kitB t T = some b) : IsI K H v T b := .inl ⟨_, h, kit_ty e⟩
theorem isI_int {K : PySem.W.Frag} {H : Hp} {i : Int} {T : String} {b : Bool} (e : kitB "int" T = some b) : IsI K H (.int i) T b := isI_ty (.base (.int i)) e
theorem isI_bl {K : PySem.W.Frag} {H : Hp} {i : Bool} {T : String} {b : Bool} (e : kitB "bool" T = some b) : IsI K H (.bl i) T b := isI_ty (.base (.bl i)) e
theorem isI_str {K : PySem.W.Frag} {H : Hp} {i : Str} {T : String} {b : Bool} (e : kitB "str" T = some b) : IsI K H (.str i) T b := isI_ty (.base (.str i)) e
theorem isI_non {K : PySem.W.Frag} {H : Hp} {T : String} {b : Bool} (e : kitB "NoneType" T = some b) : IsI K H .non T b := isI_ty (.base .non) e
theorem isI_lst {K : PySem.W.Frag} {H : Hp} {a : Addr} {xs : List V} {T : String} {b : Bool} (h : H a = some (.lst xs)) (e : kitB "list" T = some b) : IsI K H (.ref a) T b := isI_ty (.base (.lst h)) e
theorem isI_tup {K : PySem.W.Frag} {H : Hp} {a : Addr} {xs : List V} {T : String} {b : Bool} (h : H a = some (.tup xs)) (e : kitB "tuple" T = some b) : IsI K H (.ref a) T b := isI_ty (.base (.tup h)) e
theorem isI_dct {K : PySem.W.Frag} {H : Hp} {a : Addr} {xs : List (Key × V)} {T : String} {b : Bool} (h : H a = some (.dK xs)) (e : kitB "dict" T = some b) : IsI K H (.ref a) T b := isI_ty (.base (.dK h)) e
/-! ### an exception of an own class, its __init__ a def of the text -/
/-- self, found: what __init__ leaves -/
def spEI (K : PySem.W.Frag) (C : Addr) (fld : Str) : Sp := fun vs H Q _ => ∃ a v, vs = [.ref a, v] ∧ OexC K C ∧ PySem.W.findIn K (.ref C) fld = some none ∧ H a = some (exo a C none) ∧
  ∀ d, H d = none → d ≠ a → Q .non (upd (upd H d (exd d [(fld, v)])) a (exo a C (some d)))
/-- C(e) as a value -/
def tMkV (C : Addr) (sp : Sp) (ta : TA) : TE := fun σ H Q => ta σ H fun vs H1 => vs.length ≤ 1000 ∧ ∀ a, H1 a = none → sp (.ref a :: vs) (upd H1 a (exo a C none)) (fun v H2 => v = .non ∧ Q (.ref a) H2) E0
/-- a class of exceptions with its own __init__ as its makers see it -/
structure MkX (P : Program) (w : World) (K : PySem.W.Frag) (mg : Str → Option Value) (base : Heap) (k : Nat) (x : Str) (C : Addr) (fld : Str) : Prop where
  oex : OexC K C
  gl : mg x = some (.ref C)
  no : PySem.W.findIn K (.ref C) fld = some none
  ex : ∃ fI fd, PySem.W.findIn K (.ref C) "__init__" = some (some (.ref fI)) ∧ PySem.W.typeIn K (.ref fI) = some (.type "function") ∧ FnOk P w K mg base CX0 k fI fd ["self", fld] (spEI K C fld) ∧ Binds K fd ["self", fld] []
section
variable {X : Cx} {k : Nat} {x : Str} {C : Addr} {fld : Str} {e : Expr} {es : List Expr} {ta : TA} {p pos : Pos}
theorem pe_mkV (M : MkX X.prog X.w X.K X.mg X.base k x C fld) (hr : Room (k + 1) X.A) (ha : PA X (e :: es) ta) (hg : Gl X x := by rfl)
    (hdb : (x == ("__debug__" : Str)) = false := by decide) (he : starEach (e :: es) X.env = (false, eval e X.env) :: starEach es X.env := by rfl) (hpl : (backTo pos (starEach es X.env)).any (·.1) = false := by rfl) :
    PE X (.Call (.Name x p) (e :: es) [] pos) (tMkV C (spEI X.K C fld) ta) := by
  obtain ⟨fI, fd, iC, tI, F1, hb⟩ := M.ex
  obtain ⟨nm, q, N, bs, bm, sn, sub, ab, col, dd, k0, k1, k2, k3, k5, hC, hbm⟩ := M.oex.cls
  refine ⟨fun pins s σ H Q I h => wpAny_Call_Name_kw (ld_glob I hg M.gl ?_ hdb)⟩
  refine PySem.W.callWith_K (h₀ := X.base) I.ok.mod.kin M.oex.kC ?_ he hpl
  refine thn (ha.run pos pins s σ H _ I h) ?_
  rintro us s1 ⟨vs, H1, I1, r1, hz, q1⟩
  refine ⟨I1.kIn, ?_⟩
  show wpAny _ _ (call (.ref C) us) _ _ _
  obtain ⟨hp, g, dr, tk, os⟩ := s1
  have hn : H1 (hp.objs.size + 1) = none := I1.hok.fresh (Nat.le_succ _)
  have hq := q1 _ hn
  have new : ((hp.push (PySem.W.kdv_tup us)).push (PySem.HandSPX.excO C hp.objs.size)).get? (hp.objs.size + 1) = some (PySem.HandSPX.excO C hp.objs.size) := by heap_get
  have I2 : Inv X pins σ (upd H1 (hp.objs.size + 1) (exo (hp.objs.size + 1) C none)) ⟨(hp.push (PySem.W.kdv_tup us)).push (PySem.HandSPX.excO C hp.objs.size), g, dr, tk, os⟩ :=
    I1.laid (t' := tk) (fun b o z => Heap.get?_push_of_some _ (Heap.get?_push_of_some _ z)) (Nat.le_succ _) (exo_ok new)
  have r2 : Vals (V.ref (hp.objs.size + 1) :: vs) (Value.ref (hp.objs.size + 1) :: us) := .cons rfl r1
  have hl := r2.length.symm.trans (F1.len _ _ _ _ hq)
  have b2 := hb _ (Value.ref (hp.objs.size + 1) :: us) I2.kIn (by simpa using hl)
  rw [List.append_nil] at b2
  have hus : us.length ≤ sizeLine := by
    rw [← Paired.length r1, sizeLine_eq]
    omega
  refine wpAny_call (PySem.HandSPX.call_own F.excBase_ValueError (fun Y => PySem.HandSPX.refsVE_contains Y bm hbm) (I1.kIn _ _ hC) (PySem.W.looks_findIn I1.kIn iC) (fun self => PySem.W.bind_fn I1.kIn self tI) hus ?_)
  refine codeAny_mono (F1.run _ X.stack _ _ ⟨_, []⟩ _ _ _ _ (hr.make C us []) (I2.env0.make C us []) b2 r2 hq) ?_
  intro r s' hq'
  match r, hq' with
  | .error e, z => exact z.elim
  | .ok (.ret u), z =>
    obtain ⟨v, H', I3, rv, ev, q3⟩ := I2.after z
    subst ev
    exact ⟨rv, .ref (hp.objs.size + 1), H', I3, rfl, q3⟩
  | .ok .next, z => exact z.elim
  | .ok .brk, z => exact z.elim
  | .ok .cont, z => exact z.elim
end
/-! ### the defs of the module, as the top has left them -/
structure DefIn (K : PySem.W.Frag) (mg : Str → Option Value) (x : Str) (st : Stmt) : Prop where
  ex : ∃ f fd, Fun K x x st f fd ∧ mg x = some (.ref f)
theorem defIn {K : PySem.W.Frag} {h : Heap} {mg : Str → Option Value} {x : Str} {st : Stmt} (X : K.In h) (G : h.Ns mainGlobals mg)
    {f : Addr} {oc : Value} {od an : Option Addr} {osl : Array (Option Value)} {kV doc pm cdv ct : Value}
    (a : PySem.W.nsIn K mainGlobals x = some (some (.ref f)))
    (l : K.lookup f = some ⟨oc, od, .func (PySem.W.fnOf x x (defArgs st) (defBody st) (defScope st) .none kV doc pm an cdv ct), osl⟩)
    (c : PySem.W.codeIn K cdv x = true) (k : PySem.W.keepIn K (.ref f) = true) : DefIn K mg x st :=
  ⟨f, _, fun_mk l c k, PySem.W.mg_of X G a⟩
section
variable {P : Program} {w : World} {K : PySem.W.Frag} {mg : Str → Option Value} {base : Heap} {CX : CXT} {k : Nat} {x : Str} {st : Stmt} {ps ks : List Str} {sp : Sp}
theorem DefIn.cal (D : DefIn K mg x st) (ok : ∀ {f fd}, Fun K x x st f fd → FnG P w K mg base CX k f fd ps sp)
    (h : ∀ (kV doc pm : Value) (an : Option Addr) (cdv ct : Value) (us : List Value), us.length = ps.length → bindArgs (PySem.W.fnOf x x (defArgs st) (defBody st) (defScope st) .none kV doc pm an cdv ct) ⟨us, []⟩ = pure (ps.zip us)) :
    Cal P w K mg base CX k x ps sp := by
  obtain ⟨f, fd, F, hm⟩ := D.ex
  exact ⟨f, fd, ok F, hm, F.kp, F.binds h⟩
theorem DefIn.calk (D : DefIn K mg x st) (ok : ∀ {f fd}, Fun K x x st f fd → FnG P w K mg base CX k f fd ps sp) (g : List Value → List Value → List Value) (gV : List V → List V → List V)
    (h : ∀ (kV doc pm : Value) (an : Option Addr) (cdv ct : Value) (us ws : List Value), (g us ws).length = ps.length → bindArgs (PySem.W.fnOf x x (defArgs st) (defBody st) (defScope st) .none kV doc pm an cdv ct) ⟨us, ks.zip ws⟩ = pure (ps.zip (g us ws)))
    (rel : ∀ {vs : List V} {us : List Value} {zs : List V} {ws : List Value}, Vals vs us → Vals zs ws → Vals (gV vs zs) (g us ws)) :
    CalK P w K mg base CX k x ps sp ks gV := by
  obtain ⟨f, fd, F, hm⟩ := D.ex
  obtain ⟨oc, od, kV, doc, pm, an, cdv, ct, osl, e, _, _⟩ := F.ex
  refine ⟨f, fd, g, ok F, hm, F.kp, ⟨fun s us ws _ hl => ?_, rel⟩⟩
  subst e
  exact .of_eq (h kV doc pm an cdv ct us ws hl)
end
/-- one, two, three keywords and nothing else, put into order -/
def k1 {α : Type} : List α → List α → List α
  | [], [a] => [a]
  | _, _ => []
def k2 {α : Type} : List α → List α → List α
  | [], [a, b] => [b, a]
  | _, _ => []
def k3 {α : Type} : List α → List α → List α
  | [], [a, b, c] => [c, b, a]
  | _, _ => []
theorem k1_rel {vs : List V} {us : List Value} {zs : List V} {ws : List Value} : Vals vs us → Vals zs ws → Vals (k1 vs zs) (k1 us ws)
  | .nil, .nil => .nil
  | .nil, .cons a .nil => .cons a .nil
  | .nil, .cons _ (.cons _ _) => .nil
  | .cons _ _, _ => .nil
theorem k2_rel {vs : List V} {us : List Value} {zs : List V} {ws : List Value} : Vals vs us → Vals zs ws → Vals (k2 vs zs) (k2 us ws)
  | .nil, .nil => .nil
  | .nil, .cons a .nil => .nil
  | .nil, .cons a (.cons b .nil) => .cons b (.cons a .nil)
  | .nil, .cons _ (.cons _ (.cons _ _)) => .nil
  | .cons _ _, _ => .nil
theorem k3_rel {vs : List V} {us : List Value} {zs : List V} {ws : List Value} : Vals vs us → Vals zs ws → Vals (k3 vs zs) (k3 us ws)
  | .nil, .nil => .nil
  | .nil, .cons _ .nil => .nil
  | .nil, .cons _ (.cons _ .nil) => .nil
  | .nil, .cons a (.cons b (.cons c .nil)) => .cons c (.cons b (.cons a .nil))
  | .nil, .cons _ (.cons _ (.cons _ (.cons _ _))) => .nil
  | .cons _ _, _ => .nil
/-! ### texts, tuples of targets -/
section
variable {σ : L2.St} {H : Hp} {Q : VK} {D : Ends} {al : TA} {te to : TE} {i j l : Nat} {u v w : V} {z y : Str} {lo hi : Option Int}
theorem r_par3 (h : al σ H fun vs H1 => ∃ u v w, vs = [u, v, w] ∧ D.nx (((σ.set i (some u)).set j (some v)).set l (some w)) H1) : tPar3 i j l al D σ H := h
theorem r_is3 {C : V → V → V → Prop} (q : C u v w) : ∃ a b c, [u, v, w] = [a, b, c] ∧ C a b c := ⟨u, v, w, rfl, q⟩
theorem r_par2 (h : al σ H fun vs H1 => ∃ u v, vs = [u, v] ∧ D.nx ((σ.set i (some u)).set j (some v)) H1) : tPar i j al D σ H := h
theorem r_is2 {C : V → V → Prop} (q : C u v) : ∃ a b, [u, v] = [a, b] ∧ C a b := ⟨u, v, rfl, q⟩
theorem r_lenS {C : Str → Prop} (h : z.length ≤ 100000) (q : C z) : ∃ a, [V.str z] = [V.str a] ∧ a.length ≤ sizeLine ∧ C a := ⟨z, rfl, Nat.le_trans h (by decide), q⟩
theorem r_addS {C : Str → Str → Prop} (h : z.length + y.length ≤ 100000) (q : C z y) : ∃ a b, V.str z = .str a ∧ V.str y = .str b ∧ a.length + b.length ≤ sizeLine ∧ C a b := ⟨z, y, rfl, rfl, Nat.le_trans h (by decide), q⟩
theorem r_slS (h : z.length ≤ 100000) (q : Q (.str (cutS z lo hi)) H) : rSlS (.str z) lo hi H Q := ⟨z, rfl, Nat.le_trans h (by decide), q⟩
theorem r_m0 {f : V → List V → Hp → VK → Prop} (h : to σ H fun x H1 => (∃ a, x = .str a) ∧ f x [] H1 Q) : tM0 f to σ H Q := h
theorem app_len (a b : Str) : (a ++ b).length = a.length + b.length := PySem.Str.length_append a b
end
/-- signs below 128 alone -/
def Asc (z : Str) : Prop := ∀ c ∈ z.cps.toList, c < 128
theorem asc_app {a b : Str} (ha : Asc a) (hb : Asc b) : Asc (a ++ b) := fun c h => by
  rw [PySem.Str.cps_append, Array.toList_append] at h
  rcases List.mem_append.mp h with h | h
  · exact ha c h
  · exact hb c h
theorem asc_cut {z : Str} (h : Asc z) (lo hi : Option Int) : Asc (cutS z lo hi) := fun c hc => h c (List.mem_of_mem_drop (List.mem_of_mem_take hc))
theorem asc_upper {z : Str} (h : Asc z) : Asc (Txt.upper z) := fun c hc => by
  rw [PyProof.Rows.upper_ascii h] at hc
  obtain ⟨d, hd, rfl⟩ : ∃ d ∈ z.cps.toList, PyProof.Rows.up1 d = c := by simpa using hc
  have := h d hd
  unfold PyProof.Rows.up1
  split <;> omega
theorem asc_one {c : Nat} (h : c < 128) : Asc ⟨#[c]⟩ := fun d hd => by
  obtain rfl : d = c := by simpa using hd
  exact h
theorem asc_of {z : Str} (h : z.cps.toList.all (fun c => decide (c < 128)) = true) : Asc z := fun c hc => of_decide_eq_true (List.all_eq_true.mp h c hc)
/-! ### tests and comprehensions, further -/
theorem iteNF {A B : Prop} (h : A) : if (!false) = true then A else B := h
theorem iteNT {A B : Prop} (h : B) : if (!true) = true then A else B := h
theorem iteDec {p A B : Prop} [Decidable p] (h : p) (q : A) : if decide p = true then A else B := by
  rw [decide_eq_true h]
  exact iteT q
theorem iteNE {x y : V} {A B : Prop} (e : x = y) (h : B) : if (!decide (x = y)) = true then A else B := by
  rw [decide_eq_true e]
  exact iteF h
theorem iteE {x y : V} {A B : Prop} (e : x = y) (h : A) : if decide (x = y) = true then A else B := by
  rw [decide_eq_true e]
  exact iteT h
theorem iteAnd {a c : Bool} {H : Hp} {Q : VK} {X : Prop} (h : a = true → Q (.bl c) H → X) (q : Q (.bl (a && c)) H) : if a = true then X else Q (.bl false) H := by
  cases a with
  | true => exact iteT (h rfl q)
  | false => exact iteF q
theorem r_and2 {σ : L2.St} {H : Hp} {Q : VK} {ta tb : TE} (a c : Bool) (ha : ∀ R : VK, R (.bl a) H → ta σ H R) (hb : a = true → ∀ R : VK, R (.bl c) H → tb σ H R) (q : Q (.bl (a && c)) H) : tAndV ta tb σ H Q := by
  refine ha _ ⟨a, rfl, ?_⟩
  cases a with
  | true => exact iteT (hb rfl Q q)
  | false => exact iteF q
theorem r_or2 {σ : L2.St} {H : Hp} {Q : VK} {ta tb : TE} (a c : Bool) (ha : ∀ R : VK, R (.bl a) H → ta σ H R) (hb : a = false → ∀ R : VK, R (.bl c) H → tb σ H R) (q : Q (.bl (a || c)) H) : tOrV ta tb σ H Q := by
  refine ha _ ⟨a, rfl, ?_⟩
  cases a with
  | true => exact iteT q
  | false => exact iteF (hb rfl Q q)
def isIntV : V → Bool
  | .int _ => true
  | _ => false
/-- an item of a written list of ints at an open place -/
theorem r_ixI {K : PySem.W.Frag} {H : Hp} {Q : VK} {p : Addr} {d : Int} {xs : List V} (h : H p = some (.lst xs)) (hx : xs.all isIntV = true) (h0 : 0 ≤ d) (h1 : d < (xs.length : Int)) (q : ∀ i, Q (.int i) H) : rIxL K (.ref p) (.int d) H Q := by
  have hd : d.toNat < xs.length := by omega
  have z := List.all_eq_true.mp hx _ (List.getElem_mem hd)
  refine ⟨p, xs, d, xs[d.toNat], rfl, rfl, SqL.of h, at_pos h0 hd, ?_⟩
  cases e : xs[d.toNat] with
  | int i => exact q i
  | non => rw [e] at z; cases z
  | bl _ => rw [e] at z; cases z
  | str _ => rw [e] at z; cases z
  | byt _ => rw [e] at z; cases z
  | flt _ => rw [e] at z; cases z
  | ref _ => rw [e] at z; cases z
  | ty _ => rw [e] at z; cases z
theorem take_next {α : Type} {l : List α} {i : Nat} {x : α} (h : l[i]? = some x) : l.take (i + 1) = l.take i ++ [x] := by
  rw [List.take_succ, h]
  rfl
section
variable {K : PySem.W.Frag} {σ : L2.St} {H : Hp} {Q : VK} {te0 te : TE} {tt : TT} {j : Nat} {vs : List Nat}
/-- over the signs of a text: those that pass b, each as f says; nothing else is done -/
theorem r_lcS {z : Str} (f : Nat → V) (b : Nat → Bool) (h0 : ∀ R : VK, R (.str z) H → te0 σ H R) (hz : z.length ≤ 100000) (hw : ∀ x, wipe ((wipe σ vs).set j (some x)) vs = wipe σ vs)
    (ht : ∀ c H1 (QB : Bool → Hp → Prop), QB (b c) H1 → tt ((wipe σ vs).set j (some (.str ⟨#[c]⟩))) H1 QB)
    (he : ∀ c H1 (Q1 : VK), Q1 (f c) H1 → te ((wipe σ vs).set j (some (.str ⟨#[c]⟩))) H1 Q1)
    (q : ∀ D, H D = none → Q (.ref D) (upd H D (.lst ((z.cps.toList.filter b).map f)))) : tLc (iStr te0) (gName j) tt te vs σ H Q := by
  refine h0 _ ⟨z, rfl, fun D hD => ?_⟩
  refine lc_it walk_str (fun i H' => H' = upd H D (.lst (((z.cps.toList.take i).filter b).map f))) rfl (fun _ _ _ _ => trivial) (fun i x H1 H2 hi p y => ?_) (fun H' p => ?_)
  · obtain ⟨rfl, c, hc, rfl⟩ := y
    subst p
    have hc' : z.cps.toList[i]? = some c := by rw [Array.getElem?_toList]; exact hc
    refine ⟨hw _, ht c _ _ ?_⟩
    rw [take_next hc', List.filter_append]
    cases hb : b c with
    | true =>
      refine iteT (he c _ _ ⟨_, upd_same, ?_, ?_⟩)
      · have h1 := List.length_filter_le b (z.cps.toList.take i)
        have h2 : i < z.length := hi
        rw [List.length_map]
        rw [List.length_take] at h1
        rw [sizeLine_eq]
        omega
      · rw [upd_upd]
        simp [hb]
    | false =>
      refine iteF ?_
      simp [hb]
  · subst p
    rw [List.take_of_length_le (by simp)]
    exact q D hD
end
end Gx
set_option linter.all false
set_option maxRecDepth 100000
set_option maxHeartbeats 4000000
namespace Gx
open PySem PySem.Spec PyProof.Rows L2
/-! ### loops, comprehensions: what is left to show, by name -/
def Lp (J : It) (g : TG) (tb : TS) (D : Ends) (s : L2.St) (h : Hp) : Prop :=
  ∃ W : Nat → Nat → L2.St → Hp → Prop, (∃ m, W 0 m s h) ∧ ∀ i m s h, W i m s h → (J.stop i h ∧ D.nx s h) ∨ (J.go i h ∧ ∃ N : L2.St → Hp → Prop, (∀ s' h', N s' h' → ∃ m', m' < m ∧ W (i + 1) m' s' h') ∧ ∀ x h', J.yld i h x h' → g x s h' fun s2 h2 => tb { D with nx := N, ct := N, bk := D.nx } s2 h2)
def Lc (J : It) (g : TG) (tt : TT) (te : TE) (vs : List Nat) (Q : VK) (s : L2.St) (h : Hp) : Prop :=
  ∀ p, h p = none → ∃ W : Nat → Nat → Hp → Prop, (∃ m, W 0 m (upd h p (.lst []))) ∧ ∀ i m h, W i m h → (J.stop i h ∧ Q (.ref p) h) ∨ (J.go i h ∧ ∃ N : Hp → Prop, (∀ h', N h' → ∃ m', m' < m ∧ W (i + 1) m' h') ∧ ∀ x h', J.yld i h x h' → g x (wipe s vs) h' fun s2 h2 => wipe s2 vs = wipe s vs ∧ tt s2 h2 fun b h3 => if b = true then te s2 h3 fun y h4 => ∃ acc, h4 p = some (.lst acc) ∧ acc.length < sizeLine ∧ N (upd h4 p (.lst (acc ++ [y]))) else N h3)
section
variable {K : PySem.W.Frag} {σ : L2.St} {H : Hp} {D : Ends} {g : TG} {tb : TS} {wi : TI} {ta : TA} {te tl : TE} {tt : TT} {vs : List Nat} {Q : VK}
theorem r_for (h : wi σ H fun J H1 => Lp J g tb D σ H1) : tFor wi g tb D σ H := h
theorem r_lc (h : wi σ H fun J H1 => Lc J g tt te vs Q σ H1) : tLc wi g tt te vs σ H Q := h
theorem r_rng1 {R : It → Hp → Prop} (h : ta σ H fun xs H1 => ∃ j : Int, xs = [.int j] ∧ -(2 ^ 62) ≤ j ∧ j < 2 ^ 62 ∧ R (Itr 0 j.toNat) H1) : iRng1 ta σ H R := h
theorem r_iList {R : It → Hp → Prop} (h : tl σ H fun v H1 => ∃ a, v = .ref a ∧ (∃ xs, SqL K H1 a xs) ∧ R (Itl K a) H1) : iList K tl σ H R := h
theorem lp_range {lo : Int} {n : Nat} (Pv : Nat → L2.St → Hp → Prop) (h0 : Pv 0 σ H) (hs : ∀ i s h, i < n → Pv i s h → g (.int (lo + i)) s h fun s2 h2 => tb { D with nx := Pv (i + 1), ct := Pv (i + 1), bk := D.nx } s2 h2)
    (hd : ∀ s h, Pv n s h → D.nx s h) : Lp (Itr lo n) g tb D σ H := for_range Pv h0 hs hd
theorem lp_list {a : Addr} {xs : List V} (Pv : Nat → L2.St → Hp → Prop) (h0 : Pv 0 σ H) (hl : ∀ i s h, i ≤ xs.length → Pv i s h → SqL K h a xs)
    (hs : ∀ i x s h, xs[i]? = some x → Pv i s h → g x s h fun s2 h2 => tb { D with nx := Pv (i + 1), ct := Pv (i + 1), bk := D.nx } s2 h2) (hd : ∀ s h, Pv xs.length s h → D.nx s h) : Lp (Itl K a) g tb D σ H := for_list Pv h0 hl hs hd
theorem lc_rng {lo : Int} {n : Nat} (Pv : Addr → Nat → Hp → Prop) (h0 : ∀ p, H p = none → Pv p 0 (upd H p (.lst [])))
    (hs : ∀ p, H p = none → ∀ i h, i < n → Pv p i h → g (.int (lo + i)) (wipe σ vs) h fun s2 h2 => wipe s2 vs = wipe σ vs ∧ tt s2 h2 fun b h3 => if b = true then te s2 h3 fun y h4 => ∃ acc, h4 p = some (.lst acc) ∧ acc.length < sizeLine ∧ Pv p (i + 1) (upd h4 p (.lst (acc ++ [y]))) else Pv p (i + 1) h3)
    (hd : ∀ p, H p = none → ∀ h, Pv p n h → Q (.ref p) h) : Lc (Itr lo n) g tt te vs Q σ H := fun p hp => lc_range (Pv p) (h0 p hp) (hs p hp) (hd p hp)
theorem lc_lst {a : Addr} {xs : List V} (Pv : Addr → Nat → Hp → Prop) (h0 : ∀ p, H p = none → Pv p 0 (upd H p (.lst []))) (hl : ∀ p, H p = none → ∀ i h, i ≤ xs.length → Pv p i h → SqL K h a xs)
    (hs : ∀ p, H p = none → ∀ i x h, xs[i]? = some x → Pv p i h → g x (wipe σ vs) h fun s2 h2 => wipe s2 vs = wipe σ vs ∧ tt s2 h2 fun b h3 => if b = true then te s2 h3 fun y h4 => ∃ acc, h4 p = some (.lst acc) ∧ acc.length < sizeLine ∧ Pv p (i + 1) (upd h4 p (.lst (acc ++ [y]))) else Pv p (i + 1) h3)
    (hd : ∀ p, H p = none → ∀ h, Pv p xs.length h → Q (.ref p) h) : Lc (Itl K a) g tt te vs Q σ H := fun p hp => by
  refine lc_it (walk_list (xs := xs)) (Pv p) (h0 p hp) (fun i h hi q => hl p hp i h hi q) (fun i x h h' hi q y => ?_) (hd p hp)
  obtain ⟨rfl, e⟩ := y
  exact hs p hp i x _ e q
theorem r_yes {QB : Bool → Hp → Prop} (q : QB true H) : tYes σ H QB := q
theorem sql_same {H' : Hp} {a : Addr} {xs : List V} (h : SqL K H a xs) (e : Same H H') : SqL K H' a xs :=
  h.imp (fun r => r.imp (fun z => e _ _ z) fun ⟨o, z⟩ => ⟨o, e _ _ z⟩) _root_.id
/-- an item of a written list of ints at an open place, with what holds of all of them -/
theorem r_ixJ {p : Addr} {d : Int} {xs : List Int} {P : Int → Bool} (h : H p = some (.lst (xs.map V.int))) (hx : xs.all P = true) (h0 : 0 ≤ d) (h1 : d < (xs.length : Int)) (q : ∀ i, P i = true → Q (.int i) H) : rIxL K (.ref p) (.int d) H Q := by
  have hd : d.toNat < (xs.map V.int).length := by rw [List.length_map]; omega
  refine ⟨p, xs.map V.int, d, _, rfl, rfl, SqL.of h, at_pos h0 hd, ?_⟩
  rw [List.getElem_map]
  exact q _ (List.all_eq_true.mp hx _ (List.getElem_mem _))
theorem same_off {b : Addr} {H0 H1 H2 : Hp} (n : H0 b = none) (s : Same H0 H1) (o : Off b H1 H2) : Same H0 H2 := fun c u h => o c u (fun z => by subst z; rw [n] at h; cases h) (s c u h)
end
end Gx
set_option linter.all false
set_option maxRecDepth 100000
set_option maxHeartbeats 4000000
namespace Gx
open PySem PySem.Spec PyProof.Rows L2
/-! ### the end of a law, its def called where no repr is under way -/
/-- nothing leaves where no exception may -/
theorem cx_none {P : Program} {w : World} {out : List Env} {H : Hp} {s : Shared} {e : Value} {s' : Shared} (c : L2.CX P w out H s (fun _ _ _ => False) e s') : False := by
  obtain ⟨_, _, _, _, _, _, _, _, _, _, _, _, no⟩ := c
  exact no
/-- what is tracked ahead of the call: at most the script -/
structure Fore (P : Program) (w : World) (K : PySem.W.Frag) (a : Addr) (ys : List V) (t : Shared) (H : Hp) : Prop where
  one : ∀ b, H b ≠ none → b = a ∧ K.lookup a = none
  frz : ∀ b u, H b = some u → ∃ o, u = .frz o (.lst ys)
  seq : SqL K H a ys
  ok : HOk P w H t.heap
section
variable {P : Program} {w : World} {K : PySem.W.Frag} {mg mb : Str → Option Value} {k : Nat} {fa a : Addr} {fd : FuncData} {x : Str} {sp : Sp} {t : Shared} {us : List Value} {ys : List V}
theorem fore_own {o : Obj} (kin : K.In t.heap) (hu : t.heap.get? a = some { cls := .type "list", data := .seq us.toArray }) (rel : Vals ys us) (len : ys.length ≤ sizeLine) (hk : K.lookup a = some o) : Fore P w K a ys t fun _ => none := by
  have e := (kin a o hk).symm.trans hu
  cases e
  exact ⟨fun b hb => absurd rfl hb, fun b u hb => (nomatch hb), .inr ⟨_, us.toArray, _, hk, rfl, rfl, rfl, by rw [List.size_toArray, ← rel.length]; exact len, by simpa using rel⟩, fun b u hb => (nomatch hb)⟩
theorem fore_new (hu : t.heap.get? a = some { cls := .type "list", data := .seq us.toArray }) (rel : Vals ys us) (len : ys.length ≤ sizeLine) (hk : K.lookup a = none) :
    Fore P w K a ys t fun b => if b = a then some (.frz { cls := .type "list", data := .seq us.toArray } (.lst ys)) else none := by
  have at_a : ∀ {b u}, (if b = a then some (HO.frz { cls := .type "list", data := .seq us.toArray } (.lst ys)) else none) = some u → b = a ∧ u = .frz { cls := .type "list", data := .seq us.toArray } (.lst ys) := fun {b u} h => by
    split at h
    · rename_i hb
      cases h
      exact ⟨hb, rfl⟩
    · cases h
  refine ⟨fun b hb => ?_, fun b u hb => ⟨_, (at_a hb).2⟩, .inl (.inr ⟨_, if_pos rfl⟩), fun b u hb => ?_⟩
  · by_cases z : b = a
    · exact ⟨z, hk⟩
    · exact absurd (if_neg z) hb
  · obtain ⟨rfl, rfl⟩ := at_a hb
    exact ⟨hu, len, us, _, rel, hu⟩
theorem call_fore (kin : K.In t.heap) (gl : t.heap.Ns mainGlobals mg) (bl : t.heap.Ns builtinsNs mb) (boot : ∀ x : Str, x ≠ "__name__" → mb x = bootBuiltins x) (lim : t.heap.NoLimit) (gens : t.gens = #[])
    (hu : t.heap.get? a = some { cls := .type "list", data := .seq us.toArray }) (room : Room k callerA)
    (F : ∀ base : Heap, K.In base → base.Ns mainGlobals mg → FnG P w K mg base (L2.CX P w) k fa fd [x] sp) (bind : ∀ (s : Shared) (u : Value), BindsTo s fd ⟨[u], []⟩ [(x, u)])
    {H : Hp} (O : Fore P w K a ys t H) (hsp : sp [.ref a] H (fun v _ => v = .bl true) fun _ _ _ => False) :
    codeAny (model P w) callerA (.call (.ref fa) ⟨[.ref a], []⟩) (fun r t' => r = .ok (.ret (.bool true)) ∧ OldK t.heap t'.heap ∧ t'.os = t.os ∧ AllBare t'.gens) t := by
  have untracked : ∀ {b : Addr} {o : Obj}, t.heap.get? b = some o → (∀ its n, o.data ≠ .seq its n) → H b = none := fun {b o} e ns => by
    cases q : H b with
    | none => rfl
    | some u =>
      obtain ⟨rfl, _⟩ := O.one b (by rw [q]; exact Option.some_ne_none u)
      rw [hu] at e
      cases e
      exact absurd rfl (ns us.toArray _)
  have dicts : ∀ {b : Addr} {m : Str → Option Value}, t.heap.Ns b m → (hidT t.heap H).Ns b m := fun ⟨o, es, ep, e, d, r⟩ => ⟨o, es, ep, hidT_get e (untracked e fun its n z => by rw [d] at z; cases z), d, r⟩
  have kin' : K.In (hidT t.heap H) := fun b o e => hidT_get (kin b o e) (by
    cases q : H b with
    | none => rfl
    | some u =>
      obtain ⟨rfl, no⟩ := O.one b (by rw [q]; exact Option.some_ne_none u)
      rw [no] at e
      cases e)
  have lim' : (hidT t.heap H).NoLimit := by
    obtain ⟨mc, l1, l2⟩ := lim
    exact ⟨mc, dicts l1, l2⟩
  have start : Env0 P w K mg (hidT t.heap H) callerA [] t H := {
    frames := rfl
    mod := ⟨kin', dicts gl, ⟨mb, dicts bl, boot⟩, lim'⟩
    bs := fun _ _ => of_hidT
    bsz := Nat.le_of_eq (hidT_size _ _)
    funs := trivial
    frf := fun b hb => absurd hb List.not_mem_nil
    hok := O.ok
    bare := .of_eq gens }
  refine codeAny_mono ((F _ kin' (dicts gl)).go callerA [] t H ⟨[.ref a], []⟩ [.ref a] [.ref a] _ _ rfl room start (bind t (.ref a)) (.cons rfl .nil) hsp) ?_
  rintro (e | fl) t' h
  · exact (cx_none h).elim
  cases fl with
  | ret u =>
    obtain ⟨v, H', eos, eb, un, ok', rv, rfl⟩ := h
    cases (show u = Value.bool true from rv)
    refine ⟨rfl, OldK.of_keep fun b o e => ?_, eos, eb⟩
    cases q : H b with
    | none => exact un.keep b o e q List.not_mem_nil List.not_mem_nil
    | some u =>
      obtain ⟨o1, rfl⟩ := O.frz b u q
      have p1 := (O.ok b _ q).1
      rw [e] at p1
      cases p1
      exact (ok' b _ (un.frzs b _ _ q)).1
  | _ => exact False.elim h
end
/-- what k_head leaves open, from the promise of the law's def -/
theorem walk_g {l : PySem.W.OpenLaw} {n k : Nat} {q : Program} {loose : List Str} {XP : (Str → Option Value) → Heap → Prop} {YP : World → Heap → Prop} {d : DefRec} {K : Params → PySem.W.Frag} {sp : World → Sp} {x : Str}
    (most : l.most = some n) (small : n ≤ sizeLine) (plain : d.params.defaults = []) (room : Room k callerA) (kin : ∀ (w : World) (h : Heap), YP w h → (K w.params).In h)
    (F : ∀ (w : World) (mg : Str → Option Value) (fa : Addr) (h : Heap), (K w.params).In h → h.Ns mainGlobals mg → mg d.name = some (.ref fa) → ∃ fd : FuncData, (∀ (s : Shared) (u : Value), BindsTo s fd ⟨[u], []⟩ [(x, u)]) ∧
      ∀ base : Heap, (K w.params).In base → base.Ns mainGlobals mg → FnG l.prog w (K w.params) mg base (L2.CX l.prog w) k fa fd [x] (sp w))
    (hsp : ∀ (w : World) (H : Hp) (a : Addr) (ns : List Int), ns.length ≤ n → SqL (K w.params) H a (ns.map V.int) → sp w [.ref a] H (fun v _ => v = .bl true) fun _ _ _ => False) :
    PySem.W.WalkO q loose XP YP l.row.toRowW d [] (fun f vs => PySem.call f vs) := by
  refine Att.attach_call most plain fun w t0 t mg mb fa o pm cd doc a us ns G Y ho hd hcd hmg hobj hints hlen hg => ?_
  have kin1 := kin w _ Y
  obtain ⟨fd, hb, hF⟩ := F w mg fa _ kin1 G.T.g hmg
  have rel := vals_ints hints
  have len : (ns.map V.int).length ≤ sizeLine := by
    rw [List.length_map]
    exact Nat.le_trans hlen small
  cases hk : (K w.params).lookup a with
  | some ob =>
    have O := fore_own (P := l.prog) (w := w) kin1 hobj rel len hk
    exact call_fore kin1 G.T.g G.T.b G.T.builtins G.T.nolimit hg hobj room hF hb O (hsp w _ a ns hlen O.seq)
  | none =>
    have O := fore_new (P := l.prog) (w := w) (K := K w.params) hobj rel len hk
    exact call_fore kin1 G.T.g G.T.b G.T.builtins G.T.nolimit hg hobj room hF hb O (hsp w _ a ns hlen O.seq)
/-- the same, the promise hanging on the written part alone -/
theorem walk_gk {l : PySem.W.OpenLaw} {n k : Nat} {q : Program} {loose : List Str} {XP : (Str → Option Value) → Heap → Prop} {YP : World → Heap → Prop} {d : DefRec} {K : Params → PySem.W.Frag} {sp : PySem.W.Frag → Sp} {x : Str}
    (most : l.most = some n) (small : n ≤ sizeLine) (plain : d.params.defaults = []) (room : Room k callerA) (kin : ∀ (w : World) (h : Heap), YP w h → (K w.params).In h)
    (F : ∀ (w : World) (mg : Str → Option Value) (fa : Addr) (h : Heap), (K w.params).In h → h.Ns mainGlobals mg → mg d.name = some (.ref fa) → ∃ fd : FuncData, (∀ (s : Shared) (u : Value), BindsTo s fd ⟨[u], []⟩ [(x, u)]) ∧
      ∀ base : Heap, (K w.params).In base → base.Ns mainGlobals mg → FnG l.prog w (K w.params) mg base (L2.CX l.prog w) k fa fd [x] (sp (K w.params)))
    (hsp : ∀ (K : PySem.W.Frag) (H : Hp) (a : Addr) (ns : List Int), ns.length ≤ n → SqL K H a (ns.map V.int) → sp K [.ref a] H (fun v _ => v = .bl true) fun _ _ _ => False) :
    PySem.W.WalkO q loose XP YP l.row.toRowW d [] (fun f vs => PySem.call f vs) :=
  walk_g (sp := fun w => sp (K w.params)) most small plain room kin F fun w H a ns => hsp (K w.params) H a ns
end Gx
set_option linter.all false
set_option maxRecDepth 100000
set_option maxHeartbeats 4000000
namespace Gx
open PySem PySem.Spec PyProof.Rows L2
/-! ### repr of a dict of plain values -/
def flatV : V → Bool
  | .non => true
  | .bl _ => true
  | .int _ => true
  | .str _ => true
  | _ => false
def valD : V → PyData
  | .bl b => .bool b
  | .int i => .int i
  | .str x => .str x
  | _ => .none
def keyD : Key → PyData
  | .inl i => .int i
  | .inr x => .str x
def dctD (es : List (Key × V)) : PyData := .dict (es.map fun p => (keyD p.1, valD p.2))
theorem reads_flat {h : Heap} : ∀ {v : V} {u : Value}, flatV v = true → RelV v u → Reads h u (valD v) []
  | .non, u, _, r => by
    obtain rfl : u = Value.none := r
    exact .none
  | .bl b, u, _, r => by
    obtain rfl : u = Value.bool b := r
    exact .bool b
  | .int i, u, _, r => by
    obtain ⟨t, rfl⟩ : ∃ t, u = Value.int i t := r
    exact .int i t
  | .str x, u, _, r => by
    obtain ⟨t, rfl⟩ : ∃ t, u = Value.str x t := r
    exact .str x t
theorem reads_key {P : Program} {w : World} {h : Heap} {k : Key} {u : Value} (e : (mixKind P w).is k u = true) : Reads h u (keyD k) [] := by
  rcases keyIs_shape e with ⟨i, t, rfl, rfl⟩ | ⟨x, t, rfl, rfl⟩
  · exact .int i t
  · exact .str x t
theorem reads_pairs {P : Program} {w : World} {h : Heap} : ∀ {es : List DictEntry} {vs : List (Key × Value)} {xs : List (Key × V)}, Pairs (mixKind P w) es vs → KV xs vs → xs.all (fun p => flatV p.2) = true →
    ReadsAll h (es.map (·.key)) ((xs.map fun p => (keyD p.1, valD p.2)).map (·.1)) [] ∧ ReadsAll h (es.map (·.val)) ((xs.map fun p => (keyD p.1, valD p.2)).map (·.2)) []
  | _, _, _, .nil, r, _ => by
    cases r
    exact ⟨.nil, .nil⟩
  | _, _, _, .cons (e := e) (kv := kv) k1 e1 ps, r, al => by
    cases r with
    | cons r1 r2 =>
      rename_i p ps'
      obtain ⟨rk, rv⟩ := r1
      rw [List.all_cons, Bool.and_eq_true] at al
      obtain ⟨i1, i2⟩ := reads_pairs ps r2 al.2
      refine ⟨.cons (as := []) (bs := []) ?_ i1, .cons (as := []) (bs := []) ?_ i2⟩
      · show Reads h e.key (keyD p.1) []
        rw [rk]
        exact reads_key k1
      · show Reads h e.val (valD p.2) []
        rw [e1]
        exact reads_flat al.1 rv
def rShowD : List V → Hp → VK → Prop := fun xs H Q => ∃ a es, xs = [.ref a] ∧ H a = some (.dK es) ∧ es.all (fun p => flatV p.2) = true ∧ (dctD es).showable = true ∧ (dctD es).depth ≤ 20 ∧ (dctD es).shown.length ≤ sizeLine ∧ Q (.str (dctD es).shown) H
def rShowI : List V → Hp → VK → Prop := fun xs H Q => ∃ i : Int, xs = [.int i] ∧ i.natAbs.log2 < 1920 ∧ Q (.str (PyData.int i).shown) H
def rShowE : List V → Hp → VK → Prop := fun xs H Q => rShow xs H Q ∨ rShowD xs H Q ∨ rShowI xs H Q
section
variable {X : Cx}
theorem call_showD (hG : X.A.guards = some []) (hu : X.A.units + 64 < cLine) : CallR X (.builtin "repr") rShowD := by
  intro pins s σ H xs us Q I r h
  obtain ⟨a, es, rfl, ha, al, hs, hp, hl, q⟩ := h
  obtain rfl := Vals.ref1 r
  obtain ⟨_, nsm, vs, kv, o, ds, ep, ho, hx, hd, _, hpp, _⟩ : ObjOk X.prog X.w H s.heap a (.dK es) := I.hok a _ ha
  obtain ⟨r1, r2⟩ := reads_pairs (h := s.heap) hpp kv al
  have rd : Reads s.heap (.ref a) (dctD es) (a :: [] ++ []) := .dict ho hx.1 hd r1 r2
  refine repr_of_reads' rd hs (fun _ z => ?_) hG (by omega) (fun _ _ z => z) ?_ hl
  · have z : sysModules = a := by simpa using z
    subst z
    simp at nsm
  intro h' t tk keep
  exact ⟨.str (dctD es).shown, H, I.kept (t' := tk) keep, ⟨t, rfl⟩, q⟩
theorem call_showE (hG : X.A.guards = some []) (hu : X.A.units + 64 < cLine) : CallR X (.builtin "repr") rShowE := by
  intro pins s σ H xs us Q I r h
  rcases h with h | h | ⟨i, rfl, hz, q⟩
  · exact call_show hG hu pins s σ H xs us Q I r h
  · exact call_showD hG hu pins s σ H xs us Q I r h
  · cases r with
    | cons r1 r2 =>
      cases r2
      obtain ⟨t, rfl⟩ := r1
      refine PySem.P.repr_of_int hz ⟨.str _, H, I.tok _, ⟨_, rfl⟩, ?_⟩
      simpa only [PyData.shown] using q
end
section
theorem r_sh {H : Hp} {Q : VK} {v : V} (d : PyData) (hd : Gx.IsD H d v) (h1 : (!d.hasDict && (d.showable && (decide (d.depth ≤ 20) && decide (d.shown.length ≤ sizeLine)))) = true) (q : Q (.str d.shown) H) : rShowE [v] H Q := by
  simp only [Bool.and_eq_true, Bool.not_eq_true', decide_eq_true_eq] at h1
  exact .inl ⟨v, d, rfl, hd, h1.1, h1.2.1, h1.2.2.1, h1.2.2.2, q⟩
theorem r_shB {H : Hp} {Q : VK} {b : Bool} (q : Q (.str (PyData.bool b).shown) H) : rShowE [.bl b] H Q := r_sh (.bool b) (by unfold Gx.IsD; rfl) (by cases b <;> decide +kernel) q
theorem log_small {i : Int} (h : i.natAbs < 2 ^ 200) : i.natAbs.log2 < 1920 := by
  by_cases z : i.natAbs = 0
  · rw [z]
    decide
  · exact Nat.lt_trans ((Nat.log2_lt z).mpr h) (by decide)
theorem r_shI {H : Hp} {Q : VK} {i : Int} (h : i.natAbs < 2 ^ 200) (q : Q (.str (PyData.int i).shown) H) : rShowE [.int i] H Q := .inr (.inr ⟨i, rfl, log_small h, q⟩)
theorem iteFb {b : Bool} {A B : Prop} (e : b = false) (h : B) : if b = true then A else B := by
  rw [e]
  exact iteF h
theorem iteTb {b : Bool} {A B : Prop} (e : b = true) (h : A) : if b = true then A else B := by
  rw [e]
  exact iteT h
end
/-! ### a function out of a list is called -/
def tCalV (Cl : Addr → Sp → Prop) (E : L2.St → XK) (te : TE) (ta : TA) : TE := fun σ H Q => te σ H fun u H1 => ∃ f sp, u = .ref f ∧ Cl f sp ∧ ta σ H1 fun vs H2 => sp vs H2 Q (E σ)
section
variable {X : Cx} {CX : CXT} {k : Nat} {Cl : Addr → Sp → Prop} {fe e : Expr} {es : List Expr} {te : TE} {t : TA} {E : L2.St → XK} {pos : Pos}
theorem pe_calv (hCl : ∀ f sp, Cl f sp → ∃ fd ps, FnG X.prog X.w X.K X.mg X.base CX k f fd ps sp ∧ PySem.W.keepIn X.K (.ref f) = true ∧ Binds X.K fd ps []) (hG : X.A.guards = some []) (hr : Room k X.A) (hx : ∀ σ, PassesAt CX X σ (E σ)) (hf : PE X fe te) (ha : PA X (e :: es) t)
    (hev : eval (.Call fe (e :: es) [] pos) X.env = (do callWith pos (← eval fe X.env) [] (backTo pos (starEach (e :: es) X.env)) (backToKw pos (keywordEach [] X.env))) := by rfl)
    (he : starEach (e :: es) X.env = (false, eval e X.env) :: starEach es X.env := by rfl) (hpl : (backTo pos (starEach es X.env)).any (·.1) = false := by rfl) :
    PE X (.Call fe (e :: es) [] pos) (tCalV Cl E te t) := by
  refine ⟨fun pins s σ H Q I h => Call_ (thn (hf.run pins s σ H _ I h) fun u s1 hu => ?_) hev⟩
  obtain ⟨x, H1, I1, r1, f, sp, rfl, cl, q1⟩ := hu
  obtain rfl : u = Value.ref f := r1
  obtain ⟨fd, ps, F, hk, hb⟩ := hCl f sp cl
  refine PySem.W.callWith_K (h₀ := X.base) I1.ok.mod.kin hk (thn (ha.run pos pins s1 σ H1 _ I1 q1) ?_) he hpl
  rintro us s2 ⟨vs, H2, I2, r, q⟩
  refine ⟨I2.kIn, ?_⟩
  have hl : us.length = ps.length := r.length.symm.trans (F.len _ _ _ _ q)
  have b := hb s2 us I2.kIn (by simpa using hl)
  rw [List.append_nil] at b
  refine wpAny_call (codeAny_mono (F.go X.A X.stack s2 H2 ⟨us, []⟩ us vs Q (E σ) hG hr I2.env0 b r q) fun r s' hq => ?_)
  match r, hq with
  | .error e, hq => exact hx σ pins H2 s2 e s' I2 hq
  | .ok (.ret u), hq => exact I2.after hq
  | .ok .next, hq => exact hq.elim
  | .ok .brk, hq => exact hq.elim
  | .ok .cont, hq => exact hq.elim
end
/-! ### try: body, except x as n: suite, except y as n: suite, .. ; behind the told clauses none is looked at -/
abbrev Cut (D : Ends) (i : Nat) : Ends := { nx := fun s h => D.nx (s.set i none) h, rt := D.rt, bk := fun s h => D.bk (s.set i none) h, ct := fun s h => D.ct (s.set i none) h }
def wCl (K : PySem.W.Frag) (D : Ends) : List (Value × Nat × (Addr → Value → Option Addr → TS)) → WX
  | [] => fun _ _ _ _ => False
  | (c, i, ts) :: r => fun cls d s h => ∃ b, PySem.W.exmOne K cls c = some b ∧ (b = true → ∀ ex, h ex = none → ts ex cls d (Cut D i) (s.set i (some (.ref ex))) h) ∧ (b = false → wCl K D r cls d s h)
inductive ClOk (X : Cx) : List ExceptHandler → List (Value × Nat × (Addr → Value → Option Addr → TS)) → Prop
  | rest {hds : List ExceptHandler} : ClOk X hds []
  | cons {x n : Str} {c : Value} {i : Nat} {ts : Addr → Value → Option Addr → TS} {st : Stmt} {sts : List Stmt} {np hp : Pos} {hds : List ExceptHandler} {l : List (Value × Nat × (Addr → Value → Option Addr → TS))} (nm : Names X x c) (ni : X.N[i]? = some n)
      (nl : X.env.kindOf n = some .local) (su : ∀ (ex : Addr) (oe : Obj) (cls : Value) (d : Option Addr) (pn : List (Addr × Obj)), Zc cls d oe → (∃ vs, oe.data = .fields vs) → PSs (X.suite ex ((ex, oe) :: pn)) (st :: sts) (ts ex cls d)) (more : ClOk X hds l) :
      ClOk X (.ExceptHandler (some (.Name x np)) (some n) (st :: sts) hp :: hds) ((c, i, ts) :: l)
section
variable {X : Cx} {body : List Stmt} {h1 : ExceptHandler} {hds : List ExceptHandler} {l : List (Value × Nat × (Addr → Value → Option Addr → TS))} {pos : Pos} {tb : WX → TS}
theorem ps_try_cl (st : X.stack = X.env :: X.outer) (fr : X.env.frame = some X.env.locals) (nd : X.N.Nodup)
    (hb : ∀ (W : WX) (pn : List (Addr × Obj)) (xe : Value → Shared → Prop), Takes (X.tr pn xe) W → PassesOwn (model X.prog X.w) X.A X.env xe → PSs (X.tr pn xe) body (tb W)) (cl : ClOk X (h1 :: hds) l) :
    PS X (.Try body (h1 :: hds) [] [] pos) (fun D s h => tb (wCl X.K D l) D s h) := by
  refine ⟨fun pins s0 σ H D I h => wpAny_Try_except ?_⟩
  have ok := I.ok
  have frames : X.A.frames = some (X.env :: X.outer) := by rw [ok.frames, st]
  have tk : Takes (X.tr (X.pn ++ pins) (fun e t1 => wpAny (model X.prog X.w) X.A (noteFrame e X.env) (fun _ t2 => wpAny (model X.prog X.w) X.A (setFlight e none) (fun _ t3 => wpAny (model X.prog X.w) X.A (handleBy e X.env (h1 :: hds)) (SP X pins D) X.xe t3) X.xe t2) X.xe t1)) (wCl X.K D l) := by
    intro u t xx
    obtain ⟨ex, B, tI, _, σ1, H1, cls, d, rfl, J0, nb, up, sky, na, os, ag, wish⟩ := xx
    have J := J0.ofTry ok
    refine Sky.land Zc.steady frames fr (by rw [← st]; exact sky) fun hp1 fl1 up1 => ?_
    have J1 : Inv X pins σ1 H1 { t with heap := hp1 } := J.landed nb fl1.1 (up.trans up1) os ag
    obtain ⟨o1, vs1, g1, z1, d1⟩ := fl1.there
    have apart : ex ∉ frs (X.env :: X.outer) := fun hm => by
      obtain ⟨_, o2, g2, no⟩ := fl1.2.2.1.mem hm
      rw [g1] at g2
      cases g2
      exact no _ d1
    have nL : ex ≠ X.env.locals := fun z => apart (List.mem_filterMap.mpr ⟨X.env, List.mem_cons_self, by rw [fr, z]⟩)
    have nF : ex ∉ X.fs := fun hm => by
      obtain ⟨e, he, q⟩ := List.mem_filterMap.mp hm
      exact apart (List.mem_filterMap.mpr ⟨e, List.mem_cons_of_mem _ he, q⟩)
    have S1 := J1.suite g1 d1 na nL nF
    have LT : PySem.W.Looks (model X.prog X.w) hp1 (typeOf (.ref ex)) cls := fun A Q E s k q => wpAny_typeOf_ref (k _ _ g1) (by rw [z1.1]; exact q)
    have go : ∀ {hs : List ExceptHandler} {ll : List (Value × Nat × (Addr → Value → Option Addr → TS))}, ClOk X hs ll → wCl X.K D ll cls d σ1 H1 → wpAny (model X.prog X.w) X.A (handleBy (.ref ex) X.env hs) (SP X pins D) X.xe { t with heap := hp1 } := by
     intro hs ll ck
     induction ck with
     | rest => exact fun z => z.elim
     | @cons x n c i ts b sts np hpos hds' l' nm ni nl su more ih =>
       rintro ⟨y, e1, yes, no⟩
       refine wpAny_handleBy_cons (codeAny_handlers_test ?_) (by intro q; cases q)
       have LM := PySem.W.exm_one (M := model X.prog X.w) J1.kIn LT e1
       have named : ∀ {Q : Value → Shared → Prop} {E : Value → Shared → Prop}, Q c { t with heap := hp1 } → wpAny (model X.prog X.w) (X.A.mark (some (.ref ex))) (eval (.Name x np) X.env) Q E { t with heap := hp1 } := fun {Q E} q => by
         obtain ⟨gl, db, hm | ⟨hm, hv, hn⟩⟩ := nm
         · exact ld_glob (X := X.suite ex ((ex, o1) :: (X.pn ++ pins))) S1 gl hm q db
         · exact ld_blt (X := X.suite ex ((ex, o1) :: (X.pn ++ pins))) S1 gl hm hv q hn db
       refine named (LM.here ?_)
       cases y with
       | false => exact ih (no rfl)
       | true =>
         refine codeAny_handlers_suite_as (HandSPX.lands_againZ fl1 fun hp2 fl2 up2 => ?_)
         have J2 : Inv X pins σ1 H1 { t with heap := hp2 } := J.landed nb fl2.1 ((up.trans up1).trans up2) os ag
         obtain ⟨o2, vs2, g2, z2, d2⟩ := fl2.there
         refine store_ok (X := X.suite ex ((ex, o2) :: (X.pn ++ pins))) (v := .ref ex) (J2.suite g2 d2 na nL nF) nd ni (.inl nl) rfl (fun t5 S5 => ?_) (.inr nl)
         refine wpAny_mono ((su ex o2 cls d (X.pn ++ pins) z2 ⟨_, d2⟩).run [] t5 _ H1 _ S5 (yes rfl ex na)) (fun f t6 sp => ?_) (fun _ _ z => False.elim z)
         have gone : ∀ {σ6 : L2.St} {H6 : Hp} {Q : Shared → Prop}, Inv (X.suite ex ((ex, o2) :: (X.pn ++ pins))) [] σ6 H6 t6 → (∀ t7, Inv X pins (σ6.set i none) H6 t7 → Q t7) →
             wpAny (model X.prog X.w) X.A (do bindName X.env n .none; unbindBehindTheSuite X.env n hpos) (fun _ t7 => Q t7) X.xe t6 := fun {σ6 H6 Q} S6 hq => gone_ok (S6.unsuite ok) nd ni nl hq
         match f, sp with
         | .next, ⟨_, _, S6, q6⟩ => exact gone S6 fun t7 J7 => ⟨_, _, J7, q6⟩
         | .brk, ⟨_, _, S6, q6⟩ => exact gone S6 fun t7 J7 => ⟨_, _, J7, q6⟩
         | .cont, ⟨_, _, S6, q6⟩ => exact gone S6 fun t7 J7 => ⟨_, _, J7, q6⟩
         | .ret u, ⟨_, _, _, S6, r6, q6⟩ => exact gone S6 fun t7 J7 => ⟨_, _, _, J7, r6, q6⟩
    exact go cl wish
  refine wpAny_mono ((hb (wCl X.K D l) (X.pn ++ pins) _ tk PassesOwn.looking).run [] s0 σ H D (I.toTry _) h) (fun f t1 sp => ?_) fun _ _ z => z
  match f, sp with
  | .next, ⟨_, _, J1, q⟩ => exact wpAny_execs_nil ⟨_, _, J1.ofTry ok, q⟩
  | .brk, ⟨_, _, J1, q⟩ => exact ⟨_, _, J1.ofTry ok, q⟩
  | .cont, ⟨_, _, J1, q⟩ => exact ⟨_, _, J1.ofTry ok, q⟩
  | .ret u, ⟨_, _, _, J1, r, q⟩ => exact ⟨_, _, _, J1.ofTry ok, r, q⟩
end
end Gx
set_option linter.all false
set_option maxRecDepth 100000
set_option maxHeartbeats 4000000
namespace Gx
open PySem PySem.Spec PyProof.Rows L2
/-! ### an own class of exceptions over another one of the text, its __init__ a def: made as a value, raised, caught -/
structure OwnX (K : PySem.W.Frag) (mg : Str → Option Value) (x q : Str) (st : Stmt) (fld : Str) (C : Addr) : Prop where
  oex : OexC K C
  gl : mg x = some (.ref C)
  no : PySem.W.findIn K (.ref C) fld = some none
  xf : XfC K C
  ini : ∃ fI fd, PySem.W.findIn K (.ref C) "__init__" = some (some (.ref fI)) ∧ PySem.W.typeIn K (.ref fI) = some (.type "function") ∧ Fun K "__init__" q st fI fd
theorem ownX {K : PySem.W.Frag} {h : Heap} {mg : Str → Option Value} {x q : Str} {st : Stmt} {fld : Str} {C fI N : Addr} {nm qn : Str} {bs bm : List Value} {sn : List Str} {sub : List Value} {ab : Bool} {col : Option Bool} {dd : Option Addr} {m0 m1 m2 m3 m5 : Option Value} {oc kV dc pm cd ct : Value} {od an : Option Addr} {sl : Array (Option Value)}
    (X : K.In h) (G : h.Ns mainGlobals mg) (e0 : PySem.W.nsIn K mainGlobals x = some (some (.ref C))) (e1 : K.lookup C = some (excClassObj nm qn C N bs bm true sn sub ab col dd m0 m1 m2 m3 m5 "ValueError.__new__")) (e1b : PySem.HandSPX.refsVE bm = true)
    (e2 : PySem.W.findIn K (.ref C) "__setattr__" = some (some (.builtin "object.__setattr__"))) (e3 : PySem.W.subIn K (.ref C) (.type "BaseException") = some true) (e4 : PySem.W.typeIn K (.ref C) = some (.type "type")) (e5 : PySem.W.keepIn K (.ref C) = true)
    (e6 : PySem.W.findIn K (.ref C) fld = some none) (e7 : PySem.W.findIn K (.ref C) "__init__" = some (some (.ref fI))) (e8 : PySem.W.typeIn K (.ref fI) = some (.type "function"))
    (e9 : K.lookup fI = some ⟨oc, od, .func (PySem.W.fnOf "__init__" q (defArgs st) (defBody st) (defScope st) .none kV dc pm an cd ct), sl⟩) (e10 : PySem.W.codeIn K cd q = true) (e11 : PySem.W.keepIn K (.ref fI) = true)
    (x1 : PySem.W.findIn K (.ref C) "__getattribute__" = some (some (.builtin "BaseException.__getattribute__"))) (x2 : PySem.W.findIn K (.ref C) "__getattr__" = some none) (x3 : PySem.W.hasDictIn K C = true) : OwnX K mg x q st fld C :=
  ⟨⟨⟨_, _, _, _, _, _, _, _, _, _, _, _, _, _, _, e1, e1b⟩, e2, e3, e4, e5⟩, PySem.W.mg_of X G e0, e6, ⟨x1, x2, e3, x3⟩, ⟨fI, _, e7, e8, fun_mk e9 e10 e11⟩⟩
theorem exm_sub {K : PySem.W.Frag} {D C : Addr} {b : Bool} (h1 : PySem.W.subIn K (.ref C) (.type "BaseException") = some true) (h2 : PySem.W.isClsIn K C = true) (h3 : PySem.W.typeIn K (.ref C) = some (.type "type")) (h4 : PySem.W.subIn K (.ref D) (.ref C) = some b) :
    PySem.W.exmOne K (.ref D) (.ref C) = some b := by
  have c1 : (PySem.W.subIn K (.ref C) (.type "BaseException") == some true) = true := by rw [h1]; rfl
  have c2 : ((PySem.W.clsIn K C).isSome && PySem.W.typeIn K (.ref C) == some (.type "type")) = true := by
    rw [Bool.and_eq_true]
    exact ⟨h2, by rw [h3]; rfl⟩
  unfold PySem.W.exmOne PySem.W.kitCls
  rw [if_pos c1]
  exact (if_pos c2).trans h4
theorem r_vei {σ : L2.St} {H : Hp} {Q : VK} {K : PySem.W.Frag} {al : TA} (h : al σ H fun vs H1 => ∃ (a C : Addr) (ws : List V), vs = .ref a :: ws ∧ ws.length ≤ 1000 ∧ OexC K C ∧ H1 a = some (exo a C none) ∧ Q .non H1) : tVeI K al σ H Q := h
theorem r_ost {σ : L2.St} {H : Hp} {D : Ends} {K : PySem.W.Frag} {to te : TE} {g : Str} (h : te σ H fun v H1 => to σ H1 fun u H2 => ∃ a C : Addr, u = .ref a ∧ OexC K C ∧ PySem.W.findIn K (.ref C) g = some none ∧ ((H2 a = some (exo a C none) ∧ ∀ d, H2 d = none → d ≠ a → D.nx σ (upd (upd H2 d (exd d [(g, v)])) a (exo a C (some d)))) ∨ ∃ (d : Addr) (gs : List (Str × V)), H2 a = some (exo a C (some d)) ∧ H2 d = some (exd d gs) ∧ gs.length ≤ 900 ∧ D.nx σ (upd H2 d (exd d ((g, v) :: gs))))) : tOst K g to te D σ H := h
theorem none_of {H0 H : Hp} {p : Addr} (s : Same H0 H) (h : H p = none) : H0 p = none := by
  cases e : H0 p with
  | none => rfl
  | some u => rw [s _ _ e] at h; cases h
theorem same_new {H : Hp} {p : Addr} {o : HO} (h : H p = none) : Same H (upd H p o) := fun b u hb => by
  rw [upd_ne (ne_of_none hb h)]
  exact hb
theorem same_upd {H0 H : Hp} {p : Addr} {o : HO} (n : H0 p = none) (s : Same H0 H) : Same H0 (upd H p o) := fun c u h => by
  rw [upd_ne fun z => by subst z; rw [n] at h; cases h]
  exact s _ _ h
theorem r_mkV1 {σ : L2.St} {H : Hp} {Q : VK} {K : PySem.W.Frag} {C : Addr} {g : Str} {v : V} (O : OexC K C) (no : PySem.W.findIn K (.ref C) g = some none)
    (q : ∀ a d H', H a = none → Same H H' → H' a = some (exo a C (some d)) → H' d = some (exd d [(g, v)]) → Q (.ref a) H') : tMkV C (spEI K C g) (tCons (tC v) tNil) σ H Q := by
  refine ⟨Nat.le_of_ble_eq_true rfl, fun a ha => ⟨a, v, rfl, O, no, upd_same, fun d hd n => ⟨rfl, ?_⟩⟩⟩
  have hd0 : H d = none := by rwa [upd_ne n] at hd
  refine q a d _ ha (same_upd ha (same_upd hd0 (same_new ha))) upd_same ?_
  rw [upd_ne n]
  exact upd_same
/-- raise C(e) -/
def tRs (K : PySem.W.Frag) (C : Addr) (g : Str) (E : XK) (ta : TA) : TS := fun _ σ H => tMkO C (spEI K C g) [] ta σ H fun cls d H' => E cls d H'
section
variable {X : Cx} {x q : Str} {st : Stmt} {g : Str} {C : Addr} {e : Expr} {ta : TA} {p pos pos2 : Pos} {E : XK}
theorem ps_rs (O : OwnX X.K X.mg x q st g C) (ok : ∀ {fI fd}, Fun X.K "__init__" q st fI fd → FnOk X.prog X.w X.K X.mg X.base CX0 1 fI fd ["self", g] (spEI X.K C g))
    (hb : ∀ (kV doc pm : Value) (an : Option Addr) (cdv ct : Value) (us : List Value), us.length = (["self", g] : List Str).length → bindArgs (PySem.W.fnOf "__init__" q (defArgs st) (defBody st) (defScope st) .none kV doc pm an cdv ct) ⟨us, []⟩ = pure ((["self", g] : List Str).zip us))
    (hr : Room 2 X.A) (hc : X.calm = true) (tk : Takes X (fun cls d _ H => E cls d H)) (hg : Gl X x) (ha : PA X [e] ta)
    (hdb : (x == ("__debug__" : Str)) = false := by decide) (he : starEach [e] X.env = (false, eval e X.env) :: starEach [] X.env := by rfl) (hpl : (backTo pos (starEach [] X.env)).any (·.1) = false := by rfl) :
    PS X (.Raise (some (.Call (.Name x p) [e] [] pos)) none pos2) (tRs X.K C g E ta) := by
  obtain ⟨fI, fd, i1, i2, F⟩ := O.ini
  exact ps_raise hc tk (pmk_oex (dvs := []) O.oex i1 i2 (ok F) hr (F.binds hb) .nil pass0 hg O.gl ha hdb he hpl)
end
theorem r_rs {σ : L2.St} {H : Hp} {D : Ends} {E : XK} {K : PySem.W.Frag} {C : Addr} {g : Str} {i : Nat} {v : V} (O : OexC K C) (no : PySem.W.findIn K (.ref C) g = some none) (h : σ[i]? = some (some v))
    (q : ∀ d H', Same H H' → H' d = some (.xd [(g, v)]) → E (.ref C) (some d) H') : tRs K C g E (tCons (tVar i) tNil) D σ H := by
  refine ⟨v, h, Nat.le_of_ble_eq_true rfl, fun a ha => ⟨a, v, rfl, O, no, upd_same, fun d hd n => ⟨rfl, d, _, upd_same, ?_, ?_, q d _ ?_ upd_same⟩⟩⟩
  · rw [upd_ne n]
    exact upd_same
  · rwa [upd_ne n] at hd
  · have hd0 : H d = none := by rwa [upd_ne n] at hd
    refine same_upd hd0 fun c u hc => ?_
    have ca : c ≠ a := fun z => by subst z; rw [ha] at hc; cases hc
    have cd : c ≠ d := fun z => by subst z; rw [hd0] at hc; cases hc
    rw [del_ne ca, upd_ne ca, upd_ne cd, upd_ne ca]
    exact hc
end Gx
set_option linter.all false
set_option maxRecDepth 100000
set_option maxHeartbeats 4000000
namespace Gx
open PySem PySem.Spec PyProof.Rows L2
/-! ### things of many kinds: their types, what they show, how they grow -/
inductive TyAt (H : Hp) : V → String → Prop
  | non : TyAt H .non "NoneType"
  | bl (b : Bool) : TyAt H (.bl b) "bool"
  | int (i : Int) : TyAt H (.int i) "int"
  | str (z : Str) : TyAt H (.str z) "str"
  | lst {a : Addr} {xs : List V} (h : H a = some (.lst xs)) : TyAt H (.ref a) "list"
  | tup {a : Addr} {xs : List V} (h : H a = some (.tup xs)) : TyAt H (.ref a) "tuple"
  | dct {a : Addr} {es : List (Key × V)} (h : H a = some (.dK es)) : TyAt H (.ref a) "dict"
theorem TyAt.mono {H H' : Hp} (s : Same H H') {v : V} {T : String} : TyAt H v T → TyAt H' v T
  | .non => .non
  | .bl b => .bl b
  | .int i => .int i
  | .str z => .str z
  | .lst h => .lst (s _ _ h)
  | .tup h => .tup (s _ _ h)
  | .dct h => .dct (s _ _ h)
theorem TyAt.isI {K : PySem.W.Frag} {H : Hp} {v : V} {T U : String} {b : Bool} (h : TyAt H v T) (e : kitB T U = some b) : IsI K H v U b := by
  cases h with
  | non => exact isI_non e
  | bl b => exact isI_bl e
  | int i => exact isI_int e
  | str z => exact isI_str e
  | lst h => exact isI_lst h e
  | tup h => exact isI_tup h e
  | dct h => exact isI_dct h e
theorem TyAt.int_no {K : PySem.W.Frag} {H : Hp} {v : V} {T : String} (h : TyAt H v T) (n : T ≠ "int") : (∃ b, v = .bl b) ∨ IsI K H v "int" false := by
  cases h with
  | non => exact .inr (isI_non (by decide +kernel))
  | bl b => exact .inl ⟨b, rfl⟩
  | int i => exact absurd rfl n
  | str z => exact .inr (isI_str (by decide +kernel))
  | lst h => exact .inr (isI_lst h (by decide +kernel))
  | tup h => exact .inr (isI_tup h (by decide +kernel))
  | dct h => exact .inr (isI_dct h (by decide +kernel))
theorem TyAt.str_no {K : PySem.W.Frag} {H : Hp} {v : V} {T : String} (h : TyAt H v T) (n : T ≠ "str") : IsI K H v "str" false := by
  cases h with
  | non => exact isI_non (by decide +kernel)
  | bl b => exact isI_bl (by decide +kernel)
  | int i => exact isI_int (by decide +kernel)
  | str z => exact absurd rfl n
  | lst h => exact isI_lst h (by decide +kernel)
  | tup h => exact isI_tup h (by decide +kernel)
  | dct h => exact isI_dct h (by decide +kernel)
def okD (d : PyData) : Bool := !d.hasDict && (d.showable && (decide (d.depth ≤ 20) && decide (d.shown.length ≤ sizeLine)))
def okE (es : List (Key × V)) : Bool := es.all (fun p => flatV p.2) && ((dctD es).showable && (decide ((dctD es).depth ≤ 20) && decide ((dctD es).shown.length ≤ sizeLine)))
def dicts4 : List (List (Key × V)) := [[], [(.inr "a", .int 1)], [(.inr "more", .int 1)], [(.inr "a", .int 1), (.inr "more", .int 1)]]
def more (x : V) (j : Nat) : List V := x :: List.replicate j (.str "more")
def okL (x : V) : Bool := flatV x && (List.range 13).all fun j => okD (.list ((more x j).map valD))
inductive Th (H : Hp) : V → String → Nat → Prop
  | non (n : Nat) : Th H .non "NoneType" n
  | bl (b : Bool) (n : Nat) : Th H (.bl b) "bool" n
  | int (i : Int) (n : Nat) (h : i.natAbs < 2 ^ 200) : Th H (.int i) "int" n
  | str (z : Str) (n : Nat) (h : okD (.str z) = true) : Th H (.str z) "str" n
  | tup {a : Addr} (x : V) (n : Nat) (ha : H a = some (.tup [x])) (h : (flatV x && okD (.tuple [valD x])) = true) : Th H (.ref a) "tuple" n
  | lst {a : Addr} (x : V) (j n : Nat) (ha : H a = some (.lst (more x j))) (hj : j ≤ n) (h : okL x = true) : Th H (.ref a) "list" n
  | dct {a : Addr} (es : List (Key × V)) (n : Nat) (ha : H a = some (.dK es)) (h : es ∈ dicts4) : Th H (.ref a) "dict" n
theorem Th.ty {H : Hp} {v : V} {T : String} {n : Nat} : Th H v T n → TyAt H v T
  | .non _ => .non
  | .bl b _ => .bl b
  | .int i _ _ => .int i
  | .str z _ _ => .str z
  | .tup _ _ h _ => .tup h
  | .lst _ _ _ h _ _ => .lst h
  | .dct _ _ h _ => .dct h
theorem Th.mono {H H' : Hp} (s : Same H H') {v : V} {T : String} {n m : Nat} (l : n ≤ m) : Th H v T n → Th H' v T m
  | .non _ => .non _
  | .bl b _ => .bl b _
  | .int i _ h => .int i _ h
  | .str z _ h => .str z _ h
  | .tup x _ h k => .tup x _ (s _ _ h) k
  | .lst x j _ h hj k => .lst x j _ (s _ _ h) (Nat.le_trans hj l) k
  | .dct es _ h k => .dct es _ (s _ _ h) k
theorem isD_flat {H : Hp} : ∀ {v : V}, flatV v = true → Gx.IsD H (valD v) v
  | .non, _ => by unfold valD Gx.IsD; rfl
  | .bl b, _ => by unfold valD Gx.IsD; rfl
  | .int i, _ => by unfold valD Gx.IsD; rfl
  | .str z, _ => by unfold valD Gx.IsD; rfl
theorem allD_flat {H : Hp} : ∀ {xs : List V}, xs.all flatV = true → Gx.AllD H (xs.map valD) xs
  | [], _ => by simp [Gx.AllD]
  | x :: xs, h => by
    rw [List.all_cons, Bool.and_eq_true] at h
    show Gx.AllD H (valD x :: xs.map valD) (x :: xs)
    unfold Gx.AllD
    exact ⟨_, _, rfl, isD_flat h.1, allD_flat h.2⟩
theorem more_flat {x : V} (h : flatV x = true) (j : Nat) : (more x j).all flatV = true := by
  unfold more
  rw [List.all_cons, h, Bool.true_and]
  exact List.all_eq_true.mpr fun v hv => by rw [List.eq_of_mem_replicate hv]; rfl
theorem shown_dict {H : Hp} {a : Addr} {es : List (Key × V)} (ha : H a = some (.dK es)) (h : okE es = true) : ∀ Q : VK, Q (.str (dctD es).shown) H → rShowE [.ref a] H Q := fun Q q => by
  unfold okE at h
  rw [Bool.and_eq_true, Bool.and_eq_true, Bool.and_eq_true] at h
  exact .inr (.inl ⟨a, es, rfl, ha, h.1, h.2.1, of_decide_eq_true h.2.2.1, of_decide_eq_true h.2.2.2, q⟩)
theorem dicts_ok : ∀ es ∈ dicts4, okE es = true := by
  have h : dicts4.all okE = true := by decide +kernel
  exact List.all_eq_true.mp h
theorem dicts_grow : ∀ es ∈ dicts4, putK es (.inr "more") (.int 1) ∈ dicts4 := by
  intro es he
  unfold dicts4 at he
  rcases List.mem_cons.mp he with rfl | he
  · exact .tail _ (.tail _ (.head _))
  rcases List.mem_cons.mp he with rfl | he
  · exact .tail _ (.tail _ (.tail _ (.head _)))
  rcases List.mem_cons.mp he with rfl | he
  · exact .tail _ (.tail _ (.head _))
  obtain rfl := List.mem_singleton.mp he
  exact .tail _ (.tail _ (.tail _ (.head _)))
theorem dicts_len : ∀ es ∈ dicts4, es.length < 1000 := by
  have h : dicts4.all (fun es => decide (es.length < 1000)) = true := by decide +kernel
  exact fun es he => of_decide_eq_true (List.all_eq_true.mp h es he)
theorem Th.shows {H : Hp} {v : V} {T : String} {n : Nat} (h : Th H v T n) (hn : n ≤ 12) : ∃ z : Str, ∀ Q : VK, Q (.str z) H → rShowE [v] H Q := by
  cases h with
  | non => exact ⟨_, fun Q q => r_sh .none (by unfold Gx.IsD; rfl) (by decide +kernel) q⟩
  | bl b => exact ⟨_, fun Q q => r_shB q⟩
  | int i _ h => exact ⟨_, fun Q q => r_shI h q⟩
  | str z _ h => exact ⟨_, fun Q q => r_sh (.str z) (by unfold Gx.IsD; rfl) h q⟩
  | tup x _ ha h =>
    rw [Bool.and_eq_true] at h
    refine ⟨_, fun Q q => r_sh (.tuple [valD x]) ?_ h.2 q⟩
    unfold Gx.IsD
    exact ⟨_, _, rfl, ha, allD_flat (xs := [x]) (by simp [h.1])⟩
  | lst x j _ ha hj h =>
    unfold okL at h
    rw [Bool.and_eq_true] at h
    refine ⟨_, fun Q q => r_sh (.list ((more x j).map valD)) ?_ (List.all_eq_true.mp h.2 j (List.mem_range.mpr (by omega))) q⟩
    unfold Gx.IsD
    exact ⟨_, _, rfl, ha, allD_flat (more_flat h.1 j)⟩
  | dct es _ ha h => exact ⟨_, shown_dict ha (dicts_ok es h)⟩
theorem more_app (x : V) (j : Nat) : more x j ++ [.str "more"] = more x (j + 1) := by
  unfold more
  rw [List.cons_append, List.replicate_succ']
/-- a list, a dict, neither -/
theorem Th.kinds {K : PySem.W.Frag} {H : Hp} {v : V} {T : String} {n : Nat} (h : Th H v T n) :
    (∃ a x j, v = .ref a ∧ T = "list" ∧ H a = some (.lst (more x j)) ∧ j ≤ n ∧ okL x = true) ∨ (∃ a es, v = .ref a ∧ T = "dict" ∧ H a = some (.dK es) ∧ es ∈ dicts4) ∨ (IsI K H v "list" false ∧ IsI K H v "dict" false) := by
  cases h with
  | non => exact .inr (.inr ⟨isI_non (by decide +kernel), isI_non (by decide +kernel)⟩)
  | bl b => exact .inr (.inr ⟨isI_bl (by decide +kernel), isI_bl (by decide +kernel)⟩)
  | int i _ h => exact .inr (.inr ⟨isI_int (by decide +kernel), isI_int (by decide +kernel)⟩)
  | str z _ h => exact .inr (.inr ⟨isI_str (by decide +kernel), isI_str (by decide +kernel)⟩)
  | tup x _ ha h => exact .inr (.inr ⟨isI_tup ha (by decide +kernel), isI_tup ha (by decide +kernel)⟩)
  | lst x j _ ha hj h => exact .inl ⟨_, x, j, rfl, rfl, ha, hj, h⟩
  | dct es _ ha h => exact .inr (.inl ⟨_, es, rfl, rfl, ha, h⟩)
/-! ### what _law_same asks: found, word, thing -/
/-- all but the thing itself stays -/
def But (v : V) (H H' : Hp) : Prop := ∀ c u, v ≠ .ref c → H c = some u → H' c = some u
theorem But.trans {v : V} {H H1 H2 : Hp} (a : But v H H1) (b : But v H1 H2) : But v H H2 := fun c u n h => b c u n (a c u n h)
theorem But.of {v : V} {H H' : Hp} (s : Same H H') : But v H H' := fun c u _ h => s c u h
def spSame : Sp := fun vs H Q _ => ∃ (p : Addr) (wd : Str) (t : V) (T : String) (n : Nat), vs = [.ref p, .str wd, t] ∧ H p = some (.lst [.str wd, t]) ∧ Th H t T n ∧ n < 12 ∧ t ≠ .ref p ∧ ∀ H', But t H H' → Th H' t T (n + 1) → Q (.bl true) H'
theorem r_dset {a : Addr} {i v : V} {H : Hp} {QH : Hp → Prop} {k : Key} {es : List (Key × V)} (e : i = kV k) (h : H a = some (.dK es)) (l : es.length < 1000) (q : QH (upd H a (.dK (putK es k v)))) : rSetD (.ref a) i v H QH := by
  subst e
  exact ⟨a, _, rfl, .k h (Nat.lt_trans l (by rw [sizeLine_eq]; decide)), q⟩
end Gx
set_option linter.all false
set_option maxRecDepth 100000
set_option maxHeartbeats 4000000
namespace Gx
open PySem PySem.Spec PyProof.Rows L2
/-! ### things that grow beside each other and beside a box -/
theorem Th.at {H H' : Hp} {v : V} {T : String} {n m : Nat} (l : n ≤ m) (h : Th H v T n) (s : ∀ c u, v = .ref c → H c = some u → H' c = some u) : Th H' v T m := by
  cases h with
  | non => exact .non _
  | bl b => exact .bl b _
  | int i _ h => exact .int i _ h
  | str z _ h => exact .str z _ h
  | tup x _ ha k => exact .tup x _ (s _ _ rfl ha) k
  | lst x j _ ha hj k => exact .lst x j _ (s _ _ rfl ha) (Nat.le_trans hj l) k
  | dct es _ ha k => exact .dct es _ (s _ _ rfl ha) k
theorem Th.there {H : Hp} {v : V} {T : String} {n : Nat} (h : Th H v T n) : ∀ c, v = .ref c → H c ≠ none := by
  intro c e
  cases h with
  | tup x _ ha k => cases e; rw [ha]; exact Option.some_ne_none _
  | lst x j _ ha hj k => cases e; rw [ha]; exact Option.some_ne_none _
  | dct es _ ha k => cases e; rw [ha]; exact Option.some_ne_none _
  | _ => cases e
theorem Bx.same {n : Nat} {H H' : Hp} {b : Addr} (B : Bx n H b) (s : Same H H') : Bx n H' b := by
  obtain ⟨x, y, z, e, r⟩ := B
  exact ⟨x, y, z, s _ _ e, r⟩
theorem Bx.but {n : Nat} {H H' : Hp} {b : Addr} {v : V} (B : Bx n H b) (nb : v ≠ .ref b) (s : But v H H') : Bx n H' b := by
  obtain ⟨x, y, z, e, r⟩ := B
  exact ⟨x, y, z, s _ _ nb e, r⟩
theorem Bx.some {n : Nat} {H : Hp} {b : Addr} (B : Bx n H b) : H b ≠ none := by
  obtain ⟨x, y, z, e, r⟩ := B
  rw [e]
  exact Option.some_ne_none _
theorem Off.same {b : Addr} {H H' : Hp} (s : Same H H') : Off b H H' := fun c u _ h => s c u h
structure Keep (G0 : Hp) (b : Addr) (n : Nat) (u v : V) (S T : String) (H : Hp) (m k : Nat) : Prop where
  bx : Bx n H b
  a : Th H u S m
  c : Th H v T k
  of : Off b G0 H
section
variable {G0 : Hp} {b : Addr} {n : Nat} {u v : V} {S T : String} {H H1 H2 : Hp} {m k : Nat}
theorem Keep.fst (h : Keep G0 b n u v S T H m k) (s : Same H H1) (bt : But u H1 H2) (t : Th H2 u S (m + 1)) (nb : u ≠ .ref b) (nv : ∀ c, u = .ref c → v ≠ .ref c) (ng : ∀ c, u = .ref c → G0 c = none) : Keep G0 b n u v S T H2 (m + 1) k :=
  ⟨(h.bx.same s).but nb bt, t, h.c.at (Nat.le_refl _) fun c o e hc => bt c o (fun z => nv c z e) (s c o hc), fun c o nc hc => bt c o (fun z => by rw [ng c z] at hc; cases hc) (s c o (h.of c o nc hc))⟩
theorem Keep.snd (h : Keep G0 b n u v S T H m k) (s : Same H H1) (bt : But v H1 H2) (t : Th H2 v T (k + 1)) (nb : v ≠ .ref b) (nv : ∀ c, u = .ref c → v ≠ .ref c) (ng : ∀ c, v = .ref c → G0 c = none) : Keep G0 b n u v S T H2 m (k + 1) :=
  ⟨(h.bx.same s).but nb bt, h.a.at (Nat.le_refl _) fun c o e hc => bt c o (nv c e) (s c o hc), t, fun c o nc hc => bt c o (fun z => by rw [ng c z] at hc; cases hc) (s c o (h.of c o nc hc))⟩
end
/-- an item of a list at an open place, with what holds of all of them -/
theorem r_ixP {K : PySem.W.Frag} {H : Hp} {Q : VK} {p : Addr} {d : Int} {xs : List V} {R : V → Prop} (h : H p = some (.lst xs)) (hx : ∀ v ∈ xs, R v) (h0 : 0 ≤ d) (h1 : d < (xs.length : Int)) (q : ∀ v, R v → Q v H) : rIxL K (.ref p) (.int d) H Q := by
  have hd : d.toNat < xs.length := by omega
  exact ⟨p, xs, d, _, rfl, rfl, SqL.of h, at_pos h0 hd, q _ (hx _ (List.getElem_mem hd))⟩
theorem r_dn {σ : L2.St} {H : Hp} {Q : VK} (q : ∀ p, H p = none → Q (.ref p) (upd H p (.dK []))) : tDNewK σ H Q := q
theorem r_disp1 {σ : L2.St} {H : Hp} {Q : VK} {z : Str} {v : V} (q : ∀ p, H p = none → Q (.ref p) (upd H p (.dK [(.inr z, v)]))) : tDisp [(tC (.str z), tC v)] σ H Q := fun p hp => by
  refine ⟨upd_same, [(.inr z, v)], rfl, Nat.le_of_ble_eq_true rfl, ?_⟩
  rw [upd_upd]
  exact q p hp
end Gx
set_option linter.all false
set_option maxRecDepth 100000
set_option maxHeartbeats 4000000
namespace Gx
open PySem PySem.Spec PyProof.Rows L2
/-! ### defs that run under any guards, as their callers see them -/
structure CalO (P : Program) (w : World) (K : PySem.W.Frag) (mg : Str → Option Value) (base : Heap) (k : Nat) (x : Str) (ps : List Str) (sp : Sp) : Prop where
  ex : ∃ f fd, FnOk P w K mg base (L2.CX P w) k f fd ps sp ∧ mg x = some (.ref f) ∧ PySem.W.keepIn K (.ref f) = true ∧ Binds K fd ps []
section
variable {P : Program} {w : World} {K : PySem.W.Frag} {mg : Str → Option Value} {base : Heap} {k : Nat} {x : Str} {st : Stmt} {ps : List Str} {sp : Sp}
theorem DefIn.calo (D : DefIn K mg x st) (ok : ∀ {f fd}, Fun K x x st f fd → FnOk P w K mg base (L2.CX P w) k f fd ps sp)
    (h : ∀ (kV doc pm : Value) (an : Option Addr) (cdv ct : Value) (us : List Value), us.length = ps.length → bindArgs (PySem.W.fnOf x x (defArgs st) (defBody st) (defScope st) .none kV doc pm an cdv ct) ⟨us, []⟩ = pure (ps.zip us)) :
    CalO P w K mg base k x ps sp := by
  obtain ⟨f, fd, F, hm⟩ := D.ex
  exact ⟨f, fd, ok F, hm, F.kp, F.binds h⟩
theorem CalO.at {a : Addr} (C : CalO P w K mg base k x ps sp) (hm : mg x = some (.ref a)) : ∃ fd ps, FnOk P w K mg base (L2.CX P w) k a fd ps sp ∧ PySem.W.keepIn K (.ref a) = true ∧ Binds K fd ps [] := by
  obtain ⟨g, dg, FG, mG, kG, bG⟩ := C.ex
  have e := mG.symm.trans hm
  cases e
  exact ⟨dg, _, FG, kG, bG⟩
end
section
variable {X : Cx} {k : Nat} {ps : List Str} {sp : Sp} {x : Str} {p pos : Pos} {e : Expr} {es : List Expr} {t : TA} {E : L2.St → XK} {Cl : Addr → Sp → Prop} {fe : Expr} {te : TE}
theorem pe_o (C : CalO X.prog X.w X.K X.mg X.base k x ps sp) (hr : Room k X.A) (hx : ∀ σ, PassesAt (L2.CX X.prog X.w) X σ (E σ)) (ha : PA X (e :: es) t) (hg : Gl X x := by rfl) (hdb : (x == ("__debug__" : Str)) = false := by decide)
    (he : starEach (e :: es) X.env = (false, eval e X.env) :: starEach es X.env := by rfl) (hpl : (backTo pos (starEach es X.env)).any (·.1) = false := by rfl) : PE X (.Call (.Name x p) (e :: es) [] pos) (tG sp E t) := by
  obtain ⟨f, fd, F, hm, hk, hb⟩ := C.ex
  refine ⟨fun pins s σ H Q I h => wpAny_Call_Name_kw (ld_glob I hg hm (PySem.W.callWith_K (h₀ := X.base) I.ok.mod.kin hk (thn (ha.run pos pins s σ H _ I h) ?_) he hpl) hdb)⟩
  rintro us s1 ⟨vs, H1, I1, r, q⟩
  refine ⟨I1.kIn, ?_⟩
  have hl : us.length = ps.length := r.length.symm.trans (F.len _ _ _ _ q)
  have b := hb s1 us I1.kIn (by simpa using hl)
  rw [List.append_nil] at b
  refine wpAny_call (codeAny_mono (F.run X.A X.stack s1 H1 ⟨us, []⟩ us vs Q (E σ) hr I1.env0 b r q) fun r s' hq => ?_)
  match r, hq with
  | .error e, hq => exact hx σ pins H1 s1 e s' I1 hq
  | .ok (.ret u), hq => exact I1.after hq
  | .ok .next, hq => exact hq.elim
  | .ok .brk, hq => exact hq.elim
  | .ok .cont, hq => exact hq.elim
theorem pe_calo (hCl : ∀ f sp, Cl f sp → ∃ fd ps, FnOk X.prog X.w X.K X.mg X.base (L2.CX X.prog X.w) k f fd ps sp ∧ PySem.W.keepIn X.K (.ref f) = true ∧ Binds X.K fd ps []) (hr : Room k X.A) (hx : ∀ σ, PassesAt (L2.CX X.prog X.w) X σ (E σ)) (hf : PE X fe te) (ha : PA X (e :: es) t)
    (hev : eval (.Call fe (e :: es) [] pos) X.env = (do callWith pos (← eval fe X.env) [] (backTo pos (starEach (e :: es) X.env)) (backToKw pos (keywordEach [] X.env))) := by rfl)
    (he : starEach (e :: es) X.env = (false, eval e X.env) :: starEach es X.env := by rfl) (hpl : (backTo pos (starEach es X.env)).any (·.1) = false := by rfl) :
    PE X (.Call fe (e :: es) [] pos) (tCalV Cl E te t) := by
  refine ⟨fun pins s σ H Q I h => Call_ (thn (hf.run pins s σ H _ I h) fun u s1 hu => ?_) hev⟩
  obtain ⟨y, H1, I1, r1, f, sp, rfl, cl, q1⟩ := hu
  obtain rfl : u = Value.ref f := r1
  obtain ⟨fd, ps, F, hk, hb⟩ := hCl f sp cl
  refine PySem.W.callWith_K (h₀ := X.base) I1.ok.mod.kin hk (thn (ha.run pos pins s1 σ H1 _ I1 q1) ?_) he hpl
  rintro us s2 ⟨vs, H2, I2, r, q⟩
  refine ⟨I2.kIn, ?_⟩
  have hl : us.length = ps.length := r.length.symm.trans (F.len _ _ _ _ q)
  have b := hb s2 us I2.kIn (by simpa using hl)
  rw [List.append_nil] at b
  refine wpAny_call (codeAny_mono (F.run X.A X.stack s2 H2 ⟨us, []⟩ us vs Q (E σ) hr I2.env0 b r q) fun r s' hq => ?_)
  match r, hq with
  | .error e, hq => exact hx σ pins H2 s2 e s' I2 hq
  | .ok (.ret u), hq => exact I2.after hq
  | .ok .next, hq => exact hq.elim
  | .ok .brk, hq => exact hq.elim
  | .ok .cont, hq => exact hq.elim
theorem r_calv {σ : L2.St} {H : Hp} {Q : VK} (h : te σ H fun u H1 => ∃ f sp, u = .ref f ∧ Cl f sp ∧ t σ H1 fun vs H2 => sp vs H2 Q (E σ)) : tCalV Cl E te t σ H Q := h
end
/-! ### an attribute as a target -/
def gFld (K : PySem.W.Frag) (to : TE) (g : Str) : TG := fun v σ H Q => to σ H fun x H1 => ∃ a C dx fs, x = .ref a ∧ H1 a = some (.ins C dx fs) ∧ Cls K C ∧ NoAttr K C g ∧ fs.length < 1000 ∧ Q σ (upd H1 a (.ins C dx (putF g v fs)))
section
variable {X : Cx} {o : Expr} {to : TE} {g : Str} {pos : Pos}
theorem pg_fld (ho : PE X o to)
    (ha : ∀ v, assign (.Attribute o g pos) X.env v = (do
      let own ← holding [v] (eval o X.env)
      standAt pos.atName
      holding [v, own] (setAttr own g v)
      release [v, own] []) := by intro _; rfl) : PG X (.Attribute o g pos) (gFld X.K to g) := by
  refine ⟨fun pins s σ H v u Q I r h => ?_⟩
  rw [ha]
  refine wpAny_bind (wpAny_holding (thn (ho.run pins s σ H _ I h) fun ov s1 hq => ?_))
  obtain ⟨x, H1, I1, r1, a, C, dx, fs, rfl, ea, c, n, l, q⟩ := hq
  obtain rfl : ov = Value.ref a := r1
  exact wpAny_bind (wpAny_standAt (wpAny_bind (wpAny_holding (setattr_ok I1 ea c n l r fun s2 I2 => wpAny_release ⟨σ, _, I2, q⟩))))
theorem r_gfld {v : V} {σ : L2.St} {H : Hp} {Q : L2.St → Hp → Prop} {K : PySem.W.Frag} (h : to σ H fun x H1 => ∃ a C dx fs, x = .ref a ∧ H1 a = some (.ins C dx fs) ∧ Cls K C ∧ NoAttr K C g ∧ fs.length < 1000 ∧ Q σ (upd H1 a (.ins C dx (putF g v fs)))) : gFld K to g v σ H Q := h
end
theorem r_gc {σ : L2.St} {H : Hp} {QS : L2.St → Hp → Prop} {g : TG} {r : TGs} {v : V} {vs : List V} (h : g v σ H fun s h => r vs s h QS) : gCons g r (v :: vs) σ H QS := ⟨v, vs, rfl, h⟩
theorem r_gn {σ : L2.St} {H : Hp} {QS : L2.St → Hp → Prop} (q : QS σ H) : gNil [] σ H QS := ⟨rfl, q⟩
end Gx
set_option linter.all false
set_option maxRecDepth 100000
set_option maxHeartbeats 4000000
namespace K8
open PySem PySem.Spec PyProof.Rows L2 Gx
local macro_rules | `(tactic| walk_at "rd1") => `(tactic| with_reducible first
  | refine r_var rfl ?_ | refine r_c ?_ | refine r_op ?_ | refine r_un ?_ | refine r_I0 ?_ | refine r_neg ?_ | refine r_test ?_ | refine r_B ?_ | refine r_bl ?_ | refine r_blx ?_
  | refine r_seq ?_ | refine r_ret ?_ | refine r_asg ?_ | refine r_name ?_ | refine r_gsub ?_ | refine r_if ?_ | refine r_next ?_ | refine r_drop ?_ | refine r_cb ?_ | refine r_nil ?_ | refine r_cons ?_
  | refine r_g ?_ | refine r_k ?_ | refine r_lst ?_ | refine r_tup ?_ | refine r_notV ?_ | refine r_ifE ?_ | refine r_and ?_ | refine r_or ?_ | refine r_not ?_ | refine r_chain ?_
  | refine r_sl ?_ | refine r_part ?_ | refine r_nop ?_ | refine r_par3 ?_ | refine r_is3 ?_ | refine r_par2 ?_ | refine r_is2 ?_ | refine r_m0 ?_ | refine r_ei ?_ | refine r_nx ?_ | refine r_rt ?_ | refine r_ct ?_ | refine r_eq rfl ?_ | refine r_ne rfl ?_ | refine iteT ?_ | refine iteF ?_ | refine iteNF ?_ | refine iteNT ?_
  | (refine r_fdivK ?hc ?_; (case hc => decide +kernel)) | (refine r_modK ?hc ?_; (case hc => decide +kernel)) | (refine r_mulL ?hc ?_; (case hc => decide +kernel)) | (refine r_mulR ?hc ?_; (case hc => decide +kernel)) | (refine r_powK ?hc ?_; (case hc => decide +kernel)) | fail "no step")
local macro_rules | `(tactic| walk_at "rd") => `(tactic| repeat' walk_at "rd1")
def tp (i : Nat) : Stmt := PySem.Challenge.pw_cordsounds_k08_shapes_by_their_gates.main.body.getD i (.Pass ⟨0, 0, 0, 0⟩)
abbrev s_is_number : Stmt := tp 16
abbrev s_is_whole : Stmt := tp 17
abbrev s_is_name : Stmt := tp 18
abbrev s_is_worth : Stmt := tp 19
abbrev s_is_shape : Stmt := tp 40
abbrev s_is_part : Stmt := tp 48
abbrev s_has_factors : Stmt := tp 49
abbrev s_kept_at_first : Stmt := tp 57
abbrev s_form : Stmt := tp 74
abbrev s_are_ins : Stmt := tp 75
abbrev s_shape_word : Stmt := tp 65
abbrev s_shape_moved : Stmt := tp 66
abbrev s_shape_step : Stmt := tp 64
abbrev s_law_cell : Stmt := tp 78
abbrev s_law_box : Stmt := tp 79
abbrev s_take : Stmt := tp 80
abbrev s_law_shape : Stmt := tp 81
abbrev s_law_went : Stmt := tp 82
abbrev s_law : Stmt := tp 83
abbrev s_init_NoPart : Stmt := inClass (tp 6) 0
abbrev s_init_NoIns : Stmt := inClass (tp 7) 0
abbrev s_w_init : Stmt := inClass (tp 76) 0
abbrev s_w_sample : Stmt := inClass (tp 76) 3
abbrev s_w_was_folded : Stmt := inClass (tp 76) 4
abbrev s_w_give : Stmt := inClass (tp 76) 5
abbrev s_w_stands : Stmt := inClass (tp 76) 6
structure Txt (K : PySem.W.Frag) (mg : Str → Option Value) (w : World) (CP CI CW : Addr) : Prop where
  d_is_number : DefIn K mg "is_number" s_is_number
  d_is_whole : DefIn K mg "is_whole" s_is_whole
  d_is_name : DefIn K mg "is_name" s_is_name
  d_is_worth : DefIn K mg "is_worth" s_is_worth
  d_is_shape : DefIn K mg "_is_shape" s_is_shape
  d_is_part : DefIn K mg "is_part" s_is_part
  d_has_factors : DefIn K mg "has_factors" s_has_factors
  d_kept_at_first : DefIn K mg "_kept_at_first" s_kept_at_first
  d_form : DefIn K mg "_form" s_form
  d_are_ins : DefIn K mg "_are_ins" s_are_ins
  d_shape_word : DefIn K mg "_shape_word" s_shape_word
  d_shape_moved : DefIn K mg "_shape_moved" s_shape_moved
  d_shape_step : DefIn K mg "_shape_step" s_shape_step
  d_cell : DefIn K mg "_law_cell" s_law_cell
  d_box : DefIn K mg "_law_box" s_law_box
  d_take : DefIn K mg "_law_take" s_take
  d_shape : DefIn K mg "_law_shape" s_law_shape
  d_went : DefIn K mg "_law_went" s_law_went
  g_LEAST : ∃ u, mg "LEAST" = some u ∧ RelV (.int (-2048)) u
  g_GREATEST : ∃ u, mg "GREATEST" = some u ∧ RelV (.int (2047)) u
  g_NAME_LENGTH : ∃ u, mg "NAME_LENGTH" = some u ∧ RelV (.int (8)) u
  g_MOST_INS : ∃ u, mg "MOST_INS" = some u ∧ RelV (.int (8)) u
  g_TOP : ∃ u, mg "TOP" = some u ∧ RelV (.int (2047)) u
  n_isinstance : mg "isinstance" = none
  n_int : mg "int" = none
  n_bool : mg "bool" = none
  n_str : mg "str" = none
  n_tuple : mg "tuple" = none
  n_dict : mg "dict" = none
  n_len : mg "len" = none
  n_max : mg "max" = none
  n_min : mg "min" = none
  n_repr : mg "repr" = none
  n_range : mg "range" = none
  n_all : mg "all" = none
  u_SoundError : ∃ S, UpC K mg "SoundError" S
  x_NoPart : OwnX K mg "NoPart" "NoPart.__init__" s_init_NoPart "found" CP
  x_NoIns : OwnX K mg "NoIns" "NoIns.__init__" s_init_NoIns "found" CI
  g_CHECKS : ∃ D es n f, mg "_CHECKS" = some (.ref D) ∧ KDict K w D es n ∧ PySem.W.nsIn K D "shape" = some (some (.ref f)) ∧ mg "_is_shape" = some (.ref f)
  g_AT_FIRST : ∃ D t, mg "_AT_FIRST" = some (.ref D) ∧ KDct K w D "shape" (.ref t) ∧ ∀ H, SqT K H t [.int 0, .str "rest"]
  g_STEPS : ∃ D f, mg "_STEPS" = some (.ref D) ∧ KDct K w D "shape" (.ref f) ∧ mg "_shape_step" = some (.ref f)
  w_gl : mg "Worker" = some (.ref CW)
  w_cls : Cls K CW
  w_part : NoAttr K CW "_part"
  w_kept : NoAttr K CW "_kept"
  w_fold : NoAttr K CW "_folded_last"
  w_init : ∃ f fd, Mk K CW f ∧ Fun K "__init__" "Worker.__init__" s_w_init f fd
  w_m_sample : ∃ f fd, Meth K CW "sample" f ∧ Fun K "sample" "Worker.sample" s_w_sample f fd
  w_m_was_folded : ∃ f fd, Meth K CW "was_folded" f ∧ Fun K "was_folded" "Worker.was_folded" s_w_was_folded f fd
  w_m_give : ∃ f fd, Meth K CW "give" f ∧ Fun K "give" "Worker.give" s_w_give f fd
  w_m_stands : ∃ f fd, Meth K CW "stands" f ∧ Fun K "stands" "Worker.stands" s_w_stands f fd
section
variable {P : Program} {w : World} {K : PySem.W.Frag} {mg : Str → Option Value} {base : Heap} {f : Addr} {fd : FuncData} {CP CI CW : Addr}
theorem sc_init_NoPart : FnScope ["self", "found"] ["self", "found"] (defScope s_init_NoPart) := ⟨rfl, rfl, rfl, by decide +kernel, rfl, by decide +kernel, by decide +kernel⟩
theorem ok_init_NoPart (T : Txt K mg w CP CI CW) {C : Addr} (F : Fun K "__init__" "NoPart.__init__" s_init_NoPart f fd) : FnOk P w K mg base CX0 1 f fd ["self", "found"] (spEI K C "found") := by
  obtain ⟨S, U⟩ := T.u_SoundError
  refine F.ok sc_init_NoPart (fun vs H Q E h => ?_) (fun cdv A outer s H vs Q E hr h => ?_)
  · obtain ⟨_, _, rfl, _⟩ := h
    rfl
  · obtain ⟨a, v, rfl, O, no, ha, q⟩ := h
    refine ⟨_, (pss_cons (ps_expr (pe_upinit U (pa_cons (pv 0) (pa_cons pe_str pa_nil)))) (pss_one (ps_ost (pv 0) (pv 1)))), ?_⟩
    refine r_seq ?_
    refine r_drop ?_
    refine r_vei ?_
    walk_at "rd"
    refine ⟨a, C, _, rfl, by decide, O, ha, ?_⟩
    walk_at "rd"
    refine r_ost ?_
    walk_at "rd"
    exact ⟨a, C, rfl, O, no, .inl ⟨ha, fun d hd n => q d hd n⟩⟩
theorem b_init_NoPart : ∀ (kV doc pm : Value) (an : Option Addr) (cdv ct : Value) (us : List Value), us.length = (["self", "found"] : List Str).length → bindArgs (PySem.W.fnOf "__init__" "NoPart.__init__" (defArgs s_init_NoPart) (defBody s_init_NoPart) (defScope s_init_NoPart) .none kV doc pm an cdv ct) ⟨us, []⟩ = pure ((["self", "found"] : List Str).zip us) :=
  fun _ _ _ _ _ _ us hl => match us, hl with | [_, _], _ => rfl
theorem sc_init_NoIns : FnScope ["self", "found"] ["self", "found"] (defScope s_init_NoIns) := ⟨rfl, rfl, rfl, by decide +kernel, rfl, by decide +kernel, by decide +kernel⟩
theorem ok_init_NoIns (T : Txt K mg w CP CI CW) {C : Addr} (F : Fun K "__init__" "NoIns.__init__" s_init_NoIns f fd) : FnOk P w K mg base CX0 1 f fd ["self", "found"] (spEI K C "found") := by
  obtain ⟨S, U⟩ := T.u_SoundError
  refine F.ok sc_init_NoIns (fun vs H Q E h => ?_) (fun cdv A outer s H vs Q E hr h => ?_)
  · obtain ⟨_, _, rfl, _⟩ := h
    rfl
  · obtain ⟨a, v, rfl, O, no, ha, q⟩ := h
    refine ⟨_, (pss_cons (ps_expr (pe_upinit U (pa_cons (pv 0) (pa_cons pe_str pa_nil)))) (pss_one (ps_ost (pv 0) (pv 1)))), ?_⟩
    refine r_seq ?_
    refine r_drop ?_
    refine r_vei ?_
    walk_at "rd"
    refine ⟨a, C, _, rfl, by decide, O, ha, ?_⟩
    walk_at "rd"
    refine r_ost ?_
    walk_at "rd"
    exact ⟨a, C, rfl, O, no, .inl ⟨ha, fun d hd n => q d hd n⟩⟩
theorem b_init_NoIns : ∀ (kV doc pm : Value) (an : Option Addr) (cdv ct : Value) (us : List Value), us.length = (["self", "found"] : List Str).length → bindArgs (PySem.W.fnOf "__init__" "NoIns.__init__" (defArgs s_init_NoIns) (defBody s_init_NoIns) (defScope s_init_NoIns) .none kV doc pm an cdv ct) ⟨us, []⟩ = pure ((["self", "found"] : List Str).zip us) :=
  fun _ _ _ _ _ _ us hl => match us, hl with | [_, _], _ => rfl
theorem sc_take : FnScope ["box", "most", "digit", "one", "two"] ["box", "most"] (defScope s_take) := ⟨rfl, rfl, rfl, by decide +kernel, rfl, by decide +kernel, by decide +kernel⟩
theorem ok_take (F : Fun K "_law_take" "_law_take" s_take f fd) : FnG P w K mg base (L2.CX P w) 1 f fd ["box", "most"] spTake := by
  refine fnG F sc_take (fun vs H Q E h => ?_) (fun cdv A outer s H vs Q E hG hr h => ?_)
  · obtain ⟨b, size, n, rfl, _⟩ := h
    rfl
  · obtain ⟨b, size, n, rfl, h1, h2, B, hn, k⟩ := h
    have nd := sc_take.nd
    refine ⟨_, (pss_cons (ps_if (pt_cmpR op_gt (pe_ix ix_list (pv 0) pe_int (fun _ _ => rfl)) pe_int (nomark _)) (pss_cons (ps_set (i := 2) nd rfl (Or.inl rfl) (pe_op op_mod (pe_ix ix_list (pv 0) pe_int (fun _ _ => rfl)) (pv 1)))
        (pss_cons (ps_asg (pe_op op_fdivW (pe_ix ix_list (pv 0) pe_int (fun _ _ => rfl)) (pv 1)) (pg_sub (pv 0) pe_int set_list))
        (pss_one (ps_ret (pv 2))))) pss_nil)
        (pss_cons (ps_asg (pe_op op_add (pe_ix ix_list (pv 0) pe_int (fun _ _ => rfl)) pe_int) (pg_sub (pv 0) pe_int set_list))
        (pss_cons (ps_set (i := 3) nd rfl (Or.inl rfl) (pe_op op_mod (pe_op op_pow (pe_op op_add (pe_op op_add (pe_ix ix_list (pv 0) pe_int (fun _ _ => rfl)) (pe_op op_mul pe_int (pe_ix ix_list (pv 0) pe_int (fun _ _ => rfl)))) pe_int) pe_int) pe_int))
        (pss_cons (ps_set (i := 4) nd rfl (Or.inl rfl) (pe_op op_mod (pe_op op_pow (pe_op op_add (pe_op op_add (pe_op op_fdiv (pv 3) pe_int) (pe_op op_mul pe_int (pe_ix ix_list (pv 0) pe_int (fun _ _ => rfl)))) pe_int) pe_int) pe_int))
        (pss_one (ps_ret (pe_op op_mod (pe_op op_add (pe_op op_fdiv (pv 3) pe_int) (pe_op op_mul pe_int (pe_op op_fdiv (pv 4) pe_int))) (pv 1)))))))), ?_⟩
    obtain ⟨x, y, z, hb, x0, y0, y1, z0, z1⟩ := B
    walk_at "rd"
    refine r_ixLs (j := 0) hb rfl rfl ?_
    walk_at "rd"
    refine ite2 (fun c => ?_) (fun c => ?_)
    · have c' : 0 < x := of_decide_eq_true c
      walk_at "rd"
      refine r_ixLs (j := 0) hb rfl rfl ?_
      walk_at "rd"
      refine r_I h1 ?_
      walk_at "rd"
      refine r_ixLs (j := 0) hb rfl rfl ?_
      walk_at "rd"
      refine r_I (wide_div (b := 200) h1 (by omega) (by decide) (by decide)) ?_
      walk_at "rd"
      refine r_setL hb rfl ?_
      walk_at "rd"
      exact k (x % size) _ (Int.emod_nonneg _ (by omega)) (Int.emod_lt_of_pos _ h1) ⟨x / size, y, z, upd_same, Int.ediv_nonneg x0 (by omega), y0, y1, z0, by omega⟩ Off.upd
    · walk_at "rd"
      refine r_ixLs (j := 2) hb rfl rfl ?_
      walk_at "rd"
      refine r_setL hb rfl ?_
      walk_at "rd"
      refine r_ixLs (j := 1) upd_same rfl rfl ?_
      walk_at "rd"
      refine r_ixLs (j := 2) upd_same rfl rfl ?_
      walk_at "rd"
      refine r_I ⟨by decide, by decide, by omega⟩ ?_
      walk_at "rd"
      generalize (y + 15485867 * (z + 1) + 3) ^ (5 : Int).toNat = one0
      have o1 := Int.emod_nonneg one0 (show (2147483647 : Int) ≠ 0 by decide)
      have o2 := Int.emod_lt_of_pos one0 (show (0 : Int) < 2147483647 by decide)
      revert o1 o2
      generalize one0 % 2147483647 = one
      intro o1 o2
      refine r_ixLs (j := 2) upd_same rfl rfl ?_
      walk_at "rd"
      refine r_I ⟨by decide, by decide, by omega⟩ ?_
      walk_at "rd"
      refine r_I h1 ?_
      walk_at "rd"
      exact k _ _ (Int.emod_nonneg _ (by omega)) (Int.emod_lt_of_pos _ h1) ⟨x, y, z + 1, upd_same, x0, y0, y1, by omega, by omega⟩ Off.upd
theorem c_law_take (T : Txt K mg w CP CI CW) : Cal P w K mg base (L2.CX P w) 1 "_law_take" ["box", "most"] spTake :=
  T.d_take.cal (fun F => ok_take F) fun _ _ _ _ _ _ us hl => match us, hl with | [_, _], _ => rfl
/-! ### _law_cell, _law_box, _law_sign -/
def spCell (K : PySem.W.Frag) : Sp := fun vs H Q _ => ∃ (a : Addr) (ns : List Int) (j : Nat), vs = [.ref a, .int (j : Int)] ∧ SqL K H a (ns.map V.int) ∧ ∀ i : Int, Q (.int i) H
theorem sc_law_cell : FnScope ["script", "k"] ["script", "k"] (defScope s_law_cell) := ⟨rfl, rfl, rfl, by decide +kernel, rfl, by decide +kernel, by decide +kernel⟩
theorem ok_law_cell (T : Txt K mg w CP CI CW) (F : Fun K "_law_cell" "_law_cell" s_law_cell f fd) : FnG P w K mg base (L2.CX P w) 1 f fd ["script", "k"] (spCell K) := by
  refine fnG F sc_law_cell (fun vs H Q E h => ?_) (fun cdv A outer s H vs Q E hG hr h => ?_)
  · obtain ⟨_, _, _, rfl, _⟩ := h
    rfl
  · obtain ⟨a, ns, j, rfl, hS, q⟩ := h
    refine ⟨_, (pss_cons (ps_if (pt_cmpR op_lt (pv 1) (pe_callB call_len_seq (by rfl) T.n_len PySem.boot_len (pa_cons (pv 0) pa_nil)) (nomark _)) (pss_one (ps_ret (pe_ix ix_list (pv 0) (pv 1) (fun _ _ => rfl)))) pss_nil)
        (pss_one (ps_ret (pe_op op_add (pe_op op_mul pe_int (pv 1)) pe_int)))), ?_⟩
    walk_at "rd"
    refine ⟨a, _, rfl, .inl hS, ?_⟩
    walk_at "rd"
    refine ite2 (fun c => ?_) (fun c => ?_)
    · have c' : (j : Int) < ((ns.map V.int).length : Int) := of_decide_eq_true c
      have hj : j < ns.length := by rw [List.length_map] at c'; omega
      walk_at "rd"
      refine r_ixL (j := j) (v := .int ns[j]) hS rfl (by simp [hj]) ?_
      exact q _
    · walk_at "rd"
      exact q _
theorem c_law_cell (T : Txt K mg w CP CI CW) : Cal P w K mg base (L2.CX P w) 1 "_law_cell" ["script", "k"] (spCell K) :=
  T.d_cell.cal (fun F => ok_law_cell T F) fun _ _ _ _ _ _ us hl => match us, hl with | [_, _], _ => rfl
def spBox : Sp := fun vs H Q _ => ∃ i : Int, vs = [.int i] ∧ ∀ b H', H b = none → Bx 0 H' b → Same H H' → Q (.ref b) H'
theorem sc_law_box : FnScope ["cell"] ["cell"] (defScope s_law_box) := ⟨rfl, rfl, rfl, by decide +kernel, rfl, by decide +kernel, by decide +kernel⟩
theorem ok_law_box (T : Txt K mg w CP CI CW) (F : Fun K "_law_box" "_law_box" s_law_box f fd) : FnG P w K mg base (L2.CX P w) 1 f fd ["cell"] spBox := by
  refine fnG F sc_law_box (fun vs H Q E h => ?_) (fun cdv A outer s H vs Q E hG hr h => ?_)
  · obtain ⟨_, rfl, _⟩ := h
    rfl
  · obtain ⟨i, rfl, q⟩ := h
    refine ⟨_, (pss_one (ps_ret (pe_lst (pa_cons (pe_callB (call_max2 rfl) (by rfl) T.n_max (by decide +kernel) (pa_cons pe_int (pa_cons (pe_op op_sub (pv 0) (pe_op op_pow pe_int pe_int)) pa_nil))) (pa_cons (pe_op op_mod (pv 0) pe_int) (pa_cons pe_int pa_nil)))))), ?_⟩
    walk_at "rd"
    refine ⟨_, _, rfl, ?_⟩
    walk_at "rd"
    refine r_new rfl fun b hb => ?_
    refine q b _ hb ⟨_, _, 0, upd_same, ?_, Int.emod_nonneg _ (by decide), ?_, by decide, by decide⟩ fun c o hc => by rw [upd_ne (ne_of_none hc hb)]; exact hc
    · split <;> omega
    · have := Int.emod_lt_of_pos i (show (0 : Int) < 2147483629 by decide)
      omega
theorem c_law_box (T : Txt K mg w CP CI CW) : Cal P w K mg base (L2.CX P w) 1 "_law_box" ["cell"] spBox :=
  T.d_box.cal (fun F => ok_law_box T F) fun _ _ _ _ _ _ us hl => match us, hl with | [_], _ => rfl
def spNumber (K : PySem.W.Frag) : Sp := fun vs H Q _ => ∃ v bi bb, vs = [v] ∧ IsI K H v "int" bi ∧ (bi = true → IsI K H v "bool" bb) ∧ Q (.bl (bi && !bb)) H
theorem sc_is_number : FnScope ["thing"] ["thing"] (defScope s_is_number) := ⟨rfl, rfl, rfl, by decide +kernel, rfl, by decide +kernel, by decide +kernel⟩
theorem ok_is_number (T : Txt K mg w CP CI CW) (F : Fun K "is_number" "is_number" s_is_number f fd) : FnOk P w K mg base (L2.CX P w) 1 f fd ["thing"] (spNumber K) := by
  refine F.okX sc_is_number (fun vs H Q E h => ?_) (fun cdv A outer s H vs Q E hr h => ?_)
  · obtain ⟨_, _, _, rfl, _⟩ := h
    rfl
  · obtain ⟨v, bi, bb, rfl, h1, h2, q⟩ := h
    refine ⟨_, (pss_one (ps_ret (pe_and (pe_callB call_is2 (by rfl) T.n_isinstance (by decide +kernel) (pa_cons (pv 0) (pa_cons (pe_tyn "int" T.n_int (by decide +kernel)) pa_nil))) (pe_one (pe_not (pe_callB call_is2 (by rfl) T.n_isinstance (by decide +kernel) (pa_cons (pv 0) (pa_cons (pe_tyn "bool" T.n_bool (by decide +kernel)) pa_nil)))))))), ?_⟩
    walk_at "rd"
    refine r_andV ?_
    walk_at "rd"
    refine ⟨v, "int", bi, rfl, h1, ?_⟩
    walk_at "rd"
    cases bi with
    | false =>
      walk_at "rd"
      exact q
    | true =>
      walk_at "rd"
      refine ⟨v, "bool", bb, rfl, h2 rfl, ?_⟩
      walk_at "rd"
      exact q
theorem c_is_number (T : Txt K mg w CP CI CW) : CalO P w K mg base 1 "is_number" ["thing"] (spNumber K) :=
  T.d_is_number.calo (fun F => ok_is_number T F) fun _ _ _ _ _ _ us hl => match us, hl with | [_], _ => rfl
def NoInt (K : PySem.W.Frag) (H : Hp) (v : V) : Prop := (∃ b, v = .bl b) ∨ IsI K H v "int" false
def NoStr (K : PySem.W.Frag) (H : Hp) (v : V) : Prop := IsI K H v "str" false
def spWhole (K : PySem.W.Frag) : Sp := fun vs H Q _ => ∃ v lo hi b, vs = [v, .int lo, .int hi] ∧ ((∃ i, v = .int i ∧ b = (decide (lo ≤ i) && decide (i ≤ hi))) ∨ (NoInt K H v ∧ b = false)) ∧ Q (.bl b) H
theorem sc_is_whole : FnScope ["thing", "low", "high"] ["thing", "low", "high"] (defScope s_is_whole) := ⟨rfl, rfl, rfl, by decide +kernel, rfl, by decide +kernel, by decide +kernel⟩
theorem ok_is_whole (T : Txt K mg w CP CI CW) (F : Fun K "is_whole" "is_whole" s_is_whole f fd) : FnOk P w K mg base (L2.CX P w) 2 f fd ["thing", "low", "high"] (spWhole K) := by
  refine F.okX sc_is_whole (fun vs H Q E h => ?_) (fun cdv A outer s H vs Q E hr h => ?_)
  · obtain ⟨_, _, _, _, rfl, _⟩ := h
    rfl
  · obtain ⟨v, lo, hi, b, rfl, h1, q⟩ := h
    refine ⟨_, (pss_one (ps_ret (pe_and (pe_o (c_is_number T) (hr.mono (by decide)) (fun _ => passS) (pa_cons (pv 0) pa_nil)) (pe_one (pe_chain op_le op_le (pv 1) (pv 0) (pv 2)))))), ?_⟩
    walk_at "rd"
    refine r_andV ?_
    walk_at "rd"
    rcases h1 with ⟨i, rfl, rfl⟩ | ⟨n, rfl⟩
    · refine ⟨_, true, false, rfl, isI_int (by decide +kernel), fun _ => isI_int (by decide +kernel), ?_⟩
      walk_at "rd"
      refine iteT ?_
      walk_at "rd"
      by_cases c : lo ≤ i
      · rw [decide_eq_true c] at q ⊢
        walk_at "rd"
        exact q
      · rw [decide_eq_false c] at q ⊢
        walk_at "rd"
        exact q
    · rcases n with ⟨c, rfl⟩ | n
      · refine ⟨_, true, true, rfl, isI_bl (by decide +kernel), fun _ => isI_bl (by decide +kernel), ?_⟩
        walk_at "rd"
        exact iteF q
      · refine ⟨_, false, false, rfl, n, fun z => (by cases z), ?_⟩
        walk_at "rd"
        exact iteF q
theorem c_is_whole (T : Txt K mg w CP CI CW) : CalO P w K mg base 2 "is_whole" ["thing", "low", "high"] (spWhole K) :=
  T.d_is_whole.calo (fun F => ok_is_whole T F) fun _ _ _ _ _ _ us hl => match us, hl with | [_, _, _], _ => rfl
def spWorth (K : PySem.W.Frag) : Sp := fun vs H Q _ => ∃ v b, vs = [v] ∧ ((∃ i, v = .int i ∧ b = (decide (-2048 ≤ i) && decide (i ≤ 2047))) ∨ (NoInt K H v ∧ b = false)) ∧ Q (.bl b) H
theorem sc_is_worth : FnScope ["thing"] ["thing"] (defScope s_is_worth) := ⟨rfl, rfl, rfl, by decide +kernel, rfl, by decide +kernel, by decide +kernel⟩
theorem ok_is_worth (T : Txt K mg w CP CI CW) (F : Fun K "is_worth" "is_worth" s_is_worth f fd) : FnOk P w K mg base (L2.CX P w) 3 f fd ["thing"] (spWorth K) := by
  refine F.okX sc_is_worth (fun vs H Q E h => ?_) (fun cdv A outer s H vs Q E hr h => ?_)
  · obtain ⟨_, _, rfl, _⟩ := h
    rfl
  · obtain ⟨v, b, rfl, h1, q⟩ := h
    refine ⟨_, (pss_one (ps_ret (pe_o (c_is_whole T) (hr.mono (by decide)) (fun _ => passS) (pa_cons (pv 0) (pa_cons (pe_gc T.g_LEAST) (pa_cons (pe_gc T.g_GREATEST) pa_nil)))))), ?_⟩
    walk_at "rd"
    exact ⟨v, -2048, 2047, b, rfl, h1, q⟩
theorem c_is_worth (T : Txt K mg w CP CI CW) : CalO P w K mg base 3 "is_worth" ["thing"] (spWorth K) :=
  T.d_is_worth.calo (fun F => ok_is_worth T F) fun _ _ _ _ _ _ us hl => match us, hl with | [_], _ => rfl
/-! ### is_name -/
def lower (c : Nat) : Bool := decide (97 ≤ c) && decide (c ≤ 122)
def nameB (z : Str) : Bool := (decide ((1 : Int) ≤ z.length) && decide ((z.length : Int) ≤ 8)) && z.cps.toList.all lower
def spName (K : PySem.W.Frag) : Sp := fun vs H Q _ => ∃ v b, vs = [v] ∧ ((∃ z, v = .str z ∧ z.length ≤ 1000 ∧ b = nameB z) ∨ (NoStr K H v ∧ b = false)) ∧ ∀ H', Same H H' → Q (.bl b) H'
theorem lex1 (c d : Nat) : decide (([c] : List Nat) < [d]) = decide (c < d) := by
  refine decide_eq_decide.mpr ⟨fun h => ?_, fun h => List.Lex.rel h⟩
  cases h with
  | rel h => exact h
  | cons h => cases h
theorem sc_is_name : FnScope ["thing", "sign"] ["thing"] (defScope s_is_name) := ⟨rfl, rfl, rfl, by decide +kernel, rfl, by decide +kernel, by decide +kernel⟩
theorem ok_is_name (T : Txt K mg w CP CI CW) (F : Fun K "is_name" "is_name" s_is_name f fd) : FnOk P w K mg base (L2.CX P w) 1 f fd ["thing"] (spName K) := by
  refine F.okX sc_is_name (fun vs H Q E h => ?_) (fun cdv A outer s H vs Q E hr h => ?_)
  · obtain ⟨_, _, rfl, _⟩ := h
    rfl
  · obtain ⟨v, b, rfl, h1, q⟩ := h
    have nd := sc_is_name.nd
    refine ⟨_, (pss_cons (ps_if (PW.pt (pw_or (pt_not (pt_val (pe_callB call_is2 (by rfl) T.n_isinstance (by decide +kernel) (pa_cons (pv 0) (pa_cons (pe_tyn "str" T.n_str (by decide +kernel)) pa_nil))))) (pw_or1 (pt_not (pt_chain op_le op_le pe_int (pe_callB call_len_str (by rfl) T.n_len PySem.boot_len (pa_cons (pv 0) pa_nil)) (pe_gc T.g_NAME_LENGTH)))))) (pss_one (ps_ret pe_bl)) pss_nil)
        (pss_one (ps_ret (pe_callB (cr_all rfl) (by rfl) T.n_all (by decide +kernel) (pa_cons (pe_lc (own := [("sign", 1)]) (g := gName 1) (tt := tYes) rfl nd (pi_str (pv 0)) (blkOk_by (N := ["thing", "sign"]) (sc := defScope s_is_name) (by decide +kernel)) (fun _ _ _ _ _ => pg_name (i := 1) nd rfl (Or.inl rfl)) (fun _ _ _ _ _ => pts_nil) (fun _ _ _ _ _ => (pe_chain op_le_str op_le_str pe_str (pv 1) pe_str))) pa_nil))))), ?_⟩
    walk_at "rd"
    rcases h1 with ⟨z, rfl, hz, rfl⟩ | ⟨n, rfl⟩
    · refine ⟨_, "str", true, rfl, isI_str (by decide +kernel), ?_⟩
      walk_at "rd"
      refine ⟨z, rfl, Nat.le_trans hz (by decide), ?_⟩
      walk_at "rd"
      unfold nameB at q
      cases h1 : decide ((1 : Int) ≤ z.length) with
      | false =>
        rw [h1] at q
        walk_at "rd"
        exact q H (Same.refl H)
      | true =>
        rw [h1] at q
        walk_at "rd"
        cases h2 : decide ((z.length : Int) ≤ 8) with
        | false =>
          rw [h2] at q
          walk_at "rd"
          exact q H (Same.refl H)
        | true =>
          rw [h2] at q
          walk_at "rd"
          refine r_lcS (z := z) (fun c => .bl (lower c)) (fun _ => true) (fun R r => r_var rfl r) (Nat.le_trans hz (by decide)) (fun _ => rfl) (fun _ _ _ r => r) (fun c H1 Q1 r => ?_) (fun D hD => ?_)
          · walk_at "rd"
            refine ⟨_, _, rfl, rfl, ?_⟩
            walk_at "rd"
            have e1 : (!decide (([c] : List Nat) < [97])) = decide (97 ≤ c) := by rw [lex1]; by_cases h : c < 97 <;> simp [h] <;> omega
            have e2 : (!decide (([122] : List Nat) < [c])) = decide (c ≤ 122) := by rw [lex1]; by_cases h : 122 < c <;> simp [h] <;> omega
            show ite ((!decide (([c] : List Nat) < [97])) = true) _ _
            rw [e1]
            cases h3 : decide (97 ≤ c) with
            | false =>
              walk_at "rd"
              unfold lower at r
              rw [h3] at r
              exact r
            | true =>
              walk_at "rd"
              refine ⟨_, _, rfl, rfl, ?_⟩
              show Q1 (.bl (!decide (([122] : List Nat) < [c]))) H1
              rw [e2]
              unfold lower at r
              rw [h3] at r
              exact r
          · walk_at "rd"
            refine ⟨D, z.cps.toList.map lower, rfl, SqL.of ?_, ?_⟩
            · have e : List.filter (fun _ => true) z.cps.toList = z.cps.toList := List.filter_eq_self.mpr fun _ _ => rfl
              rw [upd_same, e, List.map_map]
              rfl
            · have e : (z.cps.toList.map lower).all id = z.cps.toList.all lower := by simp
              rw [e]
              exact q _ fun b o hb => by rw [upd_ne (ne_of_none hb hD)]; exact hb
    · refine ⟨_, "str", false, rfl, n, ?_⟩
      walk_at "rd"
      exact q H (Same.refl H)
theorem c_is_name (T : Txt K mg w CP CI CW) : CalO P w K mg base 1 "is_name" ["thing"] (spName K) :=
  T.d_is_name.calo (fun F => ok_is_name T F) fun _ _ _ _ _ _ us hl => match us, hl with | [_], _ => rfl
end
end K8
set_option linter.all false
set_option maxRecDepth 100000
set_option maxHeartbeats 4000000
namespace K8
open PySem PySem.Spec PyProof.Rows L2 Gx
local macro_rules | `(tactic| walk_at "rd1") => `(tactic| with_reducible first
  | refine r_var rfl ?_ | refine r_c ?_ | refine r_op ?_ | refine r_un ?_ | refine r_I0 ?_ | refine r_neg ?_ | refine r_test ?_ | refine r_B ?_ | refine r_bl ?_ | refine r_blx ?_
  | refine r_seq ?_ | refine r_ret ?_ | refine r_asg ?_ | refine r_name ?_ | refine r_gsub ?_ | refine r_if ?_ | refine r_next ?_ | refine r_drop ?_ | refine r_cb ?_ | refine r_nil ?_ | refine r_cons ?_
  | refine r_g ?_ | refine r_k ?_ | refine r_lst ?_ | refine r_tup ?_ | refine r_notV ?_ | refine r_ifE ?_ | refine r_and ?_ | refine r_or ?_ | refine r_not ?_ | refine r_chain ?_
  | refine r_sl ?_ | refine r_part ?_ | refine r_nop ?_ | refine r_par3 ?_ | refine r_is3 ?_ | refine r_par2 ?_ | refine r_is2 ?_ | refine r_m0 ?_ | refine r_ei ?_ | refine r_nx ?_ | refine r_rt ?_ | refine r_ct ?_ | refine r_eq rfl ?_ | refine r_ne rfl ?_ | refine iteT ?_ | refine iteF ?_ | refine iteNF ?_ | refine iteNT ?_
  | (refine r_fdivK ?hc ?_; (case hc => decide +kernel)) | (refine r_modK ?hc ?_; (case hc => decide +kernel)) | (refine r_mulL ?hc ?_; (case hc => decide +kernel)) | (refine r_mulR ?hc ?_; (case hc => decide +kernel)) | (refine r_powK ?hc ?_; (case hc => decide +kernel)) | fail "no step")
local macro_rules | `(tactic| walk_at "rd") => `(tactic| repeat' walk_at "rd1")
section
variable {P : Program} {w : World} {K : PySem.W.Frag} {mg : Str → Option Value} {base : Heap} {f : Addr} {fd : FuncData} {CP CI CW : Addr}
/-! ### shapes -/
structure Pm where
  u : Int
  d : Int
  s : Int
  a : Int
def Pm.ok (p : Pm) : Prop := (1 ≤ p.u ∧ p.u ≤ 2047) ∧ (1 ≤ p.d ∧ p.d ≤ 2047) ∧ (0 ≤ p.s ∧ p.s ≤ 2047) ∧ (1 ≤ p.a ∧ p.a ≤ 2047)
abbrev Pm.tup (p : Pm) : List V := [.str "shape", .int p.u, .int p.d, .int p.s, .int p.a]
inductive W5 where
  | rest | up | down | stay | away
def W5.s : W5 → Str
  | .rest => "rest"
  | .up => "up"
  | .down => "down"
  | .stay => "stay"
  | .away => "away"
def wordF : W5 → Bool → W5
  | .rest, true => .up
  | .away, true => .up
  | .up, false => .away
  | .down, false => .away
  | .stay, false => .away
  | x, _ => x
def mv (p : Pm) (lv : Int) : W5 → Int × W5
  | .up => (min 2047 (lv + p.u), if min 2047 (lv + p.u) = 2047 then .down else .up)
  | .down => (max p.s (lv - p.d), if max p.s (lv - p.d) = p.s then .stay else .down)
  | .stay => (p.s, .stay)
  | .away => (max 0 (lv - p.a), if max 0 (lv - p.a) = 0 then .rest else .away)
  | .rest => (0, .rest)
theorem sqt_same {H H' : Hp} {a : Addr} {xs : List V} (h : SqT K H a xs) (e : Same H H') : SqT K H' a xs :=
  h.imp (fun r => r.imp (fun z => e _ _ z) fun ⟨o, z⟩ => ⟨o, e _ _ z⟩) _root_.id
theorem r_iTup {σ : L2.St} {H : Hp} {tl : TE} {R : It → Hp → Prop} (h : tl σ H fun v H1 => ∃ a, v = .ref a ∧ (∃ xs, SqT K H1 a xs) ∧ R (Itt K a) H1) : iTup K tl σ H R := h
theorem lc_tp {σ : L2.St} {H : Hp} {Q : VK} {g : TG} {te : TE} {tt : TT} {vs : List Nat} {a : Addr} {xs : List V} (Pv : Addr → Nat → Hp → Prop) (h0 : ∀ p, H p = none → Pv p 0 (upd H p (.lst []))) (hl : ∀ p, H p = none → ∀ i h, i ≤ xs.length → Pv p i h → SqT K h a xs)
    (hs : ∀ p, H p = none → ∀ i x h, xs[i]? = some x → Pv p i h → g x (wipe σ vs) h fun s2 h2 => wipe s2 vs = wipe σ vs ∧ tt s2 h2 fun b h3 => if b = true then te s2 h3 fun y h4 => ∃ acc, h4 p = some (.lst acc) ∧ acc.length < sizeLine ∧ Pv p (i + 1) (upd h4 p (.lst (acc ++ [y]))) else Pv p (i + 1) h3)
    (hd : ∀ p, H p = none → ∀ h, Pv p xs.length h → Q (.ref p) h) : Lc (Itt K a) g tt te vs Q σ H := fun p hp => by
  refine lc_it (walk_tup (xs := xs)) (Pv p) (h0 p hp) (fun i h hi q => hl p hp i h hi q) (fun i x h h' hi q y => ?_) (hd p hp)
  obtain ⟨rfl, e⟩ := y
  exact hs p hp i x _ e q
def spIsShape : Sp := fun vs H Q _ => ∃ (x : Addr) (p : Pm), vs = [.ref x] ∧ H x = some (.tup p.tup) ∧ p.ok ∧ ∀ H', Same H H' → Q (.bl true) H'
theorem sc_is_shape : FnScope ["part", "_", "up", "down", "stay", "away", "step"] ["part"] (defScope s_is_shape) := ⟨rfl, rfl, rfl, by decide +kernel, rfl, by decide +kernel, by decide +kernel⟩
theorem ok_is_shape (T : Txt K mg w CP CI CW) (F : Fun K "_is_shape" "_is_shape" s_is_shape f fd) : FnOk P w K mg base (L2.CX P w) 3 f fd ["part"] spIsShape := by
  refine F.okX sc_is_shape (fun vs H Q E h => ?_) (fun cdv A outer s H vs Q E hr h => ?_)
  · obtain ⟨_, _, rfl, _⟩ := h
    rfl
  · obtain ⟨x, p, rfl, hx, ⟨ku, kd, ks, ka⟩, q⟩ := h
    have nd := sc_is_shape.nd
    refine ⟨_, (pss_cons (ps_if (pt_cmpR op_ne (pe_callB call_len_seq (by rfl) T.n_len PySem.boot_len (pa_cons (pv 0) pa_nil)) pe_int (nomark _)) (pss_one (ps_ret pe_bl)) pss_nil)
        (pss_cons (ps_asg (pv 0) (pg_tup rfl (pgs_cons (pg_name (i := 1) nd rfl (Or.inl rfl)) (pgs_cons (pg_name (i := 2) nd rfl (Or.inl rfl)) (pgs_cons (pg_name (i := 3) nd rfl (Or.inl rfl)) (pgs_cons (pg_name (i := 4) nd rfl (Or.inl rfl)) (pgs_cons (pg_name (i := 5) nd rfl (Or.inl rfl)) pgs_nil)))))))
        (pss_one (ps_ret (pe_and (pe_o (c_is_whole T) (hr.mono (by decide)) (fun _ => passS) (pa_cons (pv 4) (pa_cons pe_int (pa_cons pe_int pa_nil)))) (pe_one (pe_callB (cr_all rfl) (by rfl) T.n_all (by decide +kernel) (pa_cons (pe_lc (own := [("step", 6)]) (g := gName 6) (tt := tYes) rfl nd (pi_tup (pe_tup (pa_cons (pv 2) (pa_cons (pv 3) (pa_cons (pv 5) pa_nil))))) (blkOk_by (N := ["part", "_", "up", "down", "stay", "away", "step"]) (sc := defScope s_is_shape) (by decide +kernel)) (fun _ _ _ _ _ => pg_name (i := 6) nd rfl (Or.inl rfl)) (fun _ _ _ _ _ => pts_nil) (fun _ _ _ _ _ => (pe_o (c_is_whole T) (hr.mono (by decide)) (fun _ => passS) (pa_cons (pv 6) (pa_cons pe_int (pa_cons pe_int pa_nil)))))) pa_nil)))))))), ?_⟩
    walk_at "rd"
    refine ⟨x, _, rfl, .inr (SqT.of hx), ?_⟩
    walk_at "rd"
    refine iteFb rfl ?_
    walk_at "rd"
    refine ⟨x, _, rfl, SqT.of hx, rfl, ?_⟩
    refine r_gc ?_
    walk_at "rd"
    refine r_gc ?_
    walk_at "rd"
    refine r_gc ?_
    walk_at "rd"
    refine r_gc ?_
    walk_at "rd"
    refine r_gc ?_
    walk_at "rd"
    refine r_gn ?_
    walk_at "rd"
    refine r_andV ?_
    walk_at "rd"
    refine ⟨_, 0, 2047, true, rfl, .inl ⟨p.s, rfl, by rw [decide_eq_true ks.1, decide_eq_true ks.2]; rfl⟩, ?_⟩
    walk_at "rd"
    refine r_lc ?_
    refine r_iTup ?_
    walk_at "rd"
    refine r_new rfl fun t ht => ?_
    refine ⟨t, rfl, ⟨_, SqT.of upd_same⟩, ?_⟩
    have et : upd H t (.tup [.int p.u, .int p.d, .int p.a]) t = some (.tup [.int p.u, .int p.d, .int p.a]) := upd_same
    have st := same_new (o := .tup [.int p.u, .int p.d, .int p.a]) ht
    generalize upd H t (.tup [.int p.u, .int p.d, .int p.a]) = H1 at et st ⊢
    refine lc_tp (xs := [.int p.u, .int p.d, .int p.a]) (fun D i h => h D = some (.lst (List.replicate i (.bl true))) ∧ Same H1 h) (fun D hD => ⟨upd_same, same_new hD⟩) (fun D hD i h _ q => SqT.of (q.2 _ _ et)) (fun D hD i y h hy => ?_) (fun D hD h => ?_)
    · rintro ⟨e1, s1⟩
      obtain ⟨m, rfl, m0, m1⟩ : ∃ m : Int, y = .int m ∧ 1 ≤ m ∧ m ≤ 2047 := by
        rcases List.mem_cons.mp (List.mem_of_getElem? hy) with rfl | hy
        · exact ⟨_, rfl, ku⟩
        rcases List.mem_cons.mp hy with rfl | hy
        · exact ⟨_, rfl, kd⟩
        obtain rfl := List.mem_singleton.mp hy
        exact ⟨_, rfl, ka⟩
      walk_at "rd"
      refine ⟨rfl, r_yes (iteT ?_)⟩
      walk_at "rd"
      refine ⟨_, 1, 2047, true, rfl, .inl ⟨m, rfl, by rw [decide_eq_true m0, decide_eq_true m1]; rfl⟩, ?_⟩
      have il : i < 3 := by
        have := (List.getElem?_eq_some_iff.mp hy).1
        exact this
      refine ⟨_, e1, by rw [List.length_replicate, sizeLine_eq]; omega, ?_, same_upd (none_of (fun _ _ h => h) hD) s1⟩
      rw [← List.replicate_succ']
      exact upd_same
    · rintro ⟨e1, s1⟩
      walk_at "rd"
      refine ⟨D, [true, true, true], rfl, SqL.of e1, ?_⟩
      exact q _ (st.trans s1)
theorem c_is_shape (T : Txt K mg w CP CI CW) : CalO P w K mg base 3 "_is_shape" ["part"] spIsShape :=
  T.d_is_shape.calo (fun F => ok_is_shape T F) fun _ _ _ _ _ _ us hl => match us, hl with | [_], _ => rfl
theorem sc_is_part : FnScope ["thing", "kind", "check"] ["thing"] (defScope s_is_part) := ⟨rfl, rfl, rfl, by decide +kernel, rfl, by decide +kernel, by decide +kernel⟩
theorem ok_is_part (T : Txt K mg w CP CI CW) (F : Fun K "is_part" "is_part" s_is_part f fd) : FnOk P w K mg base (L2.CX P w) 4 f fd ["thing"] spIsShape := by
  obtain ⟨a__CHECKS, es, en, fc, g__CHECKS, kD, nD, mC⟩ := T.g_CHECKS
  refine F.okX sc_is_part (fun vs H Q E h => ?_) (fun cdv A outer s H vs Q E hr h => ?_)
  · obtain ⟨_, _, rfl, _⟩ := h
    rfl
  · obtain ⟨x, p, rfl, hx, ok, q⟩ := h
    have nd := sc_is_part.nd
    have cl : ∀ a sp, (a = fc ∧ sp = spIsShape) → ∃ fd ps, FnOk P w K mg base (L2.CX P w) 3 a fd ps sp ∧ PySem.W.keepIn K (.ref a) = true ∧ Binds K fd ps [] := by
      rintro a sp ⟨rfl, rfl⟩
      exact (c_is_shape T).at mC
    refine ⟨_, (pss_cons (ps_if (PW.pt (pw_or (pt_not (pt_val (pe_callB call_is2 (by rfl) T.n_isinstance (by decide +kernel) (pa_cons (pv 0) (pa_cons (pe_tyn "tuple" T.n_tuple (by decide +kernel)) pa_nil))))) (pw_or1 (pt_cmpR op_eq (pe_callB call_len_seq (by rfl) T.n_len PySem.boot_len (pa_cons (pv 0) pa_nil)) pe_int (nomark _))))) (pss_one (ps_ret pe_bl)) pss_nil)
        (pss_cons (ps_set (i := 1) nd rfl (Or.inl rfl) (pe_ix ix_tup (pv 0) pe_int (fun _ _ => rfl)))
        (pss_cons (ps_if (PW.pt (pw_or (pt_not (pt_val (pe_callB call_is2 (by rfl) T.n_isinstance (by decide +kernel) (pa_cons (pv 1) (pa_cons (pe_tyn "str" T.n_str (by decide +kernel)) pa_nil))))) (pw_or1 (pt_cmpR (op_notIn_kd kD) (pv 1) (pe_gc (v := .ref a__CHECKS) ⟨_, g__CHECKS, rfl⟩) (by rfl))))) (pss_one (ps_ret pe_bl)) pss_nil)
        (pss_cons (ps_set (i := 2) nd rfl (Or.inl rfl) (pe_ix ix_kdict (pe_gc (v := .ref a__CHECKS) ⟨_, g__CHECKS, rfl⟩) (pv 1) (fun _ _ => rfl)))
        (pss_one (ps_ret (pe_calo cl (hr.mono (by decide)) (fun _ => passS) (pv 2) (pa_cons (pv 0) pa_nil)))))))), ?_⟩
    walk_at "rd"
    refine ⟨_, "tuple", true, rfl, isI_tup hx (by decide +kernel), ?_⟩
    walk_at "rd"
    refine ⟨x, _, rfl, .inr (SqT.of hx), ?_⟩
    walk_at "rd"
    refine iteFb rfl ?_
    walk_at "rd"
    refine ⟨x, _, 0, .str "shape", rfl, rfl, SqT.of hx, rfl, ?_⟩
    walk_at "rd"
    refine ⟨_, "str", true, rfl, isI_str (by decide +kernel), ?_⟩
    walk_at "rd"
    refine ⟨"shape", _, rfl, rfl, nD, ?_⟩
    walk_at "rd"
    refine iteFb rfl ?_
    walk_at "rd"
    refine ⟨a__CHECKS, "shape", .ref fc, rfl, rfl, ⟨es, en, _, kD.at_, kD.lit, nD, rfl⟩, ?_⟩
    walk_at "rd"
    refine r_calv ?_
    walk_at "rd"
    refine ⟨fc, _, rfl, ⟨rfl, rfl⟩, ?_⟩
    walk_at "rd"
    exact ⟨x, p, rfl, hx, ok, q⟩
theorem c_is_part (T : Txt K mg w CP CI CW) : CalO P w K mg base 4 "is_part" ["thing"] spIsShape :=
  T.d_is_part.calo (fun F => ok_is_part T F) fun _ _ _ _ _ _ us hl => match us, hl with | [_], _ => rfl
end
end K8
set_option linter.all false
set_option maxRecDepth 100000
set_option maxHeartbeats 4000000
namespace K8
open PySem PySem.Spec PyProof.Rows L2 Gx
local macro_rules | `(tactic| walk_at "rd1") => `(tactic| with_reducible first
  | refine r_var rfl ?_ | refine r_c ?_ | refine r_op ?_ | refine r_un ?_ | refine r_I0 ?_ | refine r_neg ?_ | refine r_test ?_ | refine r_B ?_ | refine r_bl ?_ | refine r_blx ?_
  | refine r_seq ?_ | refine r_ret ?_ | refine r_asg ?_ | refine r_name ?_ | refine r_gsub ?_ | refine r_if ?_ | refine r_next ?_ | refine r_drop ?_ | refine r_cb ?_ | refine r_nil ?_ | refine r_cons ?_
  | refine r_g ?_ | refine r_k ?_ | refine r_lst ?_ | refine r_tup ?_ | refine r_notV ?_ | refine r_ifE ?_ | refine r_and ?_ | refine r_or ?_ | refine r_not ?_ | refine r_chain ?_
  | refine r_sl ?_ | refine r_part ?_ | refine r_nop ?_ | refine r_par3 ?_ | refine r_is3 ?_ | refine r_par2 ?_ | refine r_is2 ?_ | refine r_m0 ?_ | refine r_ei ?_ | refine r_nx ?_ | refine r_rt ?_ | refine r_ct ?_ | refine r_eq rfl ?_ | refine r_ne rfl ?_ | refine iteT ?_ | refine iteF ?_ | refine iteNF ?_ | refine iteNT ?_
  | (refine r_fdivK ?hc ?_; (case hc => decide +kernel)) | (refine r_modK ?hc ?_; (case hc => decide +kernel)) | (refine r_mulL ?hc ?_; (case hc => decide +kernel)) | (refine r_mulR ?hc ?_; (case hc => decide +kernel)) | (refine r_powK ?hc ?_; (case hc => decide +kernel)) | fail "no step")
local macro_rules | `(tactic| walk_at "rd") => `(tactic| repeat' walk_at "rd1")
section
variable {P : Program} {w : World} {K : PySem.W.Frag} {mg : Str → Option Value} {base : Heap} {f : Addr} {fd : FuncData} {CP CI CW : Addr}
theorem r_dget {σ : L2.St} {H : Hp} {Q : VK} {i : Nat} {d : Addr} {es : List (Key × V)} {z : Str} {u : V} (hv : σ[i]? = some (some (.ref d))) (hd : H d = some (.dK es)) (q : Q ((valV es (.inr z)).getD u) H) : tDGet2 (tVar i) (tC (.str z)) (tC u) σ H Q :=
  ⟨_, hv, d, rfl, .inl ⟨es, .inl hd⟩, _, DGet.k (k := .inr z) hd, q⟩
/-! ### has_factors, _form, _kept_at_first -/
def spHas : Sp := fun vs H Q _ => ∃ (x : Addr) (p : Pm), vs = [.ref x] ∧ H x = some (.tup p.tup) ∧ ∀ H', Same H H' → Q (.bl false) H'
theorem sc_has_factors : FnScope ["part"] ["part"] (defScope s_has_factors) := ⟨rfl, rfl, rfl, by decide +kernel, rfl, by decide +kernel, by decide +kernel⟩
theorem ok_has_factors (T : Txt K mg w CP CI CW) (F : Fun K "has_factors" "has_factors" s_has_factors f fd) : FnOk P w K mg base (L2.CX P w) 1 f fd ["part"] spHas := by
  refine F.okX sc_has_factors (fun vs H Q E h => ?_) (fun cdv A outer s H vs Q E hr h => ?_)
  · obtain ⟨_, _, rfl, _⟩ := h
    rfl
  · obtain ⟨x, p, rfl, hx, q⟩ := h
    refine ⟨_, (pss_one (ps_ret (pe_cmpR op_in_seq (pe_ix ix_tup (pv 0) pe_int (fun _ _ => rfl)) (pe_tup (pa_cons pe_str (pa_cons pe_str pa_nil))) (by rfl)))), ?_⟩
    walk_at "rd"
    refine ⟨x, _, 0, .str "shape", rfl, rfl, SqT.of hx, rfl, ?_⟩
    walk_at "rd"
    refine r_new rfl fun t ht => ?_
    refine ⟨t, _, rfl, .inr (SqT.of upd_same), rfl, rfl, ?_⟩
    exact q _ (same_new ht)
theorem c_has_factors (T : Txt K mg w CP CI CW) : CalO P w K mg base 1 "has_factors" ["part"] spHas :=
  T.d_has_factors.calo (fun F => ok_has_factors T F) fun _ _ _ _ _ _ us hl => match us, hl with | [_], _ => rfl
def spForm : Sp := fun vs H Q _ => ∃ (x : Addr) (p : Pm), vs = [.ref x] ∧ H x = some (.tup p.tup) ∧ ∀ t H', Same H H' → H' t = some (.tup [.str "shape"]) → Q (.ref t) H'
theorem sc_form : FnScope ["part"] ["part"] (defScope s_form) := ⟨rfl, rfl, rfl, by decide +kernel, rfl, by decide +kernel, by decide +kernel⟩
theorem ok_form (T : Txt K mg w CP CI CW) (F : Fun K "_form" "_form" s_form f fd) : FnOk P w K mg base (L2.CX P w) 2 f fd ["part"] spForm := by
  refine F.okX sc_form (fun vs H Q E h => ?_) (fun cdv A outer s H vs Q E hr h => ?_)
  · obtain ⟨_, _, rfl, _⟩ := h
    rfl
  · obtain ⟨x, p, rfl, hx, q⟩ := h
    refine ⟨_, (pss_cons (ps_if (pt_val (pe_o (c_has_factors T) (hr.mono (by decide)) (fun _ => passS) (pa_cons (pv 0) pa_nil))) (pss_one (ps_ret (pe_tup (pa_cons (pe_ix ix_tup (pv 0) pe_int (fun _ _ => rfl)) (pa_cons (pe_callB call_len_seq (by rfl) T.n_len PySem.boot_len (pa_cons (pe_ix ix_tup (pv 0) pe_int (fun _ _ => rfl)) pa_nil)) pa_nil))))) pss_nil)
        (pss_cons (ps_if (pt_cmpR op_eq (pe_ix ix_tup (pv 0) pe_int (fun _ _ => rfl)) pe_str (nomark _)) (pss_one (ps_ret (pv 0))) pss_nil)
        (pss_one (ps_ret (pe_tup (pa_cons (pe_ix ix_tup (pv 0) pe_int (fun _ _ => rfl)) pa_nil)))))), ?_⟩
    walk_at "rd"
    refine ⟨x, p, rfl, hx, fun H1 s1 => ?_⟩
    have hx := s1 _ _ hx
    walk_at "rd"
    refine ⟨x, _, 0, .str "shape", rfl, rfl, SqT.of hx, rfl, ?_⟩
    walk_at "rd"
    refine iteFb (by decide +kernel) ?_
    walk_at "rd"
    refine ⟨x, _, 0, .str "shape", rfl, rfl, SqT.of hx, rfl, ?_⟩
    walk_at "rd"
    refine r_new rfl fun t ht => ?_
    exact q t _ (s1.trans (same_new ht)) upd_same
theorem c_form (T : Txt K mg w CP CI CW) : CalO P w K mg base 2 "_form" ["part"] spForm :=
  T.d_form.calo (fun F => ok_form T F) fun _ _ _ _ _ _ us hl => match us, hl with | [_], _ => rfl
def spFirst (K : PySem.W.Frag) : Sp := fun vs H Q _ => ∃ (x : Addr) (p : Pm), vs = [.ref x] ∧ H x = some (.tup p.tup) ∧ ∀ t, SqT K H t [.int 0, .str "rest"] → Q (.ref t) H
theorem sc_kept_at_first : FnScope ["part", "kind"] ["part"] (defScope s_kept_at_first) := ⟨rfl, rfl, rfl, by decide +kernel, rfl, by decide +kernel, by decide +kernel⟩
theorem ok_kept_at_first (T : Txt K mg w CP CI CW) (F : Fun K "_kept_at_first" "_kept_at_first" s_kept_at_first f fd) : FnOk P w K mg base (L2.CX P w) 1 f fd ["part"] (spFirst K) := by
  obtain ⟨a__AT_FIRST, t0, g__AT_FIRST, kA, tA⟩ := T.g_AT_FIRST
  refine F.okX sc_kept_at_first (fun vs H Q E h => ?_) (fun cdv A outer s H vs Q E hr h => ?_)
  · obtain ⟨_, _, rfl, _⟩ := h
    rfl
  · obtain ⟨x, p, rfl, hx, q⟩ := h
    have nd := sc_kept_at_first.nd
    refine ⟨_, (pss_cons (ps_set (i := 1) nd rfl (Or.inl rfl) (pe_ix ix_tup (pv 0) pe_int (fun _ _ => rfl)))
        (pss_cons (ps_if (pt_cmpR op_eq (pv 1) pe_str (nomark _)) (pss_one (ps_ret (pe_tup (pa_cons (pe_ix ix_tup (pv 0) pe_int (fun _ _ => rfl)) pa_nil)))) pss_nil)
        (pss_cons (ps_if (pt_cmpR op_eq (pv 1) pe_str (nomark _)) (pss_one (ps_ret (pe_tup (pa_cons (pe_op op_repT (pe_tup (pa_cons pe_int pa_nil)) (pe_op op_sub (pe_callB call_len_seq (by rfl) T.n_len PySem.boot_len (pa_cons (pe_ix ix_tup (pv 0) pe_int (fun _ _ => rfl)) pa_nil)) pe_int)) pa_nil)))) pss_nil)
        (pss_cons (ps_if (pt_cmpR op_eq (pv 1) pe_str (nomark _)) (pss_one (ps_ret (pe_tup (pa_cons (pe_op op_repT (pe_tup (pa_cons pe_int pa_nil)) (pe_ix ix_tup (pv 0) pe_int (fun _ _ => rfl))) pa_nil)))) pss_nil)
        (pss_one (ps_ret (pe_ix ix_kdict (pe_gc (v := .ref a__AT_FIRST) ⟨_, g__AT_FIRST, rfl⟩) (pv 1) (fun _ _ => rfl)))))))), ?_⟩
    walk_at "rd"
    refine ⟨x, _, 0, .str "shape", rfl, rfl, SqT.of hx, rfl, ?_⟩
    walk_at "rd"
    refine iteFb (by decide +kernel) ?_
    walk_at "rd"
    refine iteFb (by decide +kernel) ?_
    walk_at "rd"
    refine iteFb (by decide +kernel) ?_
    walk_at "rd"
    exact ⟨a__AT_FIRST, "shape", .ref t0, rfl, rfl, kA, q t0 (tA _)⟩
theorem c_kept_at_first (T : Txt K mg w CP CI CW) : CalO P w K mg base 1 "_kept_at_first" ["part"] (spFirst K) :=
  T.d_kept_at_first.calo (fun F => ok_kept_at_first T F) fun _ _ _ _ _ _ us hl => match us, hl with | [_], _ => rfl
/-! ### _shape_word, _shape_moved, _shape_step -/
def spWord : Sp := fun vs H Q _ => ∃ (x : W5) (g : Int), vs = [.str x.s, .int g] ∧ ∀ H', Same H H' → Q (.str (wordF x (decide (0 < g))).s) H'
theorem sc_shape_word : FnScope ["word", "gate"] ["word", "gate"] (defScope s_shape_word) := ⟨rfl, rfl, rfl, by decide +kernel, rfl, by decide +kernel, by decide +kernel⟩
theorem ok_shape_word (T : Txt K mg w CP CI CW) (F : Fun K "_shape_word" "_shape_word" s_shape_word f fd) : FnOk P w K mg base (L2.CX P w) 1 f fd ["word", "gate"] spWord := by
  refine F.okX sc_shape_word (fun vs H Q E h => ?_) (fun cdv A outer s H vs Q E hr h => ?_)
  · obtain ⟨_, _, rfl, _⟩ := h
    rfl
  · obtain ⟨x, g, rfl, q⟩ := h
    refine ⟨_, (pss_cons (ps_if (PW.pt (pw_and (pt_cmpR op_gt (pv 1) pe_int (nomark _)) (pw_and1 (pt_cmpR op_in_seq (pv 0) (pe_tup (pa_cons pe_str (pa_cons pe_str pa_nil))) (by rfl))))) (pss_one (ps_ret pe_str)) pss_nil)
        (pss_cons (ps_if (PW.pt (pw_and (pt_cmpR op_le (pv 1) pe_int (nomark _)) (pw_and1 (pt_cmpR op_in_seq (pv 0) (pe_tup (pa_cons pe_str (pa_cons pe_str (pa_cons pe_str pa_nil)))) (by rfl))))) (pss_one (ps_ret pe_str)) pss_nil)
        (pss_one (ps_ret (pv 0))))), ?_⟩
    walk_at "rd"
    by_cases c : 0 < g
    · have c2 : decide (g ≤ 0) = false := decide_eq_false (by omega)
      rw [decide_eq_true c] at q
      refine iteTb (decide_eq_true c) ?_
      walk_at "rd"
      refine r_new rfl fun t ht => ?_
      have q := q _ (same_new (o := .tup [.str "rest", .str "away"]) ht)
      refine ⟨t, _, rfl, .inr (SqT.of upd_same), by cases x <;> rfl, rfl, ?_⟩
      walk_at "rd"
      cases x with
      | rest =>
        refine iteTb (by decide +kernel) ?_
        walk_at "rd"
        exact q
      | up =>
        refine iteFb (by decide +kernel) ?_
        walk_at "rd"
        refine iteFb c2 ?_
        walk_at "rd"
        exact q
      | down =>
        refine iteFb (by decide +kernel) ?_
        walk_at "rd"
        refine iteFb c2 ?_
        walk_at "rd"
        exact q
      | stay =>
        refine iteFb (by decide +kernel) ?_
        walk_at "rd"
        refine iteFb c2 ?_
        walk_at "rd"
        exact q
      | away =>
        refine iteTb (by decide +kernel) ?_
        walk_at "rd"
        exact q
    · have c2 : decide (g ≤ 0) = true := decide_eq_true (by omega)
      rw [decide_eq_false c] at q
      refine iteFb (decide_eq_false c) ?_
      walk_at "rd"
      refine iteTb c2 ?_
      walk_at "rd"
      refine r_new rfl fun t ht => ?_
      have q := q _ (same_new (o := .tup [.str "up", .str "down", .str "stay"]) ht)
      refine ⟨t, _, rfl, .inr (SqT.of upd_same), by cases x <;> rfl, rfl, ?_⟩
      walk_at "rd"
      cases x with
      | rest =>
        refine iteFb (by decide +kernel) ?_
        walk_at "rd"
        exact q
      | up =>
        refine iteTb (by decide +kernel) ?_
        walk_at "rd"
        exact q
      | down =>
        refine iteTb (by decide +kernel) ?_
        walk_at "rd"
        exact q
      | stay =>
        refine iteTb (by decide +kernel) ?_
        walk_at "rd"
        exact q
      | away =>
        refine iteFb (by decide +kernel) ?_
        walk_at "rd"
        exact q
theorem c_shape_word (T : Txt K mg w CP CI CW) : CalO P w K mg base 1 "_shape_word" ["word", "gate"] spWord :=
  T.d_shape_word.calo (fun F => ok_shape_word T F) fun _ _ _ _ _ _ us hl => match us, hl with | [_, _], _ => rfl
def spMoved : Sp := fun vs H Q _ => ∃ (x : Addr) (p : Pm) (lv : Int) (y : W5), vs = [.ref x, .int lv, .str y.s] ∧ H x = some (.tup p.tup) ∧ ∀ t H', Same H H' → H' t = some (.tup [.int (mv p lv y).1, .str (mv p lv y).2.s]) → Q (.ref t) H'
theorem sc_shape_moved : FnScope ["part", "level", "word", "_", "up", "down", "stay", "away", "higher", "lower"] ["part", "level", "word"] (defScope s_shape_moved) := ⟨rfl, rfl, rfl, by decide +kernel, rfl, by decide +kernel, by decide +kernel⟩
theorem ok_shape_moved (T : Txt K mg w CP CI CW) (F : Fun K "_shape_moved" "_shape_moved" s_shape_moved f fd) : FnOk P w K mg base (L2.CX P w) 1 f fd ["part", "level", "word"] spMoved := by
  refine F.okX sc_shape_moved (fun vs H Q E h => ?_) (fun cdv A outer s H vs Q E hr h => ?_)
  · obtain ⟨_, _, _, _, rfl, _⟩ := h
    rfl
  · obtain ⟨x, p, lv, y, rfl, hx, q⟩ := h
    have nd := sc_shape_moved.nd
    refine ⟨_, (pss_cons (ps_asg (pv 0) (pg_tup rfl (pgs_cons (pg_name (i := 3) nd rfl (Or.inl rfl)) (pgs_cons (pg_name (i := 4) nd rfl (Or.inl rfl)) (pgs_cons (pg_name (i := 5) nd rfl (Or.inl rfl)) (pgs_cons (pg_name (i := 6) nd rfl (Or.inl rfl)) (pgs_cons (pg_name (i := 7) nd rfl (Or.inl rfl)) pgs_nil)))))))
        (pss_cons (ps_if (pt_cmpR op_eq (pv 2) pe_str (nomark _)) (pss_cons (ps_set (i := 8) nd rfl (Or.inl rfl) (pe_callB (call_min2 rfl) (by rfl) T.n_min (by decide +kernel) (pa_cons (pe_gc T.g_TOP) (pa_cons (pe_op op_add (pv 1) (pv 4)) pa_nil))))
        (pss_one (ps_ret (pe_tup (pa_cons (pv 8) (pa_cons (pe_ifExp (pt_cmpR op_eq (pv 8) (pe_gc T.g_TOP) (nomark _)) pe_str pe_str) pa_nil)))))) pss_nil)
        (pss_cons (ps_if (pt_cmpR op_eq (pv 2) pe_str (nomark _)) (pss_cons (ps_set (i := 9) nd rfl (Or.inl rfl) (pe_callB (call_max2 rfl) (by rfl) T.n_max (by decide +kernel) (pa_cons (pv 6) (pa_cons (pe_op op_sub (pv 1) (pv 5)) pa_nil))))
        (pss_one (ps_ret (pe_tup (pa_cons (pv 9) (pa_cons (pe_ifExp (pt_cmpR op_eq (pv 9) (pv 6) (nomark _)) pe_str pe_str) pa_nil)))))) pss_nil)
        (pss_cons (ps_if (pt_cmpR op_eq (pv 2) pe_str (nomark _)) (pss_one (ps_ret (pe_tup (pa_cons (pv 6) (pa_cons pe_str pa_nil))))) pss_nil)
        (pss_cons (ps_if (pt_cmpR op_eq (pv 2) pe_str (nomark _)) (pss_cons (ps_set (i := 9) nd rfl (Or.inl rfl) (pe_callB (call_max2 rfl) (by rfl) T.n_max (by decide +kernel) (pa_cons pe_int (pa_cons (pe_op op_sub (pv 1) (pv 7)) pa_nil))))
        (pss_one (ps_ret (pe_tup (pa_cons (pv 9) (pa_cons (pe_ifExp (pt_cmpR op_eq (pv 9) pe_int (nomark _)) pe_str pe_str) pa_nil)))))) pss_nil)
        (pss_one (ps_ret (pe_tup (pa_cons pe_int (pa_cons pe_str pa_nil)))))))))), ?_⟩
    walk_at "rd"
    refine ⟨x, _, rfl, SqT.of hx, rfl, ?_⟩
    refine r_gc ?_
    walk_at "rd"
    refine r_gc ?_
    walk_at "rd"
    refine r_gc ?_
    walk_at "rd"
    refine r_gc ?_
    walk_at "rd"
    refine r_gc ?_
    walk_at "rd"
    refine r_gn ?_
    walk_at "rd"
    cases y with
    | up =>
      refine iteTb (by decide +kernel) ?_
      walk_at "rd"
      refine ⟨_, _, rfl, ?_⟩
      walk_at "rd"
      have e : (if lv + p.u < 2047 then lv + p.u else 2047) = min 2047 (lv + p.u) := by split <;> omega
      rw [e]
      refine ite2 (fun c => ?_) (fun c => ?_)
      · have c : V.int (min 2047 (lv + p.u)) = .int 2047 := of_decide_eq_true c
        injection c with c
        walk_at "rd"
        refine r_new rfl fun t ht => q t _ (same_new ht) ?_
        show _ = some (HO.tup [.int (min 2047 (lv + p.u)), .str (if min 2047 (lv + p.u) = 2047 then W5.down else W5.up).s])
        rw [if_pos c]
        exact upd_same
      · have c : ¬ min 2047 (lv + p.u) = 2047 := fun z => c (decide_eq_true (by rw [z]))
        walk_at "rd"
        refine r_new rfl fun t ht => q t _ (same_new ht) ?_
        show _ = some (HO.tup [.int (min 2047 (lv + p.u)), .str (if min 2047 (lv + p.u) = 2047 then W5.down else W5.up).s])
        rw [if_neg c]
        exact upd_same
    | down =>
      refine iteFb (by decide +kernel) ?_
      walk_at "rd"
      refine iteTb (by decide +kernel) ?_
      walk_at "rd"
      refine ⟨_, _, rfl, ?_⟩
      walk_at "rd"
      have e : (if lv - p.d > p.s then lv - p.d else p.s) = max p.s (lv - p.d) := by split <;> omega
      rw [e]
      refine ite2 (fun c => ?_) (fun c => ?_)
      · have c : V.int (max p.s (lv - p.d)) = .int p.s := of_decide_eq_true c
        injection c with c
        walk_at "rd"
        refine r_new rfl fun t ht => q t _ (same_new ht) ?_
        show _ = some (HO.tup [.int (max p.s (lv - p.d)), .str (if max p.s (lv - p.d) = p.s then W5.stay else W5.down).s])
        rw [if_pos c]
        exact upd_same
      · have c : ¬ max p.s (lv - p.d) = p.s := fun z => c (decide_eq_true (by rw [z]))
        walk_at "rd"
        refine r_new rfl fun t ht => q t _ (same_new ht) ?_
        show _ = some (HO.tup [.int (max p.s (lv - p.d)), .str (if max p.s (lv - p.d) = p.s then W5.stay else W5.down).s])
        rw [if_neg c]
        exact upd_same
    | stay =>
      refine iteFb (by decide +kernel) ?_
      walk_at "rd"
      refine iteFb (by decide +kernel) ?_
      walk_at "rd"
      refine iteTb (by decide +kernel) ?_
      walk_at "rd"
      exact r_new rfl fun t ht => q t _ (same_new ht) upd_same
    | away =>
      refine iteFb (by decide +kernel) ?_
      walk_at "rd"
      refine iteFb (by decide +kernel) ?_
      walk_at "rd"
      refine iteFb (by decide +kernel) ?_
      walk_at "rd"
      refine iteTb (by decide +kernel) ?_
      walk_at "rd"
      refine ⟨_, _, rfl, ?_⟩
      walk_at "rd"
      have e : (if lv - p.a > 0 then lv - p.a else 0) = max 0 (lv - p.a) := by split <;> omega
      rw [e]
      refine ite2 (fun c => ?_) (fun c => ?_)
      · have c : V.int (max 0 (lv - p.a)) = .int 0 := of_decide_eq_true c
        injection c with c
        walk_at "rd"
        refine r_new rfl fun t ht => q t _ (same_new ht) ?_
        show _ = some (HO.tup [.int (max 0 (lv - p.a)), .str (if max 0 (lv - p.a) = 0 then W5.rest else W5.away).s])
        rw [if_pos c]
        exact upd_same
      · have c : ¬ max 0 (lv - p.a) = 0 := fun z => c (decide_eq_true (by rw [z]))
        walk_at "rd"
        refine r_new rfl fun t ht => q t _ (same_new ht) ?_
        show _ = some (HO.tup [.int (max 0 (lv - p.a)), .str (if max 0 (lv - p.a) = 0 then W5.rest else W5.away).s])
        rw [if_neg c]
        exact upd_same
    | rest =>
      refine iteFb (by decide +kernel) ?_
      walk_at "rd"
      refine iteFb (by decide +kernel) ?_
      walk_at "rd"
      refine iteFb (by decide +kernel) ?_
      walk_at "rd"
      refine iteFb (by decide +kernel) ?_
      walk_at "rd"
      exact r_new rfl fun t ht => q t _ (same_new ht) upd_same
theorem c_shape_moved (T : Txt K mg w CP CI CW) : CalO P w K mg base 1 "_shape_moved" ["part", "level", "word"] spMoved :=
  T.d_shape_moved.calo (fun F => ok_shape_moved T F) fun _ _ _ _ _ _ us hl => match us, hl with | [_, _, _], _ => rfl
def spStep (K : PySem.W.Frag) : Sp := fun vs H Q _ => ∃ (x k d : Addr) (p : Pm) (lv : Int) (y : W5) (g : Int), vs = [.ref x, .ref k, .ref d] ∧ H x = some (.tup p.tup) ∧ SqT K H k [.int lv, .str y.s] ∧ H d = some (.dK [(.inr "gate", .int g)]) ∧
  ∀ r t H', Same H H' → H' t = some (.tup [.int (mv p lv (wordF y (decide (0 < g)))).1, .str (mv p lv (wordF y (decide (0 < g)))).2.s]) → H' r = some (.tup [.int (mv p lv (wordF y (decide (0 < g)))).1, .ref t, .bl false]) → Q (.ref r) H'
theorem sc_shape_step : FnScope ["part", "kept", "ins", "level", "word", "stands"] ["part", "kept", "ins"] (defScope s_shape_step) := ⟨rfl, rfl, rfl, by decide +kernel, rfl, by decide +kernel, by decide +kernel⟩
theorem ok_shape_step (T : Txt K mg w CP CI CW) (F : Fun K "_shape_step" "_shape_step" s_shape_step f fd) : FnOk P w K mg base (L2.CX P w) 2 f fd ["part", "kept", "ins"] (spStep K) := by
  refine F.okX sc_shape_step (fun vs H Q E h => ?_) (fun cdv A outer s H vs Q E hr h => ?_)
  · obtain ⟨_, _, _, _, _, _, _, rfl, _⟩ := h
    rfl
  · obtain ⟨x, k, d, p, lv, y, g, rfl, hx, hk, hd, q⟩ := h
    have nd := sc_shape_step.nd
    refine ⟨_, (pss_cons (ps_asg (pv 1) (pg_tup rfl (pgs_cons (pg_name (i := 3) nd rfl (Or.inl rfl)) (pgs_cons (pg_name (i := 4) nd rfl (Or.inl rfl)) pgs_nil))))
        (pss_cons (ps_set (i := 5) nd rfl (Or.inl rfl) (pe_o (c_shape_moved T) (hr.mono (by decide)) (fun _ => passS) (pa_cons (pv 0) (pa_cons (pv 3) (pa_cons (pe_o (c_shape_word T) (hr.mono (by decide)) (fun _ => passS) (pa_cons (pv 4) (pa_cons (pe_dget2 (Nat.lt_of_le_of_lt (Nat.add_le_add_left (by decide : 1 ≤ 64) _) hr.units) (pv 2) pe_str pe_int ⟨rfl, rfl, rfl, rfl⟩) pa_nil))) pa_nil)))))
        (pss_one (ps_ret (pe_tup (pa_cons (pe_ix ix_tup (pv 5) pe_int (fun _ _ => rfl)) (pa_cons (pv 5) (pa_cons pe_bl pa_nil)))))))), ?_⟩
    walk_at "rd"
    refine ⟨k, _, rfl, hk, rfl, ?_⟩
    refine r_gc ?_
    walk_at "rd"
    refine r_gc ?_
    walk_at "rd"
    refine r_gn ?_
    walk_at "rd"
    refine r_dget rfl hd ?_
    show tNil _ _ _
    walk_at "rd"
    refine ⟨y, g, rfl, fun H1 s1 => ?_⟩
    walk_at "rd"
    refine ⟨x, p, lv, wordF y (decide (0 < g)), rfl, s1 _ _ hx, fun t H2 s2 et => ?_⟩
    walk_at "rd"
    refine ⟨t, _, 0, _, rfl, rfl, SqT.of et, rfl, ?_⟩
    walk_at "rd"
    refine r_new rfl fun r hr2 => ?_
    exact q r t _ ((s1.trans s2).trans (same_new hr2)) (same_new hr2 _ _ et) upd_same
theorem c_shape_step (T : Txt K mg w CP CI CW) : CalO P w K mg base 2 "_shape_step" ["part", "kept", "ins"] (spStep K) :=
  T.d_shape_step.calo (fun F => ok_shape_step T F) fun _ _ _ _ _ _ us hl => match us, hl with | [_, _, _], _ => rfl
end
end K8
set_option linter.all false
set_option maxRecDepth 100000
set_option maxHeartbeats 4000000
namespace K8
open PySem PySem.Spec PyProof.Rows L2 Gx
local macro_rules | `(tactic| walk_at "rd1") => `(tactic| with_reducible first
  | refine r_var rfl ?_ | refine r_c ?_ | refine r_op ?_ | refine r_un ?_ | refine r_I0 ?_ | refine r_neg ?_ | refine r_test ?_ | refine r_B ?_ | refine r_bl ?_ | refine r_blx ?_
  | refine r_seq ?_ | refine r_ret ?_ | refine r_asg ?_ | refine r_name ?_ | refine r_gsub ?_ | refine r_if ?_ | refine r_next ?_ | refine r_drop ?_ | refine r_cb ?_ | refine r_nil ?_ | refine r_cons ?_
  | refine r_g ?_ | refine r_k ?_ | refine r_lst ?_ | refine r_tup ?_ | refine r_notV ?_ | refine r_ifE ?_ | refine r_and ?_ | refine r_or ?_ | refine r_not ?_ | refine r_chain ?_
  | refine r_sl ?_ | refine r_part ?_ | refine r_nop ?_ | refine r_par3 ?_ | refine r_is3 ?_ | refine r_par2 ?_ | refine r_is2 ?_ | refine r_m0 ?_ | refine r_ei ?_ | refine r_nx ?_ | refine r_rt ?_ | refine r_ct ?_ | refine r_eq rfl ?_ | refine r_ne rfl ?_ | refine iteT ?_ | refine iteF ?_ | refine iteNF ?_ | refine iteNT ?_
  | (refine r_fdivK ?hc ?_; (case hc => decide +kernel)) | (refine r_modK ?hc ?_; (case hc => decide +kernel)) | (refine r_mulL ?hc ?_; (case hc => decide +kernel)) | (refine r_mulR ?hc ?_; (case hc => decide +kernel)) | (refine r_powK ?hc ?_; (case hc => decide +kernel)) | fail "no step")
local macro_rules | `(tactic| walk_at "rd") => `(tactic| repeat' walk_at "rd1")
section
variable {P : Program} {w : World} {K : PySem.W.Frag} {mg : Str → Option Value} {base : Heap} {f : Addr} {fd : FuncData} {CP CI CW : Addr}
/-! ### _are_ins -/
abbrev gate (g : Int) : List (Key × V) := [(.inr "gate", .int g)]
def spAre : Sp := fun vs H Q _ => ∃ (d : Addr) (g : Int), vs = [.ref d] ∧ H d = some (.dK (gate g)) ∧ -2048 ≤ g ∧ g ≤ 2047 ∧ ∀ H', Same H H' → Q (.bl true) H'
theorem sc_are_ins : FnScope ["thing", "name", "worth"] ["thing"] (defScope s_are_ins) := ⟨rfl, rfl, rfl, by decide +kernel, rfl, by decide +kernel, by decide +kernel⟩
theorem ok_are_ins (T : Txt K mg w CP CI CW) (F : Fun K "_are_ins" "_are_ins" s_are_ins f fd) : FnOk P w K mg base (L2.CX P w) 4 f fd ["thing"] spAre := by
  refine F.okX sc_are_ins (fun vs H Q E h => ?_) (fun cdv A outer s H vs Q E hr h => ?_)
  · obtain ⟨_, _, rfl, _⟩ := h
    rfl
  · obtain ⟨d, g, rfl, hd, g0, g1, q⟩ := h
    have nd := sc_are_ins.nd
    refine ⟨_, (pss_cons (ps_if (PW.pt (pw_or (pt_not (pt_val (pe_callB call_is2 (by rfl) T.n_isinstance (by decide +kernel) (pa_cons (pv 0) (pa_cons (pe_tyn "dict" T.n_dict (by decide +kernel)) pa_nil))))) (pw_or1 (pt_cmpR op_gt (pe_callB call_lenD (by rfl) T.n_len PySem.boot_len (pa_cons (pv 0) pa_nil)) (pe_gc T.g_MOST_INS) (nomark _))))) (pss_one (ps_ret pe_bl)) pss_nil)
      (pss_one (ps_ret (pe_callB (cr_all rfl) (by rfl) T.n_all (by decide +kernel) (pa_cons (pe_lock (pe_lc (own := [("name", 1), ("worth", 2)]) (g := gTup K 2 (gCons (gName 1) (gCons (gName 2) gNil))) (tt := tYes) rfl nd (pi_items (pv 0)) (blkOk_by (N := ["thing", "name", "worth"]) (sc := defScope s_are_ins) (by decide +kernel))
        (fun _ _ _ _ _ => pg_tup rfl (pgs_cons (pg_name (i := 1) nd rfl (Or.inl rfl)) (pgs_cons (pg_name (i := 2) nd rfl (Or.inl rfl)) pgs_nil))) (fun _ _ _ _ _ => pts_nil) (fun _ _ _ _ _ => pe_and (pe_o (c_is_name T) (hr.mono (by decide)) (fun _ => passS) (pa_cons (pv 1) pa_nil)) (pe_one (pe_o (c_is_worth T) (hr.mono (by decide)) (fun _ => passS) (pa_cons (pv 2) pa_nil)))))) pa_nil))))), ?_⟩
    walk_at "rd"
    refine ⟨_, "dict", true, rfl, isI_dct hd (by decide +kernel), ?_⟩
    walk_at "rd"
    refine ⟨d, _, rfl, hd, ?_⟩
    walk_at "rd"
    refine iteFb rfl ?_
    walk_at "rd"
    refine ⟨d, _, hd, trivial, fun od => ?_⟩
    refine r_lc ?_
    refine ⟨.ref d, rfl, d, od, _, rfl, upd_same, ?_⟩
    have e1 : upd H d (.frz od (.dK (gate g))) d = some (.frz od (.dK (gate g))) := upd_same
    have f1 : ∀ c u, c ≠ d → H c = some u → upd H d (.frz od (.dK (gate g))) c = some u := fun c u n h => by rw [upd_ne n]; exact h
    generalize upd H d (.frz od (.dK (gate g))) = H1 at e1 f1 ⊢
    refine fun D hD => lc_it walk_items (fun i h => h D = some (.lst (List.replicate i (.bl true))) ∧ Same H1 h) ⟨upd_same, same_new hD⟩ (fun i h _ q => q.2 _ _ e1) (fun i x h h' hi q y => ?_) (fun h q2 => ?_)
    · obtain ⟨t, k, v, rfl, ht, rfl, hk, hv⟩ := y
      obtain rfl : i = 0 := by
        have : i < 1 := hi
        omega
      obtain rfl : V.str "gate" = k := by injection hk
      obtain rfl : V.int g = v := by injection hv
      refine ⟨t, _, rfl, SqT.of upd_same, rfl, ?_⟩
      refine r_gc ?_
      walk_at "rd"
      refine r_gc ?_
      walk_at "rd"
      refine r_gn ?_
      refine ⟨rfl, r_yes (iteT ?_)⟩
      refine r_andV ?_
      walk_at "rd"
      refine ⟨_, true, rfl, .inl ⟨"gate", rfl, by decide, by decide +kernel⟩, fun H3 s3 => ?_⟩
      walk_at "rd"
      refine ⟨_, true, rfl, .inl ⟨g, rfl, by rw [decide_eq_true g0, decide_eq_true g1]; rfl⟩, ?_⟩
      have tD : t ≠ D := fun z => by rw [z, q.1] at ht; cases ht
      have eD := s3 _ _ (same_new (o := .tup [.str "gate", .int g]) ht _ _ q.1)
      exact ⟨_, eD, by decide, upd_same, same_upd hD (q.2.trans ((same_new ht).trans s3))⟩
    · have dD : D ≠ d := fun z => by rw [z, e1] at hD; cases hD
      refine ⟨q2.2 _ _ e1, ?_⟩
      walk_at "rd"
      refine ⟨D, [true], rfl, SqL.of (by rw [upd_ne dD]; exact q2.1), ?_⟩
      refine q _ fun c u hc => ?_
      by_cases z : c = d
      · subst z
        rw [hd] at hc
        cases hc
        exact upd_same
      · rw [upd_ne z]
        exact q2.2 _ _ (f1 c u z hc)
theorem c_are_ins (T : Txt K mg w CP CI CW) : CalO P w K mg base 4 "_are_ins" ["thing"] spAre :=
  T.d_are_ins.calo (fun F => ok_are_ins T F) fun _ _ _ _ _ _ us hl => match us, hl with | [_], _ => rfl
end
end K8
set_option linter.all false
set_option maxRecDepth 100000
set_option maxHeartbeats 4000000
namespace K8
open PySem PySem.Spec PyProof.Rows L2 Gx
local macro_rules | `(tactic| walk_at "rd1") => `(tactic| with_reducible first
  | refine r_var rfl ?_ | refine r_c ?_ | refine r_op ?_ | refine r_un ?_ | refine r_I0 ?_ | refine r_neg ?_ | refine r_test ?_ | refine r_B ?_ | refine r_bl ?_ | refine r_blx ?_
  | refine r_seq ?_ | refine r_ret ?_ | refine r_asg ?_ | refine r_name ?_ | refine r_gsub ?_ | refine r_if ?_ | refine r_next ?_ | refine r_drop ?_ | refine r_cb ?_ | refine r_nil ?_ | refine r_cons ?_
  | refine r_g ?_ | refine r_k ?_ | refine r_lst ?_ | refine r_tup ?_ | refine r_notV ?_ | refine r_ifE ?_ | refine r_and ?_ | refine r_or ?_ | refine r_not ?_ | refine r_chain ?_
  | refine r_sl ?_ | refine r_part ?_ | refine r_nop ?_ | refine r_par3 ?_ | refine r_is3 ?_ | refine r_par2 ?_ | refine r_is2 ?_ | refine r_m0 ?_ | refine r_ei ?_ | refine r_nx ?_ | refine r_rt ?_ | refine r_ct ?_ | refine r_eq rfl ?_ | refine r_ne rfl ?_ | refine iteT ?_ | refine iteF ?_ | refine iteNF ?_ | refine iteNT ?_
  | (refine r_fdivK ?hc ?_; (case hc => decide +kernel)) | (refine r_modK ?hc ?_; (case hc => decide +kernel)) | (refine r_mulL ?hc ?_; (case hc => decide +kernel)) | (refine r_mulR ?hc ?_; (case hc => decide +kernel)) | (refine r_powK ?hc ?_; (case hc => decide +kernel)) | fail "no step")
local macro_rules | `(tactic| walk_at "rd") => `(tactic| repeat' walk_at "rd1")
section
variable {P : Program} {w : World} {K : PySem.W.Frag} {mg : Str → Option Value} {base : Heap} {f : Addr} {fd : FuncData} {CP CI CW : Addr}
/-! ### Worker -/
theorem r_sfld {σ : L2.St} {H : Hp} {D : Ends} {ta tv : TE} {g : Str} (h : tv σ H fun y H1 => ta σ H1 fun x H2 => ∃ a C dx fs, x = .ref a ∧ H2 a = some (.ins C dx fs) ∧ Cls K C ∧ NoAttr K C g ∧ fs.length < 1000 ∧ D.nx σ (upd H2 a (.ins C dx (putF g y fs)))) : sFld K ta tv g D σ H := h
theorem r_tfld {σ : L2.St} {H : Hp} {Q : VK} {ta : TE} {g : Str} (h : ta σ H fun x H1 => ∃ a C dx fs v, x = .ref a ∧ H1 a = some (.ins C dx fs) ∧ Cls K C ∧ NoAttr K C g ∧ fs.lookup g = some v ∧ Q v H1) : tFld K ta g σ H Q := h
theorem sqt_upd {H : Hp} {a k : Addr} {xs : List V} {o : HO} (h : SqT K H k xs) (n1 : H a ≠ some (.tup xs)) (n2 : ∀ u, H a ≠ some (.frz u (.tup xs))) : SqT K (upd H a o) k xs := by
  rcases h with (h | ⟨u, h⟩) | h
  · exact .inl (.inl (by rw [upd_ne fun z => n1 (by rw [← z]; exact h)]; exact h))
  · exact .inl (.inr ⟨u, by rw [upd_ne fun z => n2 u (by rw [← z]; exact h)]; exact h⟩)
  · exact .inr h
/-- what a worker holds -/
abbrev wf (x k : Addr) : List (Str × V) := [("_part", .ref x), ("_kept", .ref k), ("_folded_last", .bl false)]
/-- all but a stays -/
def Sv (a : Addr) (H H' : Hp) : Prop := ∀ c u, c ≠ a → H c = some u → H' c = some u
def spInit (K : PySem.W.Frag) (CW : Addr) : Sp := fun vs H Q _ => ∃ (a dx x : Addr) (p : Pm), vs = [.ref a, .ref x] ∧ H a = some (.ins CW dx []) ∧ H x = some (.tup p.tup) ∧ p.ok ∧ ∀ k H', H' a = some (.ins CW dx (wf x k)) → SqT K H' k [.int 0, .str "rest"] → Sv a H H' → Q .non H'
theorem sc_w_init : FnScope ["self", "part"] ["self", "part"] (defScope s_w_init) := ⟨rfl, rfl, rfl, by decide +kernel, rfl, by decide +kernel, by decide +kernel⟩
theorem ok_w_init (T : Txt K mg w CP CI CW) (F : Fun K "__init__" "Worker.__init__" s_w_init f fd) : FnOk P w K mg base (L2.CX P w) 5 f fd ["self", "part"] (spInit K CW) := by
  refine F.okX sc_w_init (fun vs H Q E h => ?_) (fun cdv A outer s H vs Q E hr h => ?_)
  · obtain ⟨_, _, _, _, rfl, _⟩ := h
    rfl
  · obtain ⟨a, dx, x, p, rfl, ha, hx, ok, q⟩ := h
    refine ⟨_, (pss_cons (ps_if (pt_not (pt_val (pe_o (c_is_part T) (hr.mono (by decide)) (fun _ => passS) (pa_cons (pv 1) pa_nil)))) (pss_one (ps_rs T.x_NoPart (ok_init_NoPart T) b_init_NoPart (hr.mono (by decide)) rfl (takes_of rfl rfl rfl rfl) rfl (pa_cons (pv 1) pa_nil))) pss_nil)
        (pss_cons (ps_fld (pv 0) (pv 1) rfl)
        (pss_cons (ps_fld (pv 0) (pe_o (c_kept_at_first T) (hr.mono (by decide)) (fun _ => passS) (pa_cons (pv 1) pa_nil)) rfl)
        (pss_one (ps_fld (pv 0) pe_bl rfl))))), ?_⟩
    walk_at "rd"
    refine ⟨x, p, rfl, hx, ok, fun H1 s1 => ?_⟩
    have ha1 := s1 _ _ ha
    have hx1 := s1 _ _ hx
    have xa : x ≠ a := fun z => by rw [z, ha] at hx; cases hx
    walk_at "rd"
    refine r_sfld ?_
    walk_at "rd"
    refine ⟨a, CW, dx, _, rfl, ha1, T.w_cls, T.w_part, Nat.le_of_ble_eq_true rfl, ?_⟩
    walk_at "rd"
    refine r_sfld ?_
    walk_at "rd"
    refine ⟨x, p, rfl, by rw [upd_ne xa]; exact hx1, fun k hk => ?_⟩
    walk_at "rd"
    refine ⟨a, CW, dx, _, rfl, upd_same, T.w_cls, T.w_kept, Nat.le_of_ble_eq_true rfl, ?_⟩
    rw [upd_upd]
    walk_at "rd"
    refine r_sfld ?_
    walk_at "rd"
    refine ⟨a, CW, dx, _, rfl, upd_same, T.w_cls, T.w_fold, Nat.le_of_ble_eq_true rfl, ?_⟩
    rw [upd_upd]
    walk_at "rd"
    refine q k _ upd_same ?_ fun c u n hc => ?_
    · have hk2 := sqt_upd (o := .ins CW dx (wf x k)) hk (fun z => by rw [upd_same] at z; cases z) (fun o z => by rw [upd_same] at z; cases z)
      rw [upd_upd] at hk2
      exact hk2
    · rw [upd_ne n]
      exact s1 _ _ hc
def spSample (K : PySem.W.Frag) (CW : Addr) : Sp := fun vs H Q _ => ∃ (a dx x k d : Addr) (p : Pm) (lv : Int) (y : W5) (g : Int), vs = [.ref a, .ref d] ∧ H a = some (.ins CW dx (wf x k)) ∧ H x = some (.tup p.tup) ∧ SqT K H k [.int lv, .str y.s] ∧ H d = some (.dK (gate g)) ∧ -2048 ≤ g ∧ g ≤ 2047 ∧
  ∀ k2 H', H' a = some (.ins CW dx (wf x k2)) → SqT K H' k2 [.int (mv p lv (wordF y (decide (0 < g)))).1, .str (mv p lv (wordF y (decide (0 < g)))).2.s] → Sv a H H' → Q (.int (mv p lv (wordF y (decide (0 < g)))).1) H'
theorem sc_sample : FnScope ["self", "ins", "step", "worth"] ["self", "ins"] (defScope s_w_sample) := ⟨rfl, rfl, rfl, by decide +kernel, rfl, by decide +kernel, by decide +kernel⟩
theorem ok_sample (T : Txt K mg w CP CI CW) (F : Fun K "sample" "Worker.sample" s_w_sample f fd) : FnOk P w K mg base (L2.CX P w) 5 f fd ["self", "ins"] (spSample K CW) := by
  obtain ⟨a__STEPS, fs, g__STEPS, kS, mS⟩ := T.g_STEPS
  refine F.okX sc_sample (fun vs H Q E h => ?_) (fun cdv A outer s H vs Q E hr h => ?_)
  · obtain ⟨_, _, _, _, _, _, _, _, _, rfl, _⟩ := h
    rfl
  · obtain ⟨a, dx, x, k, d, p, lv, y, g, rfl, ha, hx, hk, hd, g0, g1, q⟩ := h
    have nd := sc_sample.nd
    have cl : ∀ b sp, (b = fs ∧ sp = spStep K) → ∃ fd ps, FnOk P w K mg base (L2.CX P w) 2 b fd ps sp ∧ PySem.W.keepIn K (.ref b) = true ∧ Binds K fd ps [] := by
      rintro b sp ⟨rfl, rfl⟩
      exact (c_shape_step T).at mS
    refine ⟨_, (pss_cons (ps_if (pt_not (pt_val (pe_o (c_are_ins T) (hr.mono (by decide)) (fun _ => passS) (pa_cons (pv 1) pa_nil)))) (pss_one (ps_rs T.x_NoIns (ok_init_NoIns T) b_init_NoIns (hr.mono (by decide)) rfl (takes_of rfl rfl rfl rfl) rfl (pa_cons (pv 1) pa_nil))) pss_nil)
        (pss_cons (ps_set (i := 2) nd rfl (Or.inl rfl) (pe_ix ix_kdict (pe_gc (v := .ref a__STEPS) ⟨_, g__STEPS, rfl⟩) (pe_ix ix_tup (pe_fld (pv 0) rfl) pe_int (fun _ _ => rfl)) (fun _ _ => rfl)))
        (pss_cons (ps_asg (pe_calo cl (hr.mono (by decide)) (fun _ => passS) (pv 2) (pa_cons (pe_fld (pv 0) rfl) (pa_cons (pe_fld (pv 0) rfl) (pa_cons (pv 1) pa_nil)))) (pg_tup rfl (pgs_cons (pg_name (i := 3) nd rfl (Or.inl rfl)) (pgs_cons (pg_fld (pv 0)) (pgs_cons (pg_fld (pv 0)) pgs_nil)))))
        (pss_one (ps_ret (pv 3)))))), ?_⟩
    walk_at "rd"
    refine ⟨d, g, rfl, hd, g0, g1, fun H1 s1 => ?_⟩
    have ha1 := s1 _ _ ha
    have hx1 := s1 _ _ hx
    have hk1 := sqt_same hk s1
    walk_at "rd"
    refine r_tfld ?_
    walk_at "rd"
    refine ⟨a, CW, dx, _, _, rfl, ha1, T.w_cls, T.w_part, rfl, ?_⟩
    walk_at "rd"
    refine ⟨x, _, 0, .str "shape", rfl, rfl, SqT.of hx1, rfl, ?_⟩
    refine ⟨a__STEPS, "shape", .ref fs, rfl, rfl, kS, ?_⟩
    walk_at "rd"
    refine r_calv ?_
    walk_at "rd"
    refine ⟨fs, _, rfl, ⟨rfl, rfl⟩, ?_⟩
    walk_at "rd"
    refine r_tfld ?_
    walk_at "rd"
    refine ⟨a, CW, dx, _, _, rfl, ha1, T.w_cls, T.w_part, rfl, ?_⟩
    walk_at "rd"
    refine r_tfld ?_
    walk_at "rd"
    refine ⟨a, CW, dx, _, _, rfl, ha1, T.w_cls, T.w_kept, rfl, ?_⟩
    walk_at "rd"
    refine ⟨x, k, d, p, lv, y, g, rfl, hx1, hk1, s1 _ _ hd, fun r t H2 s2 et er => ?_⟩
    walk_at "rd"
    refine ⟨r, _, rfl, SqT.of er, rfl, ?_⟩
    refine r_gc ?_
    walk_at "rd"
    refine r_gc ?_
    refine r_gfld ?_
    walk_at "rd"
    refine ⟨a, CW, dx, _, rfl, s2 _ _ ha1, T.w_cls, T.w_kept, Nat.le_of_ble_eq_true rfl, ?_⟩
    refine r_gc ?_
    refine r_gfld ?_
    walk_at "rd"
    refine ⟨a, CW, dx, _, rfl, upd_same, T.w_cls, T.w_fold, Nat.le_of_ble_eq_true rfl, ?_⟩
    rw [upd_upd]
    refine r_gn ?_
    walk_at "rd"
    have ta : t ≠ a := fun z => by rw [z, s2 _ _ ha1] at et; cases et
    refine q t _ upd_same (SqT.of (by rw [upd_ne ta]; exact et)) fun c u n hc => ?_
    rw [upd_ne n]
    exact s2 _ _ (s1 _ _ hc)
def spGive (CW : Addr) : Sp := fun vs H Q _ => ∃ (a dx x k x2 : Addr) (p p2 : Pm), vs = [.ref a, .ref x2] ∧ H a = some (.ins CW dx (wf x k)) ∧ H x = some (.tup p.tup) ∧ H x2 = some (.tup p2.tup) ∧ p2.ok ∧ ∀ H', H' a = some (.ins CW dx (wf x2 k)) → Sv a H H' → Q .non H'
theorem sc_give : FnScope ["self", "part"] ["self", "part"] (defScope s_w_give) := ⟨rfl, rfl, rfl, by decide +kernel, rfl, by decide +kernel, by decide +kernel⟩
theorem ok_give (T : Txt K mg w CP CI CW) (F : Fun K "give" "Worker.give" s_w_give f fd) : FnOk P w K mg base (L2.CX P w) 5 f fd ["self", "part"] (spGive CW) := by
  refine F.okX sc_give (fun vs H Q E h => ?_) (fun cdv A outer s H vs Q E hr h => ?_)
  · obtain ⟨_, _, _, _, _, _, _, rfl, _⟩ := h
    rfl
  · obtain ⟨a, dx, x, k, x2, p, p2, rfl, ha, hx, hx2, ok, q⟩ := h
    refine ⟨_, (pss_cons (ps_if (PW.pt (pw_or (pt_not (pt_val (pe_o (c_is_part T) (hr.mono (by decide)) (fun _ => passS) (pa_cons (pv 1) pa_nil)))) (pw_or1 (pt_cmpR (op_neD hr.units) (pe_o (c_form T) (hr.mono (by decide)) (fun _ => passS) (pa_cons (pv 1) pa_nil)) (pe_o (c_form T) (hr.mono (by decide)) (fun _ => passS) (pa_cons (pe_fld (pv 0) rfl) pa_nil)) (nomark _))))) (pss_one (ps_rs T.x_NoPart (ok_init_NoPart T) b_init_NoPart (hr.mono (by decide)) rfl (takes_of rfl rfl rfl rfl) rfl (pa_cons (pv 1) pa_nil))) pss_nil)
        (pss_one (ps_fld (pv 0) (pv 1) rfl))), ?_⟩
    walk_at "rd"
    refine ⟨x2, p2, rfl, hx2, ok, fun H1 s1 => ?_⟩
    walk_at "rd"
    refine ⟨x2, p2, rfl, s1 _ _ hx2, fun t1 H2 s2 e1 => ?_⟩
    walk_at "rd"
    refine r_tfld ?_
    walk_at "rd"
    refine ⟨a, CW, dx, _, _, rfl, s2 _ _ (s1 _ _ ha), T.w_cls, T.w_part, rfl, ?_⟩
    walk_at "rd"
    refine ⟨x, p, rfl, s2 _ _ (s1 _ _ hx), fun t2 H3 s3 e2 => ?_⟩
    refine ⟨_, _, .tup (SqT.of (s3 _ _ e1)) (.cons (.str "shape") .nil), .tup (SqT.of e2) (.cons (.str "shape") .nil), by decide +kernel, by decide +kernel, ?_⟩
    walk_at "rd"
    refine iteFb (by decide +kernel) ?_
    walk_at "rd"
    refine r_sfld ?_
    walk_at "rd"
    refine ⟨a, CW, dx, _, rfl, s3 _ _ (s2 _ _ (s1 _ _ ha)), T.w_cls, T.w_part, Nat.le_of_ble_eq_true rfl, ?_⟩
    walk_at "rd"
    refine q _ upd_same fun c u n hc => ?_
    rw [upd_ne n]
    exact s3 _ _ (s2 _ _ (s1 _ _ hc))
def spStands (K : PySem.W.Frag) (CW : Addr) : Sp := fun vs H Q _ => ∃ (a dx x k : Addr) (lv : Int) (y : W5), vs = [.ref a] ∧ H a = some (.ins CW dx (wf x k)) ∧ SqT K H k [.int lv, .str y.s] ∧ ∀ t H', Same H H' → H' t = some (.tup [.ref x, .int lv, .str y.s]) → Q (.ref t) H'
theorem sc_stands : FnScope ["self"] ["self"] (defScope s_w_stands) := ⟨rfl, rfl, rfl, by decide +kernel, rfl, by decide +kernel, by decide +kernel⟩
theorem ok_stands (T : Txt K mg w CP CI CW) (F : Fun K "stands" "Worker.stands" s_w_stands f fd) : FnOk P w K mg base (L2.CX P w) 1 f fd ["self"] (spStands K CW) := by
  refine F.okX sc_stands (fun vs H Q E h => ?_) (fun cdv A outer s H vs Q E hr h => ?_)
  · obtain ⟨_, _, _, _, _, _, rfl, _⟩ := h
    rfl
  · obtain ⟨a, dx, x, k, lv, y, rfl, ha, hk, q⟩ := h
    refine ⟨_, (pss_one (ps_ret (pe_op op_catA (pe_tup (pa_cons (pe_fld (pv 0) rfl) pa_nil)) (pe_fld (pv 0) rfl)))), ?_⟩
    walk_at "rd"
    refine r_tfld ?_
    walk_at "rd"
    refine ⟨a, CW, dx, _, _, rfl, ha, T.w_cls, T.w_part, rfl, ?_⟩
    walk_at "rd"
    refine r_new rfl fun t ht => ?_
    have s1 := same_new (o := .tup [.ref x]) ht
    walk_at "rd"
    refine r_tfld ?_
    walk_at "rd"
    refine ⟨a, CW, dx, _, _, rfl, s1 _ _ ha, T.w_cls, T.w_kept, rfl, ?_⟩
    refine ⟨t, k, _, _, rfl, rfl, SqT.of upd_same, sqt_same hk s1, (by show 3 ≤ sizeLine; decide), (fun e => nomatch e), (fun _ e => nomatch e), fun _ _ t2 ht2 => ?_⟩
    exact q t2 _ (s1.trans (same_new ht2)) upd_same
def spFolded (CW : Addr) : Sp := fun vs H Q _ => ∃ (a dx x k : Addr), vs = [.ref a] ∧ H a = some (.ins CW dx (wf x k)) ∧ Q (.bl false) H
theorem sc_was_folded : FnScope ["self"] ["self"] (defScope s_w_was_folded) := ⟨rfl, rfl, rfl, by decide +kernel, rfl, by decide +kernel, by decide +kernel⟩
theorem ok_was_folded (T : Txt K mg w CP CI CW) (F : Fun K "was_folded" "Worker.was_folded" s_w_was_folded f fd) : FnOk P w K mg base (L2.CX P w) 1 f fd ["self"] (spFolded CW) := by
  refine F.okX sc_was_folded (fun vs H Q E h => ?_) (fun cdv A outer s H vs Q E hr h => ?_)
  · obtain ⟨_, _, _, _, rfl, _⟩ := h
    rfl
  · obtain ⟨a, dx, x, k, rfl, ha, q⟩ := h
    refine ⟨_, (pss_one (ps_ret (pe_fld (pv 0) rfl))), ?_⟩
    walk_at "rd"
    refine r_tfld ?_
    walk_at "rd"
    exact ⟨a, CW, dx, _, _, rfl, ha, T.w_cls, T.w_fold, rfl, q⟩
end
end K8
set_option linter.all false
set_option maxRecDepth 100000
set_option maxHeartbeats 4000000
namespace K8
open PySem PySem.Spec PyProof.Rows L2 Gx
local macro_rules | `(tactic| walk_at "rd1") => `(tactic| with_reducible first
  | refine r_var rfl ?_ | refine r_c ?_ | refine r_op ?_ | refine r_un ?_ | refine r_I0 ?_ | refine r_neg ?_ | refine r_test ?_ | refine r_B ?_ | refine r_bl ?_ | refine r_blx ?_
  | refine r_seq ?_ | refine r_ret ?_ | refine r_asg ?_ | refine r_name ?_ | refine r_gsub ?_ | refine r_if ?_ | refine r_next ?_ | refine r_drop ?_ | refine r_cb ?_ | refine r_nil ?_ | refine r_cons ?_
  | refine r_g ?_ | refine r_k ?_ | refine r_lst ?_ | refine r_tup ?_ | refine r_notV ?_ | refine r_ifE ?_ | refine r_and ?_ | refine r_or ?_ | refine r_not ?_ | refine r_chain ?_
  | refine r_sl ?_ | refine r_part ?_ | refine r_nop ?_ | refine r_par3 ?_ | refine r_is3 ?_ | refine r_par2 ?_ | refine r_is2 ?_ | refine r_m0 ?_ | refine r_ei ?_ | refine r_nx ?_ | refine r_rt ?_ | refine r_ct ?_ | refine r_eq rfl ?_ | refine r_ne rfl ?_ | refine iteT ?_ | refine iteF ?_ | refine iteNF ?_ | refine iteNT ?_
  | (refine r_fdivK ?hc ?_; (case hc => decide +kernel)) | (refine r_modK ?hc ?_; (case hc => decide +kernel)) | (refine r_mulL ?hc ?_; (case hc => decide +kernel)) | (refine r_mulR ?hc ?_; (case hc => decide +kernel)) | (refine r_powK ?hc ?_; (case hc => decide +kernel)) | fail "no step")
local macro_rules | `(tactic| walk_at "rd") => `(tactic| repeat' walk_at "rd1")
section
variable {P : Program} {w : World} {K : PySem.W.Frag} {mg : Str → Option Value} {base : Heap} {f : Addr} {fd : FuncData} {CP CI CW : Addr}
/-! ### _law_shape, _law_went -/
def spShape : Sp := fun vs H Q _ => ∃ (b : Addr) (n : Nat), vs = [.ref b] ∧ Bx n H b ∧ n < 90000 ∧ ∀ (x : Addr) (p : Pm) H', H x = none → p.ok → H' x = some (.tup p.tup) → Bx (n + 11) H' b → Off b H H' → Q (.ref x) H'
def Stp (v : V) : Prop := ∃ m : Int, v = .int m ∧ 1 ≤ m ∧ m ≤ 2047
theorem sc_law_shape : FnScope ["box", "steps", "k"] ["box"] (defScope s_law_shape) := ⟨rfl, rfl, rfl, by decide +kernel, rfl, by decide +kernel, by decide +kernel⟩
theorem none_off {b p : Addr} {H H' : Hp} (o : Gx.Off b H H') (n : p ≠ b) (h : H' p = none) : H p = none := by
  cases e : H p with
  | none => rfl
  | some u => rw [o p u n e] at h; cases h
theorem ok_law_shape (T : Txt K mg w CP CI CW) (F : Fun K "_law_shape" "_law_shape" s_law_shape f fd) : FnG P w K mg base (L2.CX P w) 2 f fd ["box"] spShape := by
  refine fnG F sc_law_shape (fun vs H Q E h => ?_) (fun cdv A outer s H vs Q E hG hr h => ?_)
  · obtain ⟨_, _, rfl, _⟩ := h
    rfl
  · obtain ⟨b, n, rfl, B, hn, q⟩ := h
    have nd := sc_law_shape.nd
    refine ⟨_, (pss_cons (ps_setLc (i := 1) (own := [("k", 2)]) (g := gName 2) (tt := tYes) rfl nd rfl rfl (sw_true rfl rfl rfl (by decide +kernel)) (pi_range1 rfl T.n_range (pa_cons pe_int pa_nil)) (blkOk_by (N := ["box", "steps", "k"]) (sc := defScope s_law_shape) (by decide +kernel)) (fun _ _ _ _ _ => pg_name (i := 2) nd rfl (Or.inl rfl)) (fun _ _ _ _ _ => pts_nil) (fun _ _ _ _ _ => (pe_ix (show IxR _ (rIxL K) from ix_list) (pe_lst (pa_cons pe_int (pa_cons pe_int (pa_cons (pe_op op_add pe_int (pe_g (c_law_take T) hG (hr.mono (by decide)) (fun _ => passS) (pa_cons (pv 0) (pa_cons pe_int pa_nil)))) (pa_cons (pe_op op_add pe_int (pe_g (c_law_take T) hG (hr.mono (by decide)) (fun _ => passS) (pa_cons (pv 0) (pa_cons pe_int pa_nil)))) pa_nil))))) (pe_g (c_law_take T) hG (hr.mono (by decide)) (fun _ => passS) (pa_cons (pv 0) (pa_cons pe_int pa_nil))) (fun _ _ => rfl))))
        (pss_one (ps_ret (pe_tup (pa_cons pe_str (pa_cons (pe_ix ix_list (pv 1) pe_int (fun _ _ => rfl)) (pa_cons (pe_ix ix_list (pv 1) pe_int (fun _ _ => rfl)) (pa_cons (pe_ix ix_list (pe_lst (pa_cons pe_int (pa_cons pe_int (pa_cons (pe_g (c_law_take T) hG (hr.mono (by decide)) (fun _ => passS) (pa_cons (pv 0) (pa_cons pe_int pa_nil))) pa_nil)))) (pe_g (c_law_take T) hG (hr.mono (by decide)) (fun _ => passS) (pa_cons (pv 0) (pa_cons pe_int pa_nil))) (fun _ _ => rfl)) (pa_cons (pe_ix ix_list (pv 1) pe_int (fun _ _ => rfl)) pa_nil))))))))), ?_⟩
    walk_at "rd"
    refine r_lc ?_
    refine r_rng1 ?_
    walk_at "rd"
    refine ⟨_, rfl, by decide, by decide, ?_⟩
    refine lc_rng (fun p i h => ∃ zs : List Int, zs.length = i ∧ (∀ z ∈ zs, 1 ≤ z ∧ z ≤ 2047) ∧ h p = some (.lst (zs.map V.int)) ∧ Bx (n + i * 3) h b ∧ Off b H h) (fun p hp => ?_) (fun p hp i h hi => ?_) (fun p hp H1 => ?_)
    · exact ⟨([] : List Int), rfl, fun z hz => absurd hz List.not_mem_nil, upd_same, B.new hp, Off.new hp⟩
    · rintro ⟨zs, hl, al, hz, B8, o8⟩
      have hi3 : i < 3 := hi
      have pb := B.ne hp
      walk_at "rd"
      refine ⟨rfl, r_yes (iteT ?_)⟩
      walk_at "rd"
      refine ⟨b, 2047, _, rfl, by decide, by decide, B8, by omega, fun d1 H1 a0 a1 B1 o1 => ?_⟩
      walk_at "rd"
      refine ⟨b, 300, _, rfl, by decide, by decide, B1, by omega, fun d2 H2 c0 c1 B2 o2 => ?_⟩
      walk_at "rd"
      refine r_new rfl fun t ht => ?_
      have tb := B2.ne ht
      have tp : t ≠ p := fun z => by rw [z, o2 p _ pb (o1 p _ pb hz)] at ht; cases ht
      walk_at "rd"
      refine ⟨b, 4, _, rfl, by decide, by decide, B2.new ht, by omega, fun d3 H3 e0 e1 B3 o3 => ?_⟩
      refine r_ixP (R := Stp) (o3 t _ tb upd_same) ?_ e0 e1 ?_
      · refine List.forall_mem_cons.mpr ⟨⟨1, rfl, by decide, by decide⟩, List.forall_mem_cons.mpr ⟨⟨2047, rfl, by decide, by decide⟩, List.forall_mem_cons.mpr ⟨⟨_, rfl, by omega, by omega⟩, List.forall_mem_cons.mpr ⟨⟨_, rfl, by omega, by omega⟩, fun _ h => absurd h List.not_mem_nil⟩⟩⟩⟩
      rintro v ⟨m, rfl, m0, m1⟩
      have ep := o3 p _ pb (same_new (o := .lst [.int 1, .int 2047, .int (1 + d1), .int (200 + d2)]) ht _ _ (o2 p _ pb (o1 p _ pb hz)))
      refine ⟨_, ep, by rw [List.length_map, sizeLine_eq]; omega, zs ++ [m], by rw [List.length_append, hl]; rfl, fun z hz => ?_, ?_, ?_, ?_⟩
      · rcases List.mem_append.mp hz with hz | hz
        · exact al z hz
        · obtain rfl := List.mem_singleton.mp hz
          exact ⟨m0, m1⟩
      · rw [List.map_append]
        exact upd_same
      · have := (B3.up (show n + i * 3 + 1 + 1 + 1 ≤ n + (i + 1) * 3 by omega))
        obtain ⟨x, y, z, e, r⟩ := this
        exact ⟨x, y, z, by rw [upd_ne (Ne.symm pb)]; exact e, r⟩
      · have oo := o8.trans (o1.trans (o2.trans ((Off.new (o := .lst [.int 1, .int 2047, .int (1 + d1), .int (200 + d2)]) ht).trans o3)))
        refine fun c u cb hc => ?_
        rw [upd_ne fun z => by rw [z, hp] at hc; cases hc]
        exact oo c u cb hc
    rintro ⟨zs, hl, al, hz, B8, o8⟩
    have pb := B.ne hp
    obtain ⟨z1, z2, z3, rfl⟩ : ∃ z1 z2 z3, zs = [z1, z2, z3] := by
      match zs, hl with
      | [z1, z2, z3], _ => exact ⟨z1, z2, z3, rfl⟩
    walk_at "rd"
    refine r_ixLs (j := 0) hz rfl rfl ?_
    walk_at "rd"
    refine r_ixLs (j := 1) hz rfl rfl ?_
    walk_at "rd"
    refine ⟨b, 2048, _, rfl, by decide, by decide, B8, (by show n + 3 * 3 < _; omega), fun d1 H2 a0 a1 B2 o2 => ?_⟩
    walk_at "rd"
    refine r_new rfl fun t ht => ?_
    have tb := B2.ne ht
    walk_at "rd"
    refine ⟨b, 3, _, rfl, by decide, by decide, B2.new ht, (by show n + 3 * 3 + 1 < _; omega), fun d3 H3 e0 e1 B3 o3 => ?_⟩
    refine r_ixP (R := fun v => ∃ m : Int, v = .int m ∧ 0 ≤ m ∧ m ≤ 2047) (o3 t _ tb upd_same) ?_ e0 e1 ?_
    · exact List.forall_mem_cons.mpr ⟨⟨0, rfl, by decide, by decide⟩, List.forall_mem_cons.mpr ⟨⟨2047, rfl, by decide, by decide⟩, List.forall_mem_cons.mpr ⟨⟨_, rfl, a0, by omega⟩, fun _ h => absurd h List.not_mem_nil⟩⟩⟩
    rintro v ⟨m, rfl, m0, m1⟩
    have ez := o3 p _ pb (same_new (o := .lst [.int 0, .int 2047, .int d1]) ht _ _ (o2 p _ pb hz))
    walk_at "rd"
    refine r_ixLs (j := 2) ez rfl rfl ?_
    walk_at "rd"
    refine r_new rfl fun x hx => ?_
    have oo : Gx.Off b H H3 := o8.trans (o2.trans ((Off.new ht).trans o3))
    have xb : x ≠ b := B3.ne hx
    exact q x ⟨z1, z2, m, z3⟩ _ (none_off oo xb hx) ⟨al z1 (by simp), al z2 (by simp), ⟨m0, m1⟩, al z3 (by simp)⟩ upd_same ((B3.new hx).up (show n + 3 * 3 + 1 + 1 ≤ n + 11 by omega)) (oo.trans (Off.new hx))
theorem c_law_shape (T : Txt K mg w CP CI CW) : Cal P w K mg base (L2.CX P w) 2 "_law_shape" ["box"] spShape :=
  T.d_shape.cal (fun F => ok_law_shape T F) fun _ _ _ _ _ _ us hl => match us, hl with | [_], _ => rfl
def spWent : Sp := fun vs H Q _ => ∃ (s x : Addr) (p : Pm) (lv : Int) (y : W5) (on : Bool), vs = [.ref s, .ref x, .bl on] ∧ H s = some (.tup [.str y.s, .int lv]) ∧ H x = some (.tup p.tup) ∧
  ∀ t H', Same H H' → H' t = some (.tup [.str (mv p lv (wordF y on)).2.s, .int (mv p lv (wordF y on)).1]) → Q (.ref t) H'
theorem mv_up {p : Pm} {lv : Int} : mv p lv .up = if 2047 ≤ lv + p.u then (2047, .down) else (lv + p.u, .up) := by
  by_cases c : 2047 ≤ lv + p.u
  · have e : min 2047 (lv + p.u) = 2047 := by omega
    show (min 2047 (lv + p.u), if min 2047 (lv + p.u) = 2047 then W5.down else W5.up) = _
    rw [e, if_pos c, if_pos rfl]
  · have e : min 2047 (lv + p.u) = lv + p.u := by omega
    show (min 2047 (lv + p.u), if min 2047 (lv + p.u) = 2047 then W5.down else W5.up) = _
    rw [e, if_neg c, if_neg (by omega)]
theorem mv_down {p : Pm} {lv : Int} : mv p lv .down = if lv - p.d ≤ p.s then (p.s, .stay) else (lv - p.d, .down) := by
  by_cases c : lv - p.d ≤ p.s
  · have e : max p.s (lv - p.d) = p.s := by omega
    show (max p.s (lv - p.d), if max p.s (lv - p.d) = p.s then W5.stay else W5.down) = _
    rw [e, if_pos c, if_pos rfl]
  · have e : max p.s (lv - p.d) = lv - p.d := by omega
    show (max p.s (lv - p.d), if max p.s (lv - p.d) = p.s then W5.stay else W5.down) = _
    rw [e, if_neg c, if_neg (by omega)]
theorem mv_away {p : Pm} {lv : Int} : mv p lv .away = if lv - p.a ≤ 0 then (0, .rest) else (lv - p.a, .away) := by
  by_cases c : lv - p.a ≤ 0
  · have e : max 0 (lv - p.a) = 0 := by omega
    show (max 0 (lv - p.a), if max 0 (lv - p.a) = 0 then W5.rest else W5.away) = _
    rw [e, if_pos c, if_pos rfl]
  · have e : max 0 (lv - p.a) = lv - p.a := by omega
    show (max 0 (lv - p.a), if max 0 (lv - p.a) = 0 then W5.rest else W5.away) = _
    rw [e, if_neg c, if_neg (by omega)]
theorem r_word {σ : L2.St} {H : Hp} {Q : VK} {i : Nat} {y : W5} (hv : σ[i]? = some (some (.str y.s))) (q : ∀ t, H t = none → Q (.str (wordF y true).s) (upd H t (.tup [.str "rest", .str "away"]))) :
    tIf (tTest (tOp (rIn K false) (tVar i) (tTup (tCons (tC (.str "rest")) (tCons (tC (.str "away")) tNil))))) (tC (.str "up")) (tVar i) σ H Q := by
  refine r_ifE ?_
  refine r_test ?_
  refine r_op ?_
  refine r_var hv ?_
  walk_at "rd"
  refine r_new rfl fun t ht => ?_
  have q := q t ht
  refine ⟨t, _, rfl, .inr (SqT.of upd_same), by cases y <;> rfl, rfl, ?_⟩
  walk_at "rd"
  cases y with
  | rest =>
    refine iteTb (by decide +kernel) ?_
    walk_at "rd"
    exact q
  | up =>
    refine iteFb (by decide +kernel) ?_
    exact r_var hv q
  | down =>
    refine iteFb (by decide +kernel) ?_
    exact r_var hv q
  | stay =>
    refine iteFb (by decide +kernel) ?_
    exact r_var hv q
  | away =>
    refine iteTb (by decide +kernel) ?_
    walk_at "rd"
    exact q
theorem r_word2 {σ : L2.St} {H : Hp} {Q : VK} {i : Nat} {y : W5} (hv : σ[i]? = some (some (.str y.s))) (q : ∀ t, H t = none → Q (.str (wordF y false).s) (upd H t (.tup [.str "up", .str "down", .str "stay"]))) :
    tIf (tTest (tOp (rIn K false) (tVar i) (tTup (tCons (tC (.str "up")) (tCons (tC (.str "down")) (tCons (tC (.str "stay")) tNil)))))) (tC (.str "away")) (tVar i) σ H Q := by
  refine r_ifE ?_
  refine r_test ?_
  refine r_op ?_
  refine r_var hv ?_
  walk_at "rd"
  refine r_new rfl fun t ht => ?_
  have q := q t ht
  refine ⟨t, _, rfl, .inr (SqT.of upd_same), by cases y <;> rfl, rfl, ?_⟩
  walk_at "rd"
  cases y with
  | rest =>
    refine iteFb (by decide +kernel) ?_
    exact r_var hv q
  | up =>
    refine iteTb (by decide +kernel) ?_
    walk_at "rd"
    exact q
  | down =>
    refine iteTb (by decide +kernel) ?_
    walk_at "rd"
    exact q
  | stay =>
    refine iteTb (by decide +kernel) ?_
    walk_at "rd"
    exact q
  | away =>
    refine iteFb (by decide +kernel) ?_
    exact r_var hv q
theorem sc_law_went : FnScope ["state", "part", "on", "word", "level", "kind", "up", "down", "stay", "away"] ["state", "part", "on"] (defScope s_law_went) := ⟨rfl, rfl, rfl, by decide +kernel, rfl, by decide +kernel, by decide +kernel⟩
theorem ok_law_went (T : Txt K mg w CP CI CW) (F : Fun K "_law_went" "_law_went" s_law_went f fd) : FnG P w K mg base (L2.CX P w) 1 f fd ["state", "part", "on"] spWent := by
  refine fnG F sc_law_went (fun vs H Q E h => ?_) (fun cdv A outer s H vs Q E hG hr h => ?_)
  · obtain ⟨_, _, _, _, _, _, rfl, _⟩ := h
    rfl
  · obtain ⟨s, x, p, lv, y, on, rfl, hs, hx, q⟩ := h
    have nd := sc_law_went.nd
    refine ⟨_, (pss_cons (ps_asg (pv 0) (pg_tup rfl (pgs_cons (pg_name (i := 3) nd rfl (Or.inl rfl)) (pgs_cons (pg_name (i := 4) nd rfl (Or.inl rfl)) pgs_nil))))
        (pss_cons (ps_asg (pv 1) (pg_tup rfl (pgs_cons (pg_name (i := 5) nd rfl (Or.inl rfl)) (pgs_cons (pg_name (i := 6) nd rfl (Or.inl rfl)) (pgs_cons (pg_name (i := 7) nd rfl (Or.inl rfl)) (pgs_cons (pg_name (i := 8) nd rfl (Or.inl rfl)) (pgs_cons (pg_name (i := 9) nd rfl (Or.inl rfl)) pgs_nil)))))))
        (pss_cons (ps_if (pt_val (pv 2)) (pss_one (ps_set (i := 3) nd rfl (Or.inl rfl) (pe_ifExp (pt_cmpR op_in_seq (pv 3) (pe_tup (pa_cons pe_str (pa_cons pe_str pa_nil))) (by rfl)) pe_str (pv 3)))) (pss_one (ps_set (i := 3) nd rfl (Or.inl rfl) (pe_ifExp (pt_cmpR op_in_seq (pv 3) (pe_tup (pa_cons pe_str (pa_cons pe_str (pa_cons pe_str pa_nil)))) (by rfl)) pe_str (pv 3)))))
        (pss_cons (ps_if (pt_cmpR op_eq (pv 3) pe_str (nomark _)) (pss_one (ps_ret (pe_tup (pa_cons pe_str (pa_cons pe_int pa_nil))))) pss_nil)
        (pss_cons (ps_if (pt_cmpR op_eq (pv 3) pe_str (nomark _)) (pss_one (ps_ret (pe_tup (pa_cons pe_str (pa_cons (pv 8) pa_nil))))) pss_nil)
        (pss_cons (ps_if (pt_cmpR op_eq (pv 3) pe_str (nomark _)) (pss_cons (ps_set (i := 4) nd rfl (Or.inl rfl) (pe_op op_add (pv 4) (pv 6)))
        (pss_one (ps_ret (pe_ifExp (pt_cmpR op_ge (pv 4) pe_int (nomark _)) (pe_tup (pa_cons pe_str (pa_cons pe_int pa_nil))) (pe_tup (pa_cons pe_str (pa_cons (pv 4) pa_nil))))))) pss_nil)
        (pss_cons (ps_if (pt_cmpR op_eq (pv 3) pe_str (nomark _)) (pss_cons (ps_set (i := 4) nd rfl (Or.inl rfl) (pe_op op_sub (pv 4) (pv 7)))
        (pss_one (ps_ret (pe_ifExp (pt_cmpR op_le (pv 4) (pv 8) (nomark _)) (pe_tup (pa_cons pe_str (pa_cons (pv 8) pa_nil))) (pe_tup (pa_cons pe_str (pa_cons (pv 4) pa_nil))))))) pss_nil)
        (pss_cons (ps_set (i := 4) nd rfl (Or.inl rfl) (pe_op op_sub (pv 4) (pv 9)))
        (pss_one (ps_ret (pe_ifExp (pt_cmpR op_le (pv 4) pe_int (nomark _)) (pe_tup (pa_cons pe_str (pa_cons pe_int pa_nil))) (pe_tup (pa_cons pe_str (pa_cons (pv 4) pa_nil)))))))))))))), ?_⟩
    walk_at "rd"
    refine ⟨s, _, rfl, SqT.of hs, rfl, ?_⟩
    refine r_gc ?_
    walk_at "rd"
    refine r_gc ?_
    walk_at "rd"
    refine r_gn ?_
    walk_at "rd"
    refine ⟨x, _, rfl, SqT.of hx, rfl, ?_⟩
    refine r_gc ?_
    walk_at "rd"
    refine r_gc ?_
    walk_at "rd"
    refine r_gc ?_
    walk_at "rd"
    refine r_gc ?_
    walk_at "rd"
    refine r_gc ?_
    walk_at "rd"
    refine r_gn ?_
    walk_at "rd"
    cases on with
    | true =>
      refine iteT ?_
      refine r_asg ?_
      refine r_word (y := y) (by rfl) fun t0 ht0 => ?_
      have q2 := fun t H' s => q t H' ((same_new (o := .tup [.str "rest", .str "away"]) ht0).trans s)
      generalize upd H t0 (.tup [.str "rest", .str "away"]) = H1 at q2 ⊢
      generalize wordF y true = y2 at q2 ⊢
      walk_at "rd"
      cases y2 with
      | rest =>
        refine iteTb (by decide +kernel) ?_
        walk_at "rd"
        exact r_new rfl fun t ht => q2 t _ (same_new ht) upd_same
      | stay =>
        refine iteFb (by decide +kernel) ?_
        walk_at "rd"
        refine iteTb (by decide +kernel) ?_
        walk_at "rd"
        exact r_new rfl fun t ht => q2 t _ (same_new ht) upd_same
      | up =>
        refine iteFb (by decide +kernel) ?_
        walk_at "rd"
        refine iteFb (by decide +kernel) ?_
        walk_at "rd"
        refine iteTb (by decide +kernel) ?_
        walk_at "rd"
        rw [mv_up] at q2
        refine ite2 (fun c => ?_) (fun c => ?_)
        · have c : 2047 ≤ lv + p.u := of_decide_eq_true c
          rw [if_pos c] at q2
          walk_at "rd"
          exact r_new rfl fun t ht => q2 t _ (same_new ht) upd_same
        · have c : ¬ 2047 ≤ lv + p.u := fun z => c (decide_eq_true z)
          rw [if_neg c] at q2
          walk_at "rd"
          exact r_new rfl fun t ht => q2 t _ (same_new ht) upd_same
      | down =>
        refine iteFb (by decide +kernel) ?_
        walk_at "rd"
        refine iteFb (by decide +kernel) ?_
        walk_at "rd"
        refine iteFb (by decide +kernel) ?_
        walk_at "rd"
        refine iteTb (by decide +kernel) ?_
        walk_at "rd"
        rw [mv_down] at q2
        refine ite2 (fun c => ?_) (fun c => ?_)
        · have c : lv - p.d ≤ p.s := of_decide_eq_true c
          rw [if_pos c] at q2
          walk_at "rd"
          exact r_new rfl fun t ht => q2 t _ (same_new ht) upd_same
        · have c : ¬ lv - p.d ≤ p.s := fun z => c (decide_eq_true z)
          rw [if_neg c] at q2
          walk_at "rd"
          exact r_new rfl fun t ht => q2 t _ (same_new ht) upd_same
      | away =>
        refine iteFb (by decide +kernel) ?_
        walk_at "rd"
        refine iteFb (by decide +kernel) ?_
        walk_at "rd"
        refine iteFb (by decide +kernel) ?_
        walk_at "rd"
        refine iteFb (by decide +kernel) ?_
        walk_at "rd"
        rw [mv_away] at q2
        refine ite2 (fun c => ?_) (fun c => ?_)
        · have c : lv - p.a ≤ 0 := of_decide_eq_true c
          rw [if_pos c] at q2
          walk_at "rd"
          exact r_new rfl fun t ht => q2 t _ (same_new ht) upd_same
        · have c : ¬ lv - p.a ≤ 0 := fun z => c (decide_eq_true z)
          rw [if_neg c] at q2
          walk_at "rd"
          exact r_new rfl fun t ht => q2 t _ (same_new ht) upd_same
    | false =>
      refine iteF ?_
      refine r_asg ?_
      refine r_word2 (y := y) (by rfl) fun t0 ht0 => ?_
      have q2 := fun t H' s => q t H' ((same_new (o := .tup [.str "up", .str "down", .str "stay"]) ht0).trans s)
      generalize upd H t0 (.tup [.str "up", .str "down", .str "stay"]) = H1 at q2 ⊢
      generalize wordF y false = y2 at q2 ⊢
      walk_at "rd"
      cases y2 with
      | rest =>
        refine iteTb (by decide +kernel) ?_
        walk_at "rd"
        exact r_new rfl fun t ht => q2 t _ (same_new ht) upd_same
      | stay =>
        refine iteFb (by decide +kernel) ?_
        walk_at "rd"
        refine iteTb (by decide +kernel) ?_
        walk_at "rd"
        exact r_new rfl fun t ht => q2 t _ (same_new ht) upd_same
      | up =>
        refine iteFb (by decide +kernel) ?_
        walk_at "rd"
        refine iteFb (by decide +kernel) ?_
        walk_at "rd"
        refine iteTb (by decide +kernel) ?_
        walk_at "rd"
        rw [mv_up] at q2
        refine ite2 (fun c => ?_) (fun c => ?_)
        · have c : 2047 ≤ lv + p.u := of_decide_eq_true c
          rw [if_pos c] at q2
          walk_at "rd"
          exact r_new rfl fun t ht => q2 t _ (same_new ht) upd_same
        · have c : ¬ 2047 ≤ lv + p.u := fun z => c (decide_eq_true z)
          rw [if_neg c] at q2
          walk_at "rd"
          exact r_new rfl fun t ht => q2 t _ (same_new ht) upd_same
      | down =>
        refine iteFb (by decide +kernel) ?_
        walk_at "rd"
        refine iteFb (by decide +kernel) ?_
        walk_at "rd"
        refine iteFb (by decide +kernel) ?_
        walk_at "rd"
        refine iteTb (by decide +kernel) ?_
        walk_at "rd"
        rw [mv_down] at q2
        refine ite2 (fun c => ?_) (fun c => ?_)
        · have c : lv - p.d ≤ p.s := of_decide_eq_true c
          rw [if_pos c] at q2
          walk_at "rd"
          exact r_new rfl fun t ht => q2 t _ (same_new ht) upd_same
        · have c : ¬ lv - p.d ≤ p.s := fun z => c (decide_eq_true z)
          rw [if_neg c] at q2
          walk_at "rd"
          exact r_new rfl fun t ht => q2 t _ (same_new ht) upd_same
      | away =>
        refine iteFb (by decide +kernel) ?_
        walk_at "rd"
        refine iteFb (by decide +kernel) ?_
        walk_at "rd"
        refine iteFb (by decide +kernel) ?_
        walk_at "rd"
        refine iteFb (by decide +kernel) ?_
        walk_at "rd"
        rw [mv_away] at q2
        refine ite2 (fun c => ?_) (fun c => ?_)
        · have c : lv - p.a ≤ 0 := of_decide_eq_true c
          rw [if_pos c] at q2
          walk_at "rd"
          exact r_new rfl fun t ht => q2 t _ (same_new ht) upd_same
        · have c : ¬ lv - p.a ≤ 0 := fun z => c (decide_eq_true z)
          rw [if_neg c] at q2
          walk_at "rd"
          exact r_new rfl fun t ht => q2 t _ (same_new ht) upd_same
theorem c_law_went (T : Txt K mg w CP CI CW) : Cal P w K mg base (L2.CX P w) 1 "_law_went" ["state", "part", "on"] spWent :=
  T.d_went.cal (fun F => ok_law_went T F) fun _ _ _ _ _ _ us hl => match us, hl with | [_, _, _], _ => rfl
end
end K8
set_option linter.all false
set_option maxRecDepth 100000
set_option maxHeartbeats 4000000
namespace K8
open PySem PySem.Spec PyProof.Rows L2 Gx
local macro_rules | `(tactic| walk_at "rd1") => `(tactic| with_reducible first
  | refine r_var rfl ?_ | refine r_c ?_ | refine r_op ?_ | refine r_un ?_ | refine r_I0 ?_ | refine r_neg ?_ | refine r_test ?_ | refine r_B ?_ | refine r_bl ?_ | refine r_blx ?_
  | refine r_seq ?_ | refine r_ret ?_ | refine r_asg ?_ | refine r_name ?_ | refine r_gsub ?_ | refine r_if ?_ | refine r_next ?_ | refine r_drop ?_ | refine r_cb ?_ | refine r_nil ?_ | refine r_cons ?_
  | refine r_g ?_ | refine r_k ?_ | refine r_lst ?_ | refine r_tup ?_ | refine r_notV ?_ | refine r_ifE ?_ | refine r_and ?_ | refine r_or ?_ | refine r_not ?_ | refine r_chain ?_
  | refine r_sl ?_ | refine r_part ?_ | refine r_nop ?_ | refine r_par3 ?_ | refine r_is3 ?_ | refine r_par2 ?_ | refine r_is2 ?_ | refine r_m0 ?_ | refine r_ei ?_ | refine r_nx ?_ | refine r_rt ?_ | refine r_ct ?_ | refine r_eq rfl ?_ | refine r_ne rfl ?_ | refine iteT ?_ | refine iteF ?_ | refine iteNF ?_ | refine iteNT ?_
  | (refine r_fdivK ?hc ?_; (case hc => decide +kernel)) | (refine r_modK ?hc ?_; (case hc => decide +kernel)) | (refine r_mulL ?hc ?_; (case hc => decide +kernel)) | (refine r_mulR ?hc ?_; (case hc => decide +kernel)) | (refine r_powK ?hc ?_; (case hc => decide +kernel)) | fail "no step")
local macro_rules | `(tactic| walk_at "rd") => `(tactic| repeat' walk_at "rd1")
section
variable {P : Program} {w : World} {K : PySem.W.Frag} {mg : Str → Option Value} {base : Heap} {f : Addr} {fd : FuncData} {CP CI CW : Addr}
/-! ### the law -/
def spLaw (K : PySem.W.Frag) : Sp := fun vs H Q _ => ∃ (a : Addr) (ns : List Int), vs = [.ref a] ∧ SqL K H a (ns.map V.int) ∧ ns.length ≤ 1000 ∧ ∀ H', Q (.bl true) H'
def stD (p : Pm) (lv : Int) (y : W5) : PyData := .tuple [.tuple [.str "shape", .int p.u, .int p.d, .int p.s, .int p.a], .int lv, .str y.s]
theorem stD_shaped (p : Pm) (lv : Int) (y : W5) : SeqAt.shaped (stD p lv y) = true := by
  unfold SeqAt.shaped
  rw [Bool.and_eq_true]
  constructor
  · simp only [stD, PyData.canLay0, PyData.canLayAll0, Bool.and_true, Bool.true_and, Bool.and_eq_true]
    exact ⟨by decide +kernel, by cases y <;> decide +kernel⟩
  · simp [stD, PyData.depth, PyData.depthAll]
theorem stD_eq (p : Pm) (lv : Int) (y : W5) : PyData.eqv (stD p lv y) (stD p lv y) = true := SeqAt.eqv_refl _ (SeqAt.canLay_of_shaped (stD_shaped p lv y))
theorem stD_at {H : Hp} {t x : Addr} {p : Pm} {lv : Int} {y : W5} (hx : H x = some (.tup p.tup)) (ht : H t = some (.tup [.ref x, .int lv, .str y.s])) : Dp K H (.ref t) (stD p lv y) :=
  .tup (SqT.of ht) (.cons (.tup (SqT.of hx) (.cons (.str _) (.cons (.int _) (.cons (.int _) (.cons (.int _) (.cons (.int _) .nil)))))) (.cons (.int _) (.cons (.str _) .nil)))
theorem mv_small {p : Pm} {lv : Int} {y : W5} (ok : p.ok) (h0 : 0 ≤ lv) (h1 : lv ≤ 2047) : 0 ≤ (mv p lv y).1 ∧ (mv p lv y).1 ≤ 2047 := by
  obtain ⟨u, d, s, a⟩ := ok
  cases y <;> (simp only [mv]; constructor <;> omega)
structure St (K : PySem.W.Frag) (CW : Addr) (H2 : Hp) (b a dx : Addr) (n : Nat) (x s k : Addr) (p : Pm) (lv : Int) (y : W5) (H : Hp) : Prop where
  ok : p.ok
  ha : H a = some (.ins CW dx (wf x k))
  hx : H x = some (.tup p.tup)
  hk : SqT K H k [.int lv, .str y.s]
  hs : H s = some (.tup [.str y.s, .int lv])
  l0 : 0 ≤ lv
  l1 : lv ≤ 2047
  bx : Bx n H b
  sm : Same H2 H
section
variable {H2 H H' : Hp} {b a dx x s k : Addr} {n m : Nat} {p : Pm} {lv : Int} {y : W5}
theorem St.same (h : St K CW H2 b a dx n x s k p lv y H) (e : Same H H') (l : n ≤ m) : St K CW H2 b a dx m x s k p lv y H' :=
  ⟨h.ok, e _ _ h.ha, e _ _ h.hx, sqt_same h.hk e, e _ _ h.hs, h.l0, h.l1, (h.bx.same e).up l, h.sm.trans e⟩
theorem St.off (h : St K CW H2 b a dx n x s k p lv y H) (nb : H2 b = none) (o : Gx.Off b H H') (B : Bx m H' b) : St K CW H2 b a dx m x s k p lv y H' := by
  obtain ⟨z1, z2, z3, eb, _⟩ := h.bx
  have ne : ∀ {c u}, H c = some (.tup u) → c ≠ b := fun e z => by rw [z, eb] at e; cases e
  have na : a ≠ b := fun z => by have := h.ha; rw [z, eb] at this; cases this
  refine ⟨h.ok, o _ _ na h.ha, o _ _ (ne h.hx) h.hx, ?_, o _ _ (ne h.hs) h.hs, h.l0, h.l1, B, fun c u hc => o c u (fun z => by rw [z, nb] at hc; cases hc) (h.sm c u hc)⟩
  rcases h.hk with (e | ⟨v, e⟩) | e
  · exact .inl (.inl (o _ _ (ne e) e))
  · exact .inl (.inr ⟨v, o _ _ (fun z => by rw [z, eb] at e; cases e) e⟩)
  · exact .inr e
theorem St.give (h : St K CW H2 b a dx n x s k p lv y H) {x' : Addr} {p' : Pm} (hx' : H x' = some (.tup p'.tup)) (ok' : p'.ok) (na : H2 a = none) (e : H' a = some (.ins CW dx (wf x' k))) (v : Sv a H H') : St K CW H2 b a dx n x' s k p' lv y H' := by
  have ne : ∀ {c u}, H c = some (.tup u) → c ≠ a := fun e z => by rw [z, h.ha] at e; cases e
  obtain ⟨z1, z2, z3, eb, r⟩ := h.bx
  have nb : b ≠ a := fun z => by rw [z, h.ha] at eb; cases eb
  refine ⟨ok', e, v _ _ (ne hx') hx', ?_, v _ _ (ne h.hs) h.hs, h.l0, h.l1, ⟨z1, z2, z3, v _ _ nb eb, r⟩, fun c u hc => v c u (fun z => by rw [z, na] at hc; cases hc) (h.sm c u hc)⟩
  rcases h.hk with (e | ⟨o, e⟩) | e
  · exact .inl (.inl (v _ _ (ne e) e))
  · exact .inl (.inr ⟨o, v _ _ (fun z => by rw [z, h.ha] at e; cases e) e⟩)
  · exact .inr e
theorem St.moved (h : St K CW H2 b a dx n x s k p lv y H) {t k2 : Addr} {lv' : Int} {y' : W5} (na : H2 a = none) (ht : H t = some (.tup [.str y'.s, .int lv'])) (e : H' a = some (.ins CW dx (wf x k2))) (k' : SqT K H' k2 [.int lv', .str y'.s]) (v : Sv a H H') (l0 : 0 ≤ lv') (l1 : lv' ≤ 2047) :
    St K CW H2 b a dx n x t k2 p lv' y' H' := by
  have ne : ∀ {c u}, H c = some (.tup u) → c ≠ a := fun e z => by rw [z, h.ha] at e; cases e
  obtain ⟨z1, z2, z3, eb, r⟩ := h.bx
  have nb : b ≠ a := fun z => by rw [z, h.ha] at eb; cases eb
  exact ⟨h.ok, e, v _ _ (ne h.hx) h.hx, k', v _ _ (ne ht) ht, l0, l1, ⟨z1, z2, z3, v _ _ nb eb, r⟩, fun c u hc => v c u (fun z => by rw [z, na] at hc; cases hc) (h.sm c u hc)⟩
end
theorem r_dispV {σ : L2.St} {H : Hp} {Q : VK} {z : Str} {i : Nat} {v : V} (hv : σ[i]? = some (some v)) (q : ∀ p, H p = none → Q (.ref p) (upd H p (.dK [(.inr z, v)]))) : tDisp [(tC (.str z), tVar i)] σ H Q := fun p hp => by
  refine ⟨v, hv, upd_same, [(.inr z, v)], rfl, Nat.le_of_ble_eq_true rfl, ?_⟩
  rw [upd_upd]
  exact q p hp
theorem r_meth {σ : L2.St} {H : Hp} {Q : VK} {C : Addr} {m : Str} {sp : Sp} {E : XK} {ta : TE} {t : TA} (h : ta σ H fun x H1 => ∃ a dx fs, x = .ref a ∧ H1 a = some (.ins C dx fs) ∧ fs.lookup m = none ∧ t σ H1 fun vs H2 => sp (x :: (vs ++ [])) H2 Q E) : tMeth C m sp [] E ta t σ H Q := h
theorem r_make {σ : L2.St} {H : Hp} {Q : VK} {C : Addr} {sp : Sp} {E : XK} {t : TA} (h : t σ H fun vs H1 => ∀ x dx, H1 x = none → H1 dx = none → dx ≠ x → sp (.ref x :: (vs ++ [])) (upd (upd H1 dx (.own x)) x (.ins C dx [])) (fun v H2 => v = .non ∧ Q (.ref x) H2) E) : tMake C sp [] E t σ H Q := h
theorem sc_law : FnScope ["script", "k", "box", "part", "worker", "state", "stretch", "on", "turn", "gate"] ["script"] (defScope s_law) := ⟨rfl, rfl, rfl, by decide +kernel, rfl, by decide +kernel, by decide +kernel⟩
theorem ok_law (T : Txt K mg w CP CI CW) (F : Fun K "law" "law" s_law f fd) : FnG P w K mg base (L2.CX P w) 7 f fd ["script"] (spLaw K) := by
  obtain ⟨fIn, dIn, mkW, FIn⟩ := T.w_init
  obtain ⟨fSt, dSt, mSt, FSt⟩ := T.w_m_stands
  obtain ⟨fSa, dSa, mSa, FSa⟩ := T.w_m_sample
  obtain ⟨fGi, dGi, mGi, FGi⟩ := T.w_m_give
  obtain ⟨fWf, dWf, mWf, FWf⟩ := T.w_m_was_folded
  have bIn : Binds K dIn ["self", "part"] [] := FIn.binds fun _ _ _ _ _ _ us hl => match us, hl with | [_, _], _ => rfl
  have bSt : Binds K dSt ["self"] [] := FSt.binds fun _ _ _ _ _ _ us hl => match us, hl with | [_], _ => rfl
  have bSa : Binds K dSa ["self", "ins"] [] := FSa.binds fun _ _ _ _ _ _ us hl => match us, hl with | [_, _], _ => rfl
  have bGi : Binds K dGi ["self", "part"] [] := FGi.binds fun _ _ _ _ _ _ us hl => match us, hl with | [_, _], _ => rfl
  have bWf : Binds K dWf ["self"] [] := FWf.binds fun _ _ _ _ _ _ us hl => match us, hl with | [_], _ => rfl
  refine fnG F sc_law (fun vs H Q E h => ?_) (fun cdv A outer s H vs Q E hG hr h => ?_)
  · obtain ⟨_, _, rfl, _⟩ := h
    rfl
  · obtain ⟨sc, ns, rfl, hS, hn, q⟩ := h
    have nd := sc_law.nd
    refine ⟨_, (pss_cons (ps_for (passes_of rfl) rfl (pi_range1 rfl T.n_range (pa_cons (pe_callB (call_max2 rfl) (by rfl) T.n_max (by decide +kernel) (pa_cons pe_int (pa_cons (pe_callB (call_min2 rfl) (by rfl) T.n_min (by decide +kernel) (pa_cons pe_int (pa_cons (pe_callB call_len_seq (by rfl) T.n_len PySem.boot_len (pa_cons (pv 0) pa_nil)) pa_nil))) pa_nil))) pa_nil)) (pg_name (i := 1) nd rfl (Or.inl rfl)) (pss_cons (ps_set (i := 2) nd rfl (Or.inl rfl) (pe_g (c_law_box T) hG (hr.mono (by decide)) (fun _ => passS) (pa_cons (pe_g (c_law_cell T) hG (hr.mono (by decide)) (fun _ => passS) (pa_cons (pv 0) (pa_cons (pv 1) pa_nil))) pa_nil)))
        (pss_cons (ps_set (i := 3) nd rfl (Or.inl rfl) (pe_g (c_law_shape T) hG (hr.mono (by decide)) (fun _ => passS) (pa_cons (pv 2) pa_nil)))
        (pss_cons (ps_par (i := 4) (j := 5) rfl nd rfl rfl (by decide) rfl rfl (pa_cons (pe_make mkW (ok_w_init T FIn) (hr.mono (by decide)) rfl T.w_gl bIn .nil passL (pa_cons (pv 3) pa_nil)) (pa_cons (pe_tup (pa_cons pe_str (pa_cons pe_int pa_nil))) pa_nil)) rfl)
        (pss_one (ps_for (passes_of rfl) rfl (pi_range1 rfl T.n_range (pa_cons (pe_op op_add pe_int (pe_g (c_law_take T) hG (hr.mono (by decide)) (fun _ => passS) (pa_cons (pv 2) (pa_cons pe_int pa_nil)))) pa_nil)) (pg_name (i := 6) nd rfl (Or.inl rfl)) (pss_cons (ps_set (i := 7) nd rfl (Or.inl rfl) (pe_cmpR op_gt (pe_g (c_law_take T) hG (hr.mono (by decide)) (fun _ => passS) (pa_cons (pv 2) (pa_cons pe_int pa_nil))) pe_int (nomark _)))
        (pss_cons (ps_if (pt_cmpR op_eq (pe_g (c_law_take T) hG (hr.mono (by decide)) (fun _ => passS) (pa_cons (pv 2) (pa_cons pe_int pa_nil))) pe_int (nomark _)) (pss_cons (ps_set (i := 3) nd rfl (Or.inl rfl) (pe_g (c_law_shape T) hG (hr.mono (by decide)) (fun _ => passS) (pa_cons (pv 2) pa_nil)))
        (pss_cons (ps_expr (pe_meth (pv 4) T.w_cls mGi (ok_give T FGi) (hr.mono (by decide)) bGi .nil passL (pa_cons (pv 3) pa_nil) rfl rfl rfl))
        (pss_one (ps_if (pt_cmpR (op_neD hr.units) (pe_meth0 (pv 4) T.w_cls mSt (ok_stands T FSt) (hr.mono (by decide)) bSt .nil passL rfl) (pe_tup (pa_cons (pv 3) (pa_cons (pe_ix ix_tup (pv 5) pe_int (fun _ _ => rfl)) (pa_cons (pe_ix ix_tup (pv 5) pe_int (fun _ _ => rfl)) pa_nil)))) (nomark _)) (pss_one (ps_ret pe_bl)) pss_nil)))) pss_nil)
        (pss_one (ps_for (passes_of rfl) rfl (pi_range1 rfl T.n_range (pa_cons (pe_ix ix_list (pe_lst (pa_cons pe_int (pa_cons (pe_op op_add pe_int (pe_g (c_law_take T) hG (hr.mono (by decide)) (fun _ => passS) (pa_cons (pv 2) (pa_cons pe_int pa_nil)))) pa_nil))) (pe_g (c_law_take T) hG (hr.mono (by decide)) (fun _ => passS) (pa_cons (pv 2) (pa_cons pe_int pa_nil))) (fun _ _ => rfl)) pa_nil)) (pg_name (i := 8) nd rfl (Or.inl rfl)) (pss_cons (ps_set (i := 9) nd rfl (Or.inl rfl) (pe_ix ix_list (pe_lst (pa_cons pe_int (pa_cons (pe_un un_neg pe_int) (pa_cons (pe_un un_neg pe_int) pa_nil)))) (pe_g (c_law_take T) hG (hr.mono (by decide)) (fun _ => passS) (pa_cons (pv 2) (pa_cons pe_int pa_nil))) (fun _ _ => rfl)))
        (pss_cons (ps_if (pt_val (pv 7)) (pss_one (ps_set (i := 9) nd rfl (Or.inl rfl) (pe_ix ix_list (pe_lst (pa_cons pe_int (pa_cons pe_int pa_nil))) (pe_g (c_law_take T) hG (hr.mono (by decide)) (fun _ => passS) (pa_cons (pv 2) (pa_cons pe_int pa_nil))) (fun _ _ => rfl)))) pss_nil)
        (pss_cons (ps_set (i := 5) nd rfl (Or.inl rfl) (pe_g (c_law_went T) hG (hr.mono (by decide)) (fun _ => passS) (pa_cons (pv 5) (pa_cons (pv 3) (pa_cons (pv 7) pa_nil)))))
        (pss_cons (ps_if (pt_cmpR op_ne (pe_callB (call_showE hG hr.units) (by rfl) T.n_repr (by decide +kernel) (pa_cons (pe_meth (pv 4) T.w_cls mSa (ok_sample T FSa) (hr.mono (by decide)) bSa .nil passL (pa_cons (pe_disp (pps_cons pe_str (pv 9) pps_nil) (by rfl) (by rfl) (by simp) (by decide)) pa_nil) rfl rfl rfl) pa_nil)) (pe_callB (call_showE hG hr.units) (by rfl) T.n_repr (by decide +kernel) (pa_cons (pe_ix ix_tup (pv 5) pe_int (fun _ _ => rfl)) pa_nil)) (nomark _)) (pss_one (ps_ret pe_bl)) pss_nil)
        (pss_one (ps_if (PW.pt (pw_or (pt_cmpR (op_neD hr.units) (pe_meth0 (pv 4) T.w_cls mSt (ok_stands T FSt) (hr.mono (by decide)) bSt .nil passL rfl) (pe_tup (pa_cons (pv 3) (pa_cons (pe_ix ix_tup (pv 5) pe_int (fun _ _ => rfl)) (pa_cons (pe_ix ix_tup (pv 5) pe_int (fun _ _ => rfl)) pa_nil)))) (nomark _)) (pw_or1 (pt_val (pe_meth0 (pv 4) T.w_cls mWf (ok_was_folded T FWf) (hr.mono (by decide)) bWf .nil passL rfl))))) (pss_one (ps_ret pe_bl)) pss_nil))))))))))))))))
        (pss_one (ps_ret pe_bl))), ?_⟩
    walk_at "rd"
    refine r_for ?_
    refine r_rng1 ?_
    walk_at "rd"
    refine ⟨sc, _, rfl, .inl hS, ?_⟩
    walk_at "rd"
    refine ⟨_, _, rfl, ?_⟩
    walk_at "rd"
    refine ⟨_, _, rfl, ?_⟩
    walk_at "rd"
    refine ⟨_, rfl, by split <;> split <;> omega, by split <;> split <;> omega, ?_⟩
    refine lp_range (fun _ s h => (∃ x1 x2 x3 x4 x5 x6 x7 x8 x9, s = [some (.ref sc), x1, x2, x3, x4, x5, x6, x7, x8, x9]) ∧ Same H h) ⟨⟨_, _, _, _, _, _, _, _, _, rfl⟩, fun _ _ h => h⟩ (fun i s H2 hi => ?_) ?_
    · rintro ⟨⟨x1, x2, x3, x4, x5, x6, x7, x8, x9, rfl⟩, s2⟩
      rw [Int.zero_add]
      walk_at "rd"
      refine ⟨sc, ns, i, rfl, sql_same hS s2, fun cell => ?_⟩
      walk_at "rd"
      refine ⟨cell, rfl, fun b H3 hb B s3 => ?_⟩
      walk_at "rd"
      refine ⟨b, _, rfl, B, by decide, fun x p H4 hx0 ok hx B4 o4 => ?_⟩
      have s4 : Same H2 H4 := fun c u hc => o4 c u (fun z => by rw [z, hb] at hc; cases hc) (s3 c u hc)
      walk_at "rd"
      refine r_make ?_
      walk_at "rd"
      intro a dx ha hdx nda
      have xa : x ≠ a := fun z => by rw [z, ha] at hx; cases hx
      have xd : x ≠ dx := fun z => by rw [z, hdx] at hx; cases hx
      refine ⟨a, dx, x, p, rfl, upd_same, by rw [upd_ne xa, upd_ne xd]; exact hx, ok, fun k H5 e5 k5 v5 => ⟨rfl, ?_⟩⟩
      have s5 : Same H4 H5 := fun c u hc => by
        have ca : c ≠ a := fun z => by rw [z, ha] at hc; cases hc
        have cd : c ≠ dx := fun z => by rw [z, hdx] at hc; cases hc
        exact v5 c u ca (by rw [upd_ne ca, upd_ne cd]; exact hc)
      walk_at "rd"
      refine r_new rfl fun st0 hst0 => ?_
      have S0 : St K CW H2 b a dx 11 x st0 k p 0 .rest (upd H5 st0 (.tup [.str "rest", .int 0])) :=
        ⟨ok, same_new hst0 _ _ e5, same_new hst0 _ _ (s5 _ _ hx), sqt_same k5 (same_new hst0), upd_same, by decide, by decide, (B4.same s5).same (same_new hst0), (s4.trans s5).trans (same_new hst0)⟩
      have ha0 : H2 a = none := none_of s4 ha
      generalize upd H5 st0 (.tup [.str "rest", .int 0]) = H6 at S0 ⊢
      walk_at "rd"
      refine r_for ?_
      refine r_rng1 ?_
      walk_at "rd"
      refine ⟨b, 6, _, rfl, by decide, by decide, S0.bx, by decide, fun d H7 d0 d1 B7 o7 => ?_⟩
      have S1 := S0.off hb o7 B7
      walk_at "rd"
      refine ⟨_, rfl, by omega, by omega, ?_⟩
      refine lp_range (fun j s h => ∃ x1 s1 k1 p1 lv1 y1 x6 x7 x8 x9, s = [some (.ref sc), some (.int i), some (.ref b), some (.ref x1), some (.ref a), some (.ref s1), x6, x7, x8, x9] ∧ St K CW H2 b a dx (12 + j * 200) x1 s1 k1 p1 lv1 y1 h) ⟨_, _, _, _, _, _, _, _, _, _, rfl, S1.same (fun _ _ h => h) (by decide)⟩ (fun j s H8 hj => ?_) (fun s H8 q2 => ?_)
      · rintro ⟨x1, s1, k1, p1, lv1, y1, x6, x7, x8, x9, rfl, S⟩
        have hj9 : j < 9 := by omega
        walk_at "rd"
        refine ⟨b, 3, _, rfl, by decide, by decide, S.bx, by omega, fun d1 H9 _ _ B9 o9 => ?_⟩
        have S := S.off hb o9 B9
        walk_at "rd"
        generalize decide (d1 > 0) = on
        refine ⟨b, 4, _, rfl, by decide, by decide, S.bx, by omega, fun d2 H10 _ _ B10 o10 => ?_⟩
        have S := S.off hb o10 B10
        walk_at "rd"
        refine ite2 (fun c => ?_) (fun c => ?_)
        · walk_at "rd"
          refine ⟨b, _, rfl, S.bx, by omega, fun x2 p2 H11 _ ok2 hx2 B11 o11 => ?_⟩
          have S := S.off hb o11 B11
          walk_at "rd"
          refine r_meth ?_
          walk_at "rd"
          refine ⟨a, dx, _, rfl, S.ha, rfl, ?_⟩
          walk_at "rd"
          refine ⟨a, dx, x1, k1, x2, p1, p2, rfl, S.ha, S.hx, hx2, ok2, fun H12 e12 v12 => ?_⟩
          have S := S.give hx2 ok2 ha0 e12 v12
          walk_at "rd"
          refine r_meth ?_
          walk_at "rd"
          refine ⟨a, dx, _, rfl, S.ha, rfl, ?_⟩
          walk_at "rd"
          refine ⟨a, dx, _, _, _, _, rfl, S.ha, S.hk, fun tz Hz sz etz => ?_⟩
          have Az := S.same sz (Nat.le_refl _)
          walk_at "rd"
          refine ⟨_, _, 1, _, rfl, rfl, SqT.of Az.hs, rfl, ?_⟩
          walk_at "rd"
          refine ⟨_, _, 0, _, rfl, rfl, SqT.of Az.hs, rfl, ?_⟩
          walk_at "rd"
          refine r_new rfl fun uz huz => ?_
          have Bz := Az.same (same_new (o := .tup [.ref x2, .int lv1, .str y1.s]) huz) (Nat.le_refl _)
          refine ⟨_, _, stD_at Bz.hx (same_new huz _ _ etz), stD_at Bz.hx upd_same, stD_shaped _ _ _, stD_shaped _ _ _, ?_⟩
          walk_at "rd"
          refine iteFb (by rw [stD_eq]; rfl) ?_
          walk_at "rd"
          refine r_for ?_
          refine r_rng1 ?_
          walk_at "rd"
          refine ⟨b, 40, _, rfl, by decide, by decide, Bz.bx, by omega, fun e1 G1 q0 q1 D1 w1 => ?_⟩
          have S2 := Bz.off hb w1 D1
          walk_at "rd"
          refine r_new rfl fun l hl => ?_
          have lb := S2.bx.ne hl
          have S3 := S2.same (same_new (o := .lst [.int 1, .int (1 + e1)]) hl) (Nat.le_refl _)
          walk_at "rd"
          refine ⟨b, 2, _, rfl, by decide, by decide, S3.bx, by omega, fun e2 G2 r0 r1 D2 w2 => ?_⟩
          have S4 := S3.off hb w2 D2
          refine r_ixP (R := fun v => ∃ m : Int, v = .int m ∧ 1 ≤ m ∧ m ≤ 40) (w2 l _ lb upd_same) ?_ r0 r1 ?_
          · exact List.forall_mem_cons.mpr ⟨⟨1, rfl, by decide, by decide⟩, List.forall_mem_cons.mpr ⟨⟨_, rfl, by omega, by omega⟩, fun _ h => absurd h List.not_mem_nil⟩⟩
          rintro v ⟨m, rfl, m0, m1⟩
          walk_at "rd"
          refine ⟨_, rfl, by omega, by omega, ?_⟩
          refine lp_range (fun l s h => ∃ s2 k2 lv2 y2 x8 x9, s = [some (.ref sc), some (.int i), some (.ref b), some (.ref x2), some (.ref a), some (.ref s2), some (.int (0 + j)), some (.bl on), x8, x9] ∧ St K CW H2 b a dx (12 + j * 200 + 16 + l * 2) x2 s2 k2 p2 lv2 y2 h) ⟨_, _, _, _, _, _, rfl, S4.same (fun _ _ h => h) (by omega)⟩ (fun l s h hl => ?_) (fun s h q2 => ?_)
          · rintro ⟨s2, k2, lv2, y2, x8, x9, rfl, S5⟩
            have hl40 : l < 40 := by omega
            walk_at "rd"
            refine r_new rfl fun gl hgl => ?_
            have gb := S5.bx.ne hgl
            have S6 := S5.same (same_new (o := .lst [.int 0, .int (-1), .int (-2048)]) hgl) (Nat.le_refl _)
            walk_at "rd"
            refine ⟨b, 3, _, rfl, by decide, by decide, S6.bx, by omega, fun e3 G3 r0 r1 D3 w3 => ?_⟩
            have S7 := S6.off hb w3 D3
            refine r_ixP (R := fun v => ∃ m : Int, v = .int m ∧ -2048 ≤ m ∧ m ≤ 0) (w3 gl _ gb upd_same) ?_ r0 r1 ?_
            · exact List.forall_mem_cons.mpr ⟨⟨0, rfl, by decide, by decide⟩, List.forall_mem_cons.mpr ⟨⟨-1, rfl, by decide, by decide⟩, List.forall_mem_cons.mpr ⟨⟨-2048, rfl, by decide, by decide⟩, fun _ h => absurd h List.not_mem_nil⟩⟩⟩
            rintro v ⟨g, rfl, g0, g1⟩
            walk_at "rd"
            cases on with
            | true =>
              refine iteT ?_
              walk_at "rd"
              refine r_new rfl fun gm hgm => ?_
              have gmb := S7.bx.ne hgm
              have S8 := S7.same (same_new (o := .lst [.int 1, .int 2047]) hgm) (Nat.le_refl _)
              walk_at "rd"
              refine ⟨b, 2, _, rfl, by decide, by decide, S8.bx, by omega, fun e4 G4 r0 r1 D4 w4 => ?_⟩
              have S9 := S8.off hb w4 D4
              refine r_ixP (R := fun v => ∃ m : Int, v = .int m ∧ 1 ≤ m ∧ m ≤ 2047) (w4 gm _ gmb upd_same) ?_ r0 r1 ?_
              · exact List.forall_mem_cons.mpr ⟨⟨1, rfl, by decide, by decide⟩, List.forall_mem_cons.mpr ⟨⟨2047, rfl, by decide, by decide⟩, fun _ h => absurd h List.not_mem_nil⟩⟩
              rintro v ⟨g, rfl, g0, g1⟩
              walk_at "rd"
              refine ⟨_, _, _, _, _, true, rfl, S9.hs, S9.hx, fun t Ht st et => ?_⟩
              have C1 := S9.same st (Nat.le_refl _)
              walk_at "rd"
              refine r_meth ?_
              walk_at "rd"
              refine ⟨a, dx, _, rfl, C1.ha, rfl, ?_⟩
              walk_at "rd"
              refine r_dispV rfl fun dd hdd => ?_
              have C2 := C1.same (same_new (o := .dK (gate g)) hdd) (Nat.le_refl _)
              have et2 := same_new (o := .dK (gate g)) hdd _ _ et
              walk_at "rd"
              refine ⟨a, dx, _, _, dd, _, _, _, g, rfl, C2.ha, C2.hx, C2.hk, upd_same, (by omega), g1, ?_⟩
              rw [decide_eq_true (show 0 < g by omega)]
              intro k2 Hs es ks vs
              have sm := mv_small (y := wordF y2 true) C2.ok C2.l0 C2.l1
              have C3 := C2.moved ha0 et2 es ks vs sm.1 sm.2
              have lg : (mv p2 lv2 (wordF y2 true)).1.natAbs < 2 ^ 200 := Nat.lt_of_lt_of_le (show _ < 4096 by omega) (by decide)
              walk_at "rd"
              refine r_shI lg ?_
              walk_at "rd"
              refine ⟨_, _, 1, _, rfl, rfl, SqT.of C3.hs, rfl, ?_⟩
              walk_at "rd"
              refine r_shI lg ?_
              walk_at "rd"
              refine iteNE rfl ?_
              walk_at "rd"
              refine r_meth ?_
              walk_at "rd"
              refine ⟨a, dx, _, rfl, C3.ha, rfl, ?_⟩
              walk_at "rd"
              refine ⟨a, dx, _, _, _, _, rfl, C3.ha, C3.hk, fun tq Hq sq etq => ?_⟩
              have Aq := C3.same sq (Nat.le_refl _)
              walk_at "rd"
              refine ⟨_, _, 1, _, rfl, rfl, SqT.of Aq.hs, rfl, ?_⟩
              walk_at "rd"
              refine ⟨_, _, 0, _, rfl, rfl, SqT.of Aq.hs, rfl, ?_⟩
              walk_at "rd"
              refine r_new rfl fun uq huq => ?_
              have Bq := Aq.same (same_new (o := .tup [.ref x2, .int (mv p2 lv2 (wordF y2 true)).1, .str (mv p2 lv2 (wordF y2 true)).2.s]) huq) (Nat.le_refl _)
              refine ⟨_, _, stD_at Bq.hx (same_new huq _ _ etq), stD_at Bq.hx upd_same, stD_shaped _ _ _, stD_shaped _ _ _, ?_⟩
              walk_at "rd"
              refine iteFb (by rw [stD_eq]; rfl) ?_
              walk_at "rd"
              refine r_meth ?_
              walk_at "rd"
              refine ⟨a, dx, _, rfl, Bq.ha, rfl, ?_⟩
              walk_at "rd"
              refine ⟨a, dx, _, _, rfl, Bq.ha, ?_⟩
              walk_at "rd"
              exact ⟨_, _, _, _, _, _, rfl, Bq.same (fun _ _ h => h) (by omega)⟩
            | false =>
              refine iteF ?_
              walk_at "rd"
              refine ⟨_, _, _, _, _, false, rfl, S7.hs, S7.hx, fun t Ht st et => ?_⟩
              have C1 := S7.same st (Nat.le_refl _)
              walk_at "rd"
              refine r_meth ?_
              walk_at "rd"
              refine ⟨a, dx, _, rfl, C1.ha, rfl, ?_⟩
              walk_at "rd"
              refine r_dispV rfl fun dd hdd => ?_
              have C2 := C1.same (same_new (o := .dK (gate g)) hdd) (Nat.le_refl _)
              have et2 := same_new (o := .dK (gate g)) hdd _ _ et
              walk_at "rd"
              refine ⟨a, dx, _, _, dd, _, _, _, g, rfl, C2.ha, C2.hx, C2.hk, upd_same, g0, (by omega), ?_⟩
              rw [decide_eq_false (show ¬ 0 < g by omega)]
              intro k2 Hs es ks vs
              have sm := mv_small (y := wordF y2 false) C2.ok C2.l0 C2.l1
              have C3 := C2.moved ha0 et2 es ks vs sm.1 sm.2
              have lg : (mv p2 lv2 (wordF y2 false)).1.natAbs < 2 ^ 200 := Nat.lt_of_lt_of_le (show _ < 4096 by omega) (by decide)
              walk_at "rd"
              refine r_shI lg ?_
              walk_at "rd"
              refine ⟨_, _, 1, _, rfl, rfl, SqT.of C3.hs, rfl, ?_⟩
              walk_at "rd"
              refine r_shI lg ?_
              walk_at "rd"
              refine iteNE rfl ?_
              walk_at "rd"
              refine r_meth ?_
              walk_at "rd"
              refine ⟨a, dx, _, rfl, C3.ha, rfl, ?_⟩
              walk_at "rd"
              refine ⟨a, dx, _, _, _, _, rfl, C3.ha, C3.hk, fun tq Hq sq etq => ?_⟩
              have Aq := C3.same sq (Nat.le_refl _)
              walk_at "rd"
              refine ⟨_, _, 1, _, rfl, rfl, SqT.of Aq.hs, rfl, ?_⟩
              walk_at "rd"
              refine ⟨_, _, 0, _, rfl, rfl, SqT.of Aq.hs, rfl, ?_⟩
              walk_at "rd"
              refine r_new rfl fun uq huq => ?_
              have Bq := Aq.same (same_new (o := .tup [.ref x2, .int (mv p2 lv2 (wordF y2 false)).1, .str (mv p2 lv2 (wordF y2 false)).2.s]) huq) (Nat.le_refl _)
              refine ⟨_, _, stD_at Bq.hx (same_new huq _ _ etq), stD_at Bq.hx upd_same, stD_shaped _ _ _, stD_shaped _ _ _, ?_⟩
              walk_at "rd"
              refine iteFb (by rw [stD_eq]; rfl) ?_
              walk_at "rd"
              refine r_meth ?_
              walk_at "rd"
              refine ⟨a, dx, _, rfl, Bq.ha, rfl, ?_⟩
              walk_at "rd"
              refine ⟨a, dx, _, _, rfl, Bq.ha, ?_⟩
              walk_at "rd"
              exact ⟨_, _, _, _, _, _, rfl, Bq.same (fun _ _ h => h) (by omega)⟩
          · obtain ⟨s2, k2, lv2, y2, x8, x9, rfl, S5⟩ := q2
            have hm : m.toNat ≤ 40 := by omega
            exact ⟨_, _, _, _, _, _, _, _, _, _, rfl, S5.same (fun _ _ h => h) (by omega)⟩
        · walk_at "rd"
          refine r_for ?_
          refine r_rng1 ?_
          walk_at "rd"
          refine ⟨b, 40, _, rfl, by decide, by decide, S.bx, by omega, fun e1 G1 q0 q1 D1 w1 => ?_⟩
          have S2 := S.off hb w1 D1
          walk_at "rd"
          refine r_new rfl fun l hl => ?_
          have lb := S2.bx.ne hl
          have S3 := S2.same (same_new (o := .lst [.int 1, .int (1 + e1)]) hl) (Nat.le_refl _)
          walk_at "rd"
          refine ⟨b, 2, _, rfl, by decide, by decide, S3.bx, by omega, fun e2 G2 r0 r1 D2 w2 => ?_⟩
          have S4 := S3.off hb w2 D2
          refine r_ixP (R := fun v => ∃ m : Int, v = .int m ∧ 1 ≤ m ∧ m ≤ 40) (w2 l _ lb upd_same) ?_ r0 r1 ?_
          · exact List.forall_mem_cons.mpr ⟨⟨1, rfl, by decide, by decide⟩, List.forall_mem_cons.mpr ⟨⟨_, rfl, by omega, by omega⟩, fun _ h => absurd h List.not_mem_nil⟩⟩
          rintro v ⟨m, rfl, m0, m1⟩
          walk_at "rd"
          refine ⟨_, rfl, by omega, by omega, ?_⟩
          refine lp_range (fun l s h => ∃ s2 k2 lv2 y2 x8 x9, s = [some (.ref sc), some (.int i), some (.ref b), some (.ref x1), some (.ref a), some (.ref s2), some (.int (0 + j)), some (.bl on), x8, x9] ∧ St K CW H2 b a dx (12 + j * 200 + 16 + l * 2) x1 s2 k2 p1 lv2 y2 h) ⟨_, _, _, _, _, _, rfl, S4.same (fun _ _ h => h) (by omega)⟩ (fun l s h hl => ?_) (fun s h q2 => ?_)
          · rintro ⟨s2, k2, lv2, y2, x8, x9, rfl, S5⟩
            have hl40 : l < 40 := by omega
            walk_at "rd"
            refine r_new rfl fun gl hgl => ?_
            have gb := S5.bx.ne hgl
            have S6 := S5.same (same_new (o := .lst [.int 0, .int (-1), .int (-2048)]) hgl) (Nat.le_refl _)
            walk_at "rd"
            refine ⟨b, 3, _, rfl, by decide, by decide, S6.bx, by omega, fun e3 G3 r0 r1 D3 w3 => ?_⟩
            have S7 := S6.off hb w3 D3
            refine r_ixP (R := fun v => ∃ m : Int, v = .int m ∧ -2048 ≤ m ∧ m ≤ 0) (w3 gl _ gb upd_same) ?_ r0 r1 ?_
            · exact List.forall_mem_cons.mpr ⟨⟨0, rfl, by decide, by decide⟩, List.forall_mem_cons.mpr ⟨⟨-1, rfl, by decide, by decide⟩, List.forall_mem_cons.mpr ⟨⟨-2048, rfl, by decide, by decide⟩, fun _ h => absurd h List.not_mem_nil⟩⟩⟩
            rintro v ⟨g, rfl, g0, g1⟩
            walk_at "rd"
            cases on with
            | true =>
              refine iteT ?_
              walk_at "rd"
              refine r_new rfl fun gm hgm => ?_
              have gmb := S7.bx.ne hgm
              have S8 := S7.same (same_new (o := .lst [.int 1, .int 2047]) hgm) (Nat.le_refl _)
              walk_at "rd"
              refine ⟨b, 2, _, rfl, by decide, by decide, S8.bx, by omega, fun e4 G4 r0 r1 D4 w4 => ?_⟩
              have S9 := S8.off hb w4 D4
              refine r_ixP (R := fun v => ∃ m : Int, v = .int m ∧ 1 ≤ m ∧ m ≤ 2047) (w4 gm _ gmb upd_same) ?_ r0 r1 ?_
              · exact List.forall_mem_cons.mpr ⟨⟨1, rfl, by decide, by decide⟩, List.forall_mem_cons.mpr ⟨⟨2047, rfl, by decide, by decide⟩, fun _ h => absurd h List.not_mem_nil⟩⟩
              rintro v ⟨g, rfl, g0, g1⟩
              walk_at "rd"
              refine ⟨_, _, _, _, _, true, rfl, S9.hs, S9.hx, fun t Ht st et => ?_⟩
              have C1 := S9.same st (Nat.le_refl _)
              walk_at "rd"
              refine r_meth ?_
              walk_at "rd"
              refine ⟨a, dx, _, rfl, C1.ha, rfl, ?_⟩
              walk_at "rd"
              refine r_dispV rfl fun dd hdd => ?_
              have C2 := C1.same (same_new (o := .dK (gate g)) hdd) (Nat.le_refl _)
              have et2 := same_new (o := .dK (gate g)) hdd _ _ et
              walk_at "rd"
              refine ⟨a, dx, _, _, dd, _, _, _, g, rfl, C2.ha, C2.hx, C2.hk, upd_same, (by omega), g1, ?_⟩
              rw [decide_eq_true (show 0 < g by omega)]
              intro k2 Hs es ks vs
              have sm := mv_small (y := wordF y2 true) C2.ok C2.l0 C2.l1
              have C3 := C2.moved ha0 et2 es ks vs sm.1 sm.2
              have lg : (mv p1 lv2 (wordF y2 true)).1.natAbs < 2 ^ 200 := Nat.lt_of_lt_of_le (show _ < 4096 by omega) (by decide)
              walk_at "rd"
              refine r_shI lg ?_
              walk_at "rd"
              refine ⟨_, _, 1, _, rfl, rfl, SqT.of C3.hs, rfl, ?_⟩
              walk_at "rd"
              refine r_shI lg ?_
              walk_at "rd"
              refine iteNE rfl ?_
              walk_at "rd"
              refine r_meth ?_
              walk_at "rd"
              refine ⟨a, dx, _, rfl, C3.ha, rfl, ?_⟩
              walk_at "rd"
              refine ⟨a, dx, _, _, _, _, rfl, C3.ha, C3.hk, fun tq Hq sq etq => ?_⟩
              have Aq := C3.same sq (Nat.le_refl _)
              walk_at "rd"
              refine ⟨_, _, 1, _, rfl, rfl, SqT.of Aq.hs, rfl, ?_⟩
              walk_at "rd"
              refine ⟨_, _, 0, _, rfl, rfl, SqT.of Aq.hs, rfl, ?_⟩
              walk_at "rd"
              refine r_new rfl fun uq huq => ?_
              have Bq := Aq.same (same_new (o := .tup [.ref x1, .int (mv p1 lv2 (wordF y2 true)).1, .str (mv p1 lv2 (wordF y2 true)).2.s]) huq) (Nat.le_refl _)
              refine ⟨_, _, stD_at Bq.hx (same_new huq _ _ etq), stD_at Bq.hx upd_same, stD_shaped _ _ _, stD_shaped _ _ _, ?_⟩
              walk_at "rd"
              refine iteFb (by rw [stD_eq]; rfl) ?_
              walk_at "rd"
              refine r_meth ?_
              walk_at "rd"
              refine ⟨a, dx, _, rfl, Bq.ha, rfl, ?_⟩
              walk_at "rd"
              refine ⟨a, dx, _, _, rfl, Bq.ha, ?_⟩
              walk_at "rd"
              exact ⟨_, _, _, _, _, _, rfl, Bq.same (fun _ _ h => h) (by omega)⟩
            | false =>
              refine iteF ?_
              walk_at "rd"
              refine ⟨_, _, _, _, _, false, rfl, S7.hs, S7.hx, fun t Ht st et => ?_⟩
              have C1 := S7.same st (Nat.le_refl _)
              walk_at "rd"
              refine r_meth ?_
              walk_at "rd"
              refine ⟨a, dx, _, rfl, C1.ha, rfl, ?_⟩
              walk_at "rd"
              refine r_dispV rfl fun dd hdd => ?_
              have C2 := C1.same (same_new (o := .dK (gate g)) hdd) (Nat.le_refl _)
              have et2 := same_new (o := .dK (gate g)) hdd _ _ et
              walk_at "rd"
              refine ⟨a, dx, _, _, dd, _, _, _, g, rfl, C2.ha, C2.hx, C2.hk, upd_same, g0, (by omega), ?_⟩
              rw [decide_eq_false (show ¬ 0 < g by omega)]
              intro k2 Hs es ks vs
              have sm := mv_small (y := wordF y2 false) C2.ok C2.l0 C2.l1
              have C3 := C2.moved ha0 et2 es ks vs sm.1 sm.2
              have lg : (mv p1 lv2 (wordF y2 false)).1.natAbs < 2 ^ 200 := Nat.lt_of_lt_of_le (show _ < 4096 by omega) (by decide)
              walk_at "rd"
              refine r_shI lg ?_
              walk_at "rd"
              refine ⟨_, _, 1, _, rfl, rfl, SqT.of C3.hs, rfl, ?_⟩
              walk_at "rd"
              refine r_shI lg ?_
              walk_at "rd"
              refine iteNE rfl ?_
              walk_at "rd"
              refine r_meth ?_
              walk_at "rd"
              refine ⟨a, dx, _, rfl, C3.ha, rfl, ?_⟩
              walk_at "rd"
              refine ⟨a, dx, _, _, _, _, rfl, C3.ha, C3.hk, fun tq Hq sq etq => ?_⟩
              have Aq := C3.same sq (Nat.le_refl _)
              walk_at "rd"
              refine ⟨_, _, 1, _, rfl, rfl, SqT.of Aq.hs, rfl, ?_⟩
              walk_at "rd"
              refine ⟨_, _, 0, _, rfl, rfl, SqT.of Aq.hs, rfl, ?_⟩
              walk_at "rd"
              refine r_new rfl fun uq huq => ?_
              have Bq := Aq.same (same_new (o := .tup [.ref x1, .int (mv p1 lv2 (wordF y2 false)).1, .str (mv p1 lv2 (wordF y2 false)).2.s]) huq) (Nat.le_refl _)
              refine ⟨_, _, stD_at Bq.hx (same_new huq _ _ etq), stD_at Bq.hx upd_same, stD_shaped _ _ _, stD_shaped _ _ _, ?_⟩
              walk_at "rd"
              refine iteFb (by rw [stD_eq]; rfl) ?_
              walk_at "rd"
              refine r_meth ?_
              walk_at "rd"
              refine ⟨a, dx, _, rfl, Bq.ha, rfl, ?_⟩
              walk_at "rd"
              refine ⟨a, dx, _, _, rfl, Bq.ha, ?_⟩
              walk_at "rd"
              exact ⟨_, _, _, _, _, _, rfl, Bq.same (fun _ _ h => h) (by omega)⟩
          · obtain ⟨s2, k2, lv2, y2, x8, x9, rfl, S5⟩ := q2
            have hm : m.toNat ≤ 40 := by omega
            exact ⟨_, _, _, _, _, _, _, _, _, _, rfl, S5.same (fun _ _ h => h) (by omega)⟩
      · obtain ⟨x1, s1, k1, p1, lv1, y1, x6, x7, x8, x9, rfl, S⟩ := q2
        exact ⟨⟨_, _, _, _, _, _, _, _, _, rfl⟩, s2.trans S.sm⟩
    · rintro s H2 ⟨⟨x1, x2, x3, x4, x5, x6, x7, x8, x9, rfl⟩, s2⟩
      walk_at "rd"
      exact q _
end
end K8
set_option linter.all false
set_option maxRecDepth 100000
set_option maxHeartbeats 4000000
namespace K8
open PySem PySem.Spec PyProof.Rows L2 Gx
theorem all_mk {P : Program} {w : World} {K : PySem.W.Frag} {h : Heap} {mg : Str → Option Value} {fa : Addr} (X : K.In h) (G : h.Ns mainGlobals mg) (hfa : mg "law" = some (.ref fa))
    {f0 : Addr} {oc0 kV0 dc0 pm0 cd0 ct0 : Value} {od0 an0 : Option Addr} {sl0 : Array (Option Value)}
    {f1 : Addr} {oc1 kV1 dc1 pm1 cd1 ct1 : Value} {od1 an1 : Option Addr} {sl1 : Array (Option Value)}
    {f2 : Addr} {oc2 kV2 dc2 pm2 cd2 ct2 : Value} {od2 an2 : Option Addr} {sl2 : Array (Option Value)}
    {f3 : Addr} {oc3 kV3 dc3 pm3 cd3 ct3 : Value} {od3 an3 : Option Addr} {sl3 : Array (Option Value)}
    {f4 : Addr} {oc4 kV4 dc4 pm4 cd4 ct4 : Value} {od4 an4 : Option Addr} {sl4 : Array (Option Value)}
    {f5 : Addr} {oc5 kV5 dc5 pm5 cd5 ct5 : Value} {od5 an5 : Option Addr} {sl5 : Array (Option Value)}
    {f6 : Addr} {oc6 kV6 dc6 pm6 cd6 ct6 : Value} {od6 an6 : Option Addr} {sl6 : Array (Option Value)}
    {f7 : Addr} {oc7 kV7 dc7 pm7 cd7 ct7 : Value} {od7 an7 : Option Addr} {sl7 : Array (Option Value)}
    {f8 : Addr} {oc8 kV8 dc8 pm8 cd8 ct8 : Value} {od8 an8 : Option Addr} {sl8 : Array (Option Value)}
    {f9 : Addr} {oc9 kV9 dc9 pm9 cd9 ct9 : Value} {od9 an9 : Option Addr} {sl9 : Array (Option Value)}
    {f10 : Addr} {oc10 kV10 dc10 pm10 cd10 ct10 : Value} {od10 an10 : Option Addr} {sl10 : Array (Option Value)}
    {f11 : Addr} {oc11 kV11 dc11 pm11 cd11 ct11 : Value} {od11 an11 : Option Addr} {sl11 : Array (Option Value)}
    {f12 : Addr} {oc12 kV12 dc12 pm12 cd12 ct12 : Value} {od12 an12 : Option Addr} {sl12 : Array (Option Value)}
    {f13 : Addr} {oc13 kV13 dc13 pm13 cd13 ct13 : Value} {od13 an13 : Option Addr} {sl13 : Array (Option Value)}
    {f14 : Addr} {oc14 kV14 dc14 pm14 cd14 ct14 : Value} {od14 an14 : Option Addr} {sl14 : Array (Option Value)}
    {f15 : Addr} {oc15 kV15 dc15 pm15 cd15 ct15 : Value} {od15 an15 : Option Addr} {sl15 : Array (Option Value)}
    {f16 : Addr} {oc16 kV16 dc16 pm16 cd16 ct16 : Value} {od16 an16 : Option Addr} {sl16 : Array (Option Value)}
    {f17 : Addr} {oc17 kV17 dc17 pm17 cd17 ct17 : Value} {od17 an17 : Option Addr} {sl17 : Array (Option Value)}
    {f18 : Addr} {oc18 kV18 dc18 pm18 cd18 ct18 : Value} {od18 an18 : Option Addr} {sl18 : Array (Option Value)}
    {t0 : Nat}
    {t1 : Nat}
    {t2 : Nat}
    {t3 : Nat}
    {t4 : Nat}
    {S0 : Addr}
    {CP ICP NCP : Addr} {nmCP qnCP : Str} {bsCP bmCP : List Value} {snCP : List Str} {subCP : List Value} {abCP : Bool} {colCP : Option Bool} {ddCP : Option Addr} {q0CP q1CP q2CP q3CP q5CP : Option Value} {ocCP kVCP dcCP pmCP cdCP ctCP : Value} {odCP anCP : Option Addr} {slCP : Array (Option Value)}
    {CI ICI NCI : Addr} {nmCI qnCI : Str} {bsCI bmCI : List Value} {snCI : List Str} {subCI : List Value} {abCI : Bool} {colCI : Option Bool} {ddCI : Option Addr} {q0CI q1CI q2CI q3CI q5CI : Option Value} {ocCI kVCI dcCI pmCI cdCI ctCI : Value} {odCI anCI : Option Addr} {slCI : Array (Option Value)}
    (a0 : PySem.W.nsIn K mainGlobals "is_number" = some (some (.ref f0))) (l0 : K.lookup f0 = some ⟨oc0, od0, .func (PySem.W.fnOf "is_number" "is_number" (defArgs s_is_number) (defBody s_is_number) (defScope s_is_number) .none kV0 dc0 pm0 an0 cd0 ct0), sl0⟩) (c0 : PySem.W.codeIn K cd0 "is_number" = true) (k0 : PySem.W.keepIn K (.ref f0) = true)
    (a1 : PySem.W.nsIn K mainGlobals "is_whole" = some (some (.ref f1))) (l1 : K.lookup f1 = some ⟨oc1, od1, .func (PySem.W.fnOf "is_whole" "is_whole" (defArgs s_is_whole) (defBody s_is_whole) (defScope s_is_whole) .none kV1 dc1 pm1 an1 cd1 ct1), sl1⟩) (c1 : PySem.W.codeIn K cd1 "is_whole" = true) (k1 : PySem.W.keepIn K (.ref f1) = true)
    (a2 : PySem.W.nsIn K mainGlobals "is_name" = some (some (.ref f2))) (l2 : K.lookup f2 = some ⟨oc2, od2, .func (PySem.W.fnOf "is_name" "is_name" (defArgs s_is_name) (defBody s_is_name) (defScope s_is_name) .none kV2 dc2 pm2 an2 cd2 ct2), sl2⟩) (c2 : PySem.W.codeIn K cd2 "is_name" = true) (k2 : PySem.W.keepIn K (.ref f2) = true)
    (a3 : PySem.W.nsIn K mainGlobals "is_worth" = some (some (.ref f3))) (l3 : K.lookup f3 = some ⟨oc3, od3, .func (PySem.W.fnOf "is_worth" "is_worth" (defArgs s_is_worth) (defBody s_is_worth) (defScope s_is_worth) .none kV3 dc3 pm3 an3 cd3 ct3), sl3⟩) (c3 : PySem.W.codeIn K cd3 "is_worth" = true) (k3 : PySem.W.keepIn K (.ref f3) = true)
    (a4 : PySem.W.nsIn K mainGlobals "_is_shape" = some (some (.ref f4))) (l4 : K.lookup f4 = some ⟨oc4, od4, .func (PySem.W.fnOf "_is_shape" "_is_shape" (defArgs s_is_shape) (defBody s_is_shape) (defScope s_is_shape) .none kV4 dc4 pm4 an4 cd4 ct4), sl4⟩) (c4 : PySem.W.codeIn K cd4 "_is_shape" = true) (k4 : PySem.W.keepIn K (.ref f4) = true)
    (a5 : PySem.W.nsIn K mainGlobals "is_part" = some (some (.ref f5))) (l5 : K.lookup f5 = some ⟨oc5, od5, .func (PySem.W.fnOf "is_part" "is_part" (defArgs s_is_part) (defBody s_is_part) (defScope s_is_part) .none kV5 dc5 pm5 an5 cd5 ct5), sl5⟩) (c5 : PySem.W.codeIn K cd5 "is_part" = true) (k5 : PySem.W.keepIn K (.ref f5) = true)
    (a6 : PySem.W.nsIn K mainGlobals "has_factors" = some (some (.ref f6))) (l6 : K.lookup f6 = some ⟨oc6, od6, .func (PySem.W.fnOf "has_factors" "has_factors" (defArgs s_has_factors) (defBody s_has_factors) (defScope s_has_factors) .none kV6 dc6 pm6 an6 cd6 ct6), sl6⟩) (c6 : PySem.W.codeIn K cd6 "has_factors" = true) (k6 : PySem.W.keepIn K (.ref f6) = true)
    (a7 : PySem.W.nsIn K mainGlobals "_kept_at_first" = some (some (.ref f7))) (l7 : K.lookup f7 = some ⟨oc7, od7, .func (PySem.W.fnOf "_kept_at_first" "_kept_at_first" (defArgs s_kept_at_first) (defBody s_kept_at_first) (defScope s_kept_at_first) .none kV7 dc7 pm7 an7 cd7 ct7), sl7⟩) (c7 : PySem.W.codeIn K cd7 "_kept_at_first" = true) (k7 : PySem.W.keepIn K (.ref f7) = true)
    (a8 : PySem.W.nsIn K mainGlobals "_form" = some (some (.ref f8))) (l8 : K.lookup f8 = some ⟨oc8, od8, .func (PySem.W.fnOf "_form" "_form" (defArgs s_form) (defBody s_form) (defScope s_form) .none kV8 dc8 pm8 an8 cd8 ct8), sl8⟩) (c8 : PySem.W.codeIn K cd8 "_form" = true) (k8 : PySem.W.keepIn K (.ref f8) = true)
    (a9 : PySem.W.nsIn K mainGlobals "_are_ins" = some (some (.ref f9))) (l9 : K.lookup f9 = some ⟨oc9, od9, .func (PySem.W.fnOf "_are_ins" "_are_ins" (defArgs s_are_ins) (defBody s_are_ins) (defScope s_are_ins) .none kV9 dc9 pm9 an9 cd9 ct9), sl9⟩) (c9 : PySem.W.codeIn K cd9 "_are_ins" = true) (k9 : PySem.W.keepIn K (.ref f9) = true)
    (a10 : PySem.W.nsIn K mainGlobals "_shape_word" = some (some (.ref f10))) (l10 : K.lookup f10 = some ⟨oc10, od10, .func (PySem.W.fnOf "_shape_word" "_shape_word" (defArgs s_shape_word) (defBody s_shape_word) (defScope s_shape_word) .none kV10 dc10 pm10 an10 cd10 ct10), sl10⟩) (c10 : PySem.W.codeIn K cd10 "_shape_word" = true) (k10 : PySem.W.keepIn K (.ref f10) = true)
    (a11 : PySem.W.nsIn K mainGlobals "_shape_moved" = some (some (.ref f11))) (l11 : K.lookup f11 = some ⟨oc11, od11, .func (PySem.W.fnOf "_shape_moved" "_shape_moved" (defArgs s_shape_moved) (defBody s_shape_moved) (defScope s_shape_moved) .none kV11 dc11 pm11 an11 cd11 ct11), sl11⟩) (c11 : PySem.W.codeIn K cd11 "_shape_moved" = true) (k11 : PySem.W.keepIn K (.ref f11) = true)
    (a12 : PySem.W.nsIn K mainGlobals "_shape_step" = some (some (.ref f12))) (l12 : K.lookup f12 = some ⟨oc12, od12, .func (PySem.W.fnOf "_shape_step" "_shape_step" (defArgs s_shape_step) (defBody s_shape_step) (defScope s_shape_step) .none kV12 dc12 pm12 an12 cd12 ct12), sl12⟩) (c12 : PySem.W.codeIn K cd12 "_shape_step" = true) (k12 : PySem.W.keepIn K (.ref f12) = true)
    (a13 : PySem.W.nsIn K mainGlobals "_law_cell" = some (some (.ref f13))) (l13 : K.lookup f13 = some ⟨oc13, od13, .func (PySem.W.fnOf "_law_cell" "_law_cell" (defArgs s_law_cell) (defBody s_law_cell) (defScope s_law_cell) .none kV13 dc13 pm13 an13 cd13 ct13), sl13⟩) (c13 : PySem.W.codeIn K cd13 "_law_cell" = true) (k13 : PySem.W.keepIn K (.ref f13) = true)
    (a14 : PySem.W.nsIn K mainGlobals "_law_box" = some (some (.ref f14))) (l14 : K.lookup f14 = some ⟨oc14, od14, .func (PySem.W.fnOf "_law_box" "_law_box" (defArgs s_law_box) (defBody s_law_box) (defScope s_law_box) .none kV14 dc14 pm14 an14 cd14 ct14), sl14⟩) (c14 : PySem.W.codeIn K cd14 "_law_box" = true) (k14 : PySem.W.keepIn K (.ref f14) = true)
    (a15 : PySem.W.nsIn K mainGlobals "_law_take" = some (some (.ref f15))) (l15 : K.lookup f15 = some ⟨oc15, od15, .func (PySem.W.fnOf "_law_take" "_law_take" (defArgs s_take) (defBody s_take) (defScope s_take) .none kV15 dc15 pm15 an15 cd15 ct15), sl15⟩) (c15 : PySem.W.codeIn K cd15 "_law_take" = true) (k15 : PySem.W.keepIn K (.ref f15) = true)
    (a16 : PySem.W.nsIn K mainGlobals "_law_shape" = some (some (.ref f16))) (l16 : K.lookup f16 = some ⟨oc16, od16, .func (PySem.W.fnOf "_law_shape" "_law_shape" (defArgs s_law_shape) (defBody s_law_shape) (defScope s_law_shape) .none kV16 dc16 pm16 an16 cd16 ct16), sl16⟩) (c16 : PySem.W.codeIn K cd16 "_law_shape" = true) (k16 : PySem.W.keepIn K (.ref f16) = true)
    (a17 : PySem.W.nsIn K mainGlobals "_law_went" = some (some (.ref f17))) (l17 : K.lookup f17 = some ⟨oc17, od17, .func (PySem.W.fnOf "_law_went" "_law_went" (defArgs s_law_went) (defBody s_law_went) (defScope s_law_went) .none kV17 dc17 pm17 an17 cd17 ct17), sl17⟩) (c17 : PySem.W.codeIn K cd17 "_law_went" = true) (k17 : PySem.W.keepIn K (.ref f17) = true)
    (a18 : PySem.W.nsIn K mainGlobals "law" = some (some (.ref f18))) (l18 : K.lookup f18 = some ⟨oc18, od18, .func (PySem.W.fnOf "law" "law" (defArgs s_law) (defBody s_law) (defScope s_law) .none kV18 dc18 pm18 an18 cd18 ct18), sl18⟩) (c18 : PySem.W.codeIn K cd18 "law" = true) (k18 : PySem.W.keepIn K (.ref f18) = true)
    (i0 : PySem.W.nsIn K mainGlobals "LEAST" = some (some (.int (-2048) t0)))
    (i1 : PySem.W.nsIn K mainGlobals "GREATEST" = some (some (.int (2047) t1)))
    (i2 : PySem.W.nsIn K mainGlobals "NAME_LENGTH" = some (some (.int (8) t2)))
    (i3 : PySem.W.nsIn K mainGlobals "MOST_INS" = some (some (.int (8) t3)))
    (i4 : PySem.W.nsIn K mainGlobals "TOP" = some (some (.int (2047) t4)))
    (n0 : PySem.W.nsIn K mainGlobals "isinstance" = some none)
    (n1 : PySem.W.nsIn K mainGlobals "int" = some none)
    (n2 : PySem.W.nsIn K mainGlobals "bool" = some none)
    (n3 : PySem.W.nsIn K mainGlobals "str" = some none)
    (n4 : PySem.W.nsIn K mainGlobals "tuple" = some none)
    (n5 : PySem.W.nsIn K mainGlobals "dict" = some none)
    (n6 : PySem.W.nsIn K mainGlobals "len" = some none)
    (n7 : PySem.W.nsIn K mainGlobals "max" = some none)
    (n8 : PySem.W.nsIn K mainGlobals "min" = some none)
    (n9 : PySem.W.nsIn K mainGlobals "repr" = some none)
    (n10 : PySem.W.nsIn K mainGlobals "range" = some none)
    (n11 : PySem.W.nsIn K mainGlobals "all" = some none)
    (s00 : PySem.W.nsIn K mainGlobals "SoundError" = some (some (.ref S0))) (s10 : PySem.W.specialIn K (.ref S0) "__getattribute__" = some (some (.builtin "type.__getattribute__"))) (s20 : PySem.W.readsIn K S0 (.type "type") = true) (s30 : PySem.W.findCls K (.ref S0) (.type "type") "__init__" = some (.val (.builtin "ValueError.__init__")))
    (e0CP : PySem.W.nsIn K mainGlobals "NoPart" = some (some (.ref CP))) (e1CP : K.lookup CP = some (excClassObj nmCP qnCP CP NCP bsCP bmCP true snCP subCP abCP colCP ddCP q0CP q1CP q2CP q3CP q5CP "ValueError.__new__")) (e1bCP : PySem.HandSPX.refsVE bmCP = true)
    (e2CP : PySem.W.findIn K (.ref CP) "__setattr__" = some (some (.builtin "object.__setattr__"))) (e3CP : PySem.W.subIn K (.ref CP) (.type "BaseException") = some true) (e4CP : PySem.W.typeIn K (.ref CP) = some (.type "type")) (e5CP : PySem.W.keepIn K (.ref CP) = true)
    (e6CP : PySem.W.findIn K (.ref CP) "found" = some none) (e7CP : PySem.W.findIn K (.ref CP) "__init__" = some (some (.ref ICP))) (e8CP : PySem.W.typeIn K (.ref ICP) = some (.type "function"))
    (e9CP : K.lookup ICP = some ⟨ocCP, odCP, .func (PySem.W.fnOf "__init__" "NoPart.__init__" (defArgs s_init_NoPart) (defBody s_init_NoPart) (defScope s_init_NoPart) .none kVCP dcCP pmCP anCP cdCP ctCP), slCP⟩) (e10CP : PySem.W.codeIn K cdCP "NoPart.__init__" = true) (e11CP : PySem.W.keepIn K (.ref ICP) = true)
    (x1CP : PySem.W.findIn K (.ref CP) "__getattribute__" = some (some (.builtin "BaseException.__getattribute__"))) (x2CP : PySem.W.findIn K (.ref CP) "__getattr__" = some none) (x3CP : PySem.W.hasDictIn K CP = true) (y1CP : PySem.W.isClsIn K CP = true)
    (e0CI : PySem.W.nsIn K mainGlobals "NoIns" = some (some (.ref CI))) (e1CI : K.lookup CI = some (excClassObj nmCI qnCI CI NCI bsCI bmCI true snCI subCI abCI colCI ddCI q0CI q1CI q2CI q3CI q5CI "ValueError.__new__")) (e1bCI : PySem.HandSPX.refsVE bmCI = true)
    (e2CI : PySem.W.findIn K (.ref CI) "__setattr__" = some (some (.builtin "object.__setattr__"))) (e3CI : PySem.W.subIn K (.ref CI) (.type "BaseException") = some true) (e4CI : PySem.W.typeIn K (.ref CI) = some (.type "type")) (e5CI : PySem.W.keepIn K (.ref CI) = true)
    (e6CI : PySem.W.findIn K (.ref CI) "found" = some none) (e7CI : PySem.W.findIn K (.ref CI) "__init__" = some (some (.ref ICI))) (e8CI : PySem.W.typeIn K (.ref ICI) = some (.type "function"))
    (e9CI : K.lookup ICI = some ⟨ocCI, odCI, .func (PySem.W.fnOf "__init__" "NoIns.__init__" (defArgs s_init_NoIns) (defBody s_init_NoIns) (defScope s_init_NoIns) .none kVCI dcCI pmCI anCI cdCI ctCI), slCI⟩) (e10CI : PySem.W.codeIn K cdCI "NoIns.__init__" = true) (e11CI : PySem.W.keepIn K (.ref ICI) = true)
    (x1CI : PySem.W.findIn K (.ref CI) "__getattribute__" = some (some (.builtin "BaseException.__getattribute__"))) (x2CI : PySem.W.findIn K (.ref CI) "__getattr__" = some none) (x3CI : PySem.W.hasDictIn K CI = true) (y1CI : PySem.W.isClsIn K CI = true)
    {D1 D2 D3 t0 CW : Addr} {ds1 ds2 ds3 : Array DictEntry} {dn1 dn2 dn3 tz0 tz1 tn0 : Nat} {td0 : Option Addr} {ts0 : Array (Option Value)} {winit : Addr} {ocinit kVinit dcinit pminit cdinit ctinit : Value} {odinit aninit : Option Addr} {slinit : Array (Option Value)} {wsample : Addr} {ocsample kVsample dcsample pmsample cdsample ctsample : Value} {odsample ansample : Option Addr} {slsample : Array (Option Value)} {wwas_folded : Addr} {ocwas_folded kVwas_folded dcwas_folded pmwas_folded cdwas_folded ctwas_folded : Value} {odwas_folded anwas_folded : Option Addr} {slwas_folded : Array (Option Value)} {wgive : Addr} {ocgive kVgive dcgive pmgive cdgive ctgive : Value} {odgive angive : Option Addr} {slgive : Array (Option Value)} {wstands : Addr} {ocstands kVstands dcstands pmstands cdstands ctstands : Value} {odstands anstands : Option Addr} {slstands : Array (Option Value)}
    (da1 : PySem.W.nsIn K mainGlobals "_CHECKS" = some (some (.ref D1)))
    (db1 : K.lookup D1 = some ⟨.type "dict", none, .dict ds1 dn1, #[]⟩)
    (dc1 : PySem.W.KeysLit w.params ds1.toList)
    (dd1 : (D1 == sysModules) = false)
    (de1 : PySem.W.nsIn K D1 "shape" = some (some (.ref f4)))
    (da2 : PySem.W.nsIn K mainGlobals "_AT_FIRST" = some (some (.ref D2)))
    (db2 : K.lookup D2 = some ⟨.type "dict", none, .dict ds2 dn2, #[]⟩)
    (dc2 : PySem.W.KeysLit w.params ds2.toList)
    (dd2 : (D2 == sysModules) = false)
    (de2 : PySem.W.nsIn K D2 "shape" = some (some (.ref t0)))
    (da3 : PySem.W.nsIn K mainGlobals "_STEPS" = some (some (.ref D3)))
    (db3 : K.lookup D3 = some ⟨.type "dict", none, .dict ds3 dn3, #[]⟩)
    (dc3 : PySem.W.KeysLit w.params ds3.toList)
    (dd3 : (D3 == sysModules) = false)
    (de3 : PySem.W.nsIn K D3 "shape" = some (some (.ref f12)))
    (dt0 : K.lookup t0 = some ⟨.type "tuple", td0, .seq #[.int 0 tz0, .str "rest" tz1] tn0, ts0⟩)
    (wa : PySem.W.nsIn K mainGlobals "Worker" = some (some (.ref CW)))
    (wb : PySem.W.plainGet K CW Str.empty = true)
    (wc : PySem.W.hasDictIn K CW = true)
    (wd : PySem.W.plainOver K CW = true)
    (we : PySem.W.findIn K (.ref CW) "__setattr__" = some (some (.builtin "object.__setattr__")))
    (wf1 : PySem.W.findIn K (.ref CW) "_part" = some none)
    (wf2 : PySem.W.findIn K (.ref CW) "_kept" = some none)
    (wf3 : PySem.W.findIn K (.ref CW) "_folded_last" = some none)
    (wg : PySem.W.makesIn K CW = true)
    (wh : PySem.W.keepIn K (.ref CW) = true)
    (wi_init : PySem.W.findIn K (.ref CW) "__init__" = some (some (.ref winit)))
    (wj_init : PySem.W.isFn K (.ref winit) = true)
    (wk_init : K.lookup winit = some ⟨ocinit, odinit, .func (PySem.W.fnOf "__init__" "Worker.__init__" (defArgs s_w_init) (defBody s_w_init) (defScope s_w_init) .none kVinit dcinit pminit aninit cdinit ctinit), slinit⟩)
    (wl_init : PySem.W.codeIn K cdinit "Worker.__init__" = true)
    (wm_init : PySem.W.keepIn K (.ref winit) = true)
    (wi_sample : PySem.W.findIn K (.ref CW) "sample" = some (some (.ref wsample)))
    (wj_sample : PySem.W.isFn K (.ref wsample) = true)
    (wk_sample : K.lookup wsample = some ⟨ocsample, odsample, .func (PySem.W.fnOf "sample" "Worker.sample" (defArgs s_w_sample) (defBody s_w_sample) (defScope s_w_sample) .none kVsample dcsample pmsample ansample cdsample ctsample), slsample⟩)
    (wl_sample : PySem.W.codeIn K cdsample "Worker.sample" = true)
    (wm_sample : PySem.W.keepIn K (.ref wsample) = true)
    (wi_was_folded : PySem.W.findIn K (.ref CW) "was_folded" = some (some (.ref wwas_folded)))
    (wj_was_folded : PySem.W.isFn K (.ref wwas_folded) = true)
    (wk_was_folded : K.lookup wwas_folded = some ⟨ocwas_folded, odwas_folded, .func (PySem.W.fnOf "was_folded" "Worker.was_folded" (defArgs s_w_was_folded) (defBody s_w_was_folded) (defScope s_w_was_folded) .none kVwas_folded dcwas_folded pmwas_folded anwas_folded cdwas_folded ctwas_folded), slwas_folded⟩)
    (wl_was_folded : PySem.W.codeIn K cdwas_folded "Worker.was_folded" = true)
    (wm_was_folded : PySem.W.keepIn K (.ref wwas_folded) = true)
    (wi_give : PySem.W.findIn K (.ref CW) "give" = some (some (.ref wgive)))
    (wj_give : PySem.W.isFn K (.ref wgive) = true)
    (wk_give : K.lookup wgive = some ⟨ocgive, odgive, .func (PySem.W.fnOf "give" "Worker.give" (defArgs s_w_give) (defBody s_w_give) (defScope s_w_give) .none kVgive dcgive pmgive angive cdgive ctgive), slgive⟩)
    (wl_give : PySem.W.codeIn K cdgive "Worker.give" = true)
    (wm_give : PySem.W.keepIn K (.ref wgive) = true)
    (wi_stands : PySem.W.findIn K (.ref CW) "stands" = some (some (.ref wstands)))
    (wj_stands : PySem.W.isFn K (.ref wstands) = true)
    (wk_stands : K.lookup wstands = some ⟨ocstands, odstands, .func (PySem.W.fnOf "stands" "Worker.stands" (defArgs s_w_stands) (defBody s_w_stands) (defScope s_w_stands) .none kVstands dcstands pmstands anstands cdstands ctstands), slstands⟩)
    (wl_stands : PySem.W.codeIn K cdstands "Worker.stands" = true)
    (wm_stands : PySem.W.keepIn K (.ref wstands) = true) :
    ∃ fd : FuncData, (∀ (s : Shared) (u : Value), BindsTo s fd ⟨[u], []⟩ [("script", u)]) ∧ ∀ base : Heap, K.In base → base.Ns mainGlobals mg → FnG P w K mg base (L2.CX P w) 7 fa fd ["script"] (spLaw K) := by
  have e := hfa.symm.trans (PySem.W.mg_of X G a18)
  cases e
  have T : Txt K mg w CP CI CW := {
    d_is_number := defIn X G a0 l0 c0 k0
    d_is_whole := defIn X G a1 l1 c1 k1
    d_is_name := defIn X G a2 l2 c2 k2
    d_is_worth := defIn X G a3 l3 c3 k3
    d_is_shape := defIn X G a4 l4 c4 k4
    d_is_part := defIn X G a5 l5 c5 k5
    d_has_factors := defIn X G a6 l6 c6 k6
    d_kept_at_first := defIn X G a7 l7 c7 k7
    d_form := defIn X G a8 l8 c8 k8
    d_are_ins := defIn X G a9 l9 c9 k9
    d_shape_word := defIn X G a10 l10 c10 k10
    d_shape_moved := defIn X G a11 l11 c11 k11
    d_shape_step := defIn X G a12 l12 c12 k12
    d_cell := defIn X G a13 l13 c13 k13
    d_box := defIn X G a14 l14 c14 k14
    d_take := defIn X G a15 l15 c15 k15
    d_shape := defIn X G a16 l16 c16 k16
    d_went := defIn X G a17 l17 c17 k17
    g_LEAST := ⟨_, PySem.W.mg_of X G i0, _, rfl⟩
    g_GREATEST := ⟨_, PySem.W.mg_of X G i1, _, rfl⟩
    g_NAME_LENGTH := ⟨_, PySem.W.mg_of X G i2, _, rfl⟩
    g_MOST_INS := ⟨_, PySem.W.mg_of X G i3, _, rfl⟩
    g_TOP := ⟨_, PySem.W.mg_of X G i4, _, rfl⟩
    n_isinstance := PySem.W.mg_none_of X G n0
    n_int := PySem.W.mg_none_of X G n1
    n_bool := PySem.W.mg_none_of X G n2
    n_str := PySem.W.mg_none_of X G n3
    n_tuple := PySem.W.mg_none_of X G n4
    n_dict := PySem.W.mg_none_of X G n5
    n_len := PySem.W.mg_none_of X G n6
    n_max := PySem.W.mg_none_of X G n7
    n_min := PySem.W.mg_none_of X G n8
    n_repr := PySem.W.mg_none_of X G n9
    n_range := PySem.W.mg_none_of X G n10
    n_all := PySem.W.mg_none_of X G n11
    u_SoundError := ⟨S0, PySem.W.mg_of X G s00, s10, s20, s30⟩
    x_NoPart := ownX X G e0CP e1CP e1bCP e2CP e3CP e4CP e5CP e6CP e7CP e8CP e9CP e10CP e11CP x1CP x2CP x3CP
    x_NoIns := ownX X G e0CI e1CI e1bCI e2CI e3CI e4CI e5CI e6CI e7CI e8CI e9CI e10CI e11CI x1CI x2CI x3CI
    g_CHECKS := ⟨D1, ds1, dn1, f4, PySem.W.mg_of X G da1, ⟨db1, dc1, dd1⟩, de1, PySem.W.mg_of X G a4⟩
    g_AT_FIRST := ⟨D2, t0, PySem.W.mg_of X G da2, ⟨ds2, dn2, _, db2, dc2, de2, rfl⟩, fun _ => .inr ⟨_, _, _, dt0, rfl, rfl, Nat.le_of_ble_eq_true rfl, .cons ⟨_, rfl⟩ (.cons ⟨_, rfl⟩ .nil)⟩⟩
    g_STEPS := ⟨D3, f12, PySem.W.mg_of X G da3, ⟨ds3, dn3, _, db3, dc3, de3, rfl⟩, PySem.W.mg_of X G a12⟩
    w_gl := PySem.W.mg_of X G wa
    w_cls := ⟨wb, wc, wd, we⟩
    w_part := wf1
    w_kept := wf2
    w_fold := wf3
    w_init := ⟨winit, _, ⟨wg, wi_init, wj_init, wh⟩, fun_mk wk_init wl_init wm_init⟩
    w_m_sample := ⟨wsample, _, ⟨wi_sample, wj_sample, wm_sample⟩, fun_mk wk_sample wl_sample wm_sample⟩
    w_m_was_folded := ⟨wwas_folded, _, ⟨wi_was_folded, wj_was_folded, wm_was_folded⟩, fun_mk wk_was_folded wl_was_folded wm_was_folded⟩
    w_m_give := ⟨wgive, _, ⟨wi_give, wj_give, wm_give⟩, fun_mk wk_give wl_give wm_give⟩
    w_m_stands := ⟨wstands, _, ⟨wi_stands, wj_stands, wm_stands⟩, fun_mk wk_stands wl_stands wm_stands⟩ }
  have F := fun_mk (st := s_law) l18 c18 k18
  exact ⟨_, fun s u => .of_eq rfl, fun base _ _ => ok_law T F⟩
end K8
open PySem PySem.W PyProof.Rows
set_option maxRecDepth 100000 in
set_option maxHeartbeats 8000000 in
theorem PySem.Challenge.cw_cordsounds_k08_shapes_by_their_gates_holds : PySem.Challenge.rw_cordsounds_k08_shapes_by_their_gates.Holds := by
  w_on; o_law; k_head; (case hw => w_witness2)
  k_fill
  refine Gx.walk_gk (l := PySem.Challenge.rw_cordsounds_k08_shapes_by_their_gates) (n := 63) (k := 7) (x := "script") (sp := K8.spLaw) rfl (by decide) rfl ⟨rfl, by decide, by decide⟩ (fun w h Y => PySem.W.kIn_of Y) ?F ?S
  case F =>
    intro w mg fa h KX G hmg
    refine' K8.all_mk KX G hmg ?a0 ?l0 ?c0 ?k0 ?a1 ?l1 ?c1 ?k1 ?a2 ?l2 ?c2 ?k2 ?a3 ?l3 ?c3 ?k3 ?a4 ?l4 ?c4 ?k4 ?a5 ?l5 ?c5 ?k5 ?a6 ?l6 ?c6 ?k6 ?a7 ?l7 ?c7 ?k7 ?a8 ?l8 ?c8 ?k8 ?a9 ?l9 ?c9 ?k9 ?a10 ?l10 ?c10 ?k10 ?a11 ?l11 ?c11 ?k11 ?a12 ?l12 ?c12 ?k12 ?a13 ?l13 ?c13 ?k13 ?a14 ?l14 ?c14 ?k14 ?a15 ?l15 ?c15 ?k15 ?a16 ?l16 ?c16 ?k16 ?a17 ?l17 ?c17 ?k17 ?a18 ?l18 ?c18 ?k18 ?i0 ?i1 ?i2 ?i3 ?i4 ?n0 ?n1 ?n2 ?n3 ?n4 ?n5 ?n6 ?n7 ?n8 ?n9 ?n10 ?n11 ?s00 ?s10 ?s20 ?s30 ?e0CP ?e1CP ?e1bCP ?e2CP ?e3CP ?e4CP ?e5CP ?e6CP ?e7CP ?e8CP ?e9CP ?e10CP ?e11CP ?x1CP ?x2CP ?x3CP ?y1CP ?e0CI ?e1CI ?e1bCI ?e2CI ?e3CI ?e4CI ?e5CI ?e6CI ?e7CI ?e8CI ?e9CI ?e10CI ?e11CI ?x1CI ?x2CI ?x3CI ?y1CI ?da1 ?db1 ?dc1 ?dd1 ?de1 ?da2 ?db2 ?dc2 ?dd2 ?de2 ?da3 ?db3 ?dc3 ?dd3 ?de3 ?dt0 ?wa ?wb ?wc ?wd ?we ?wf1 ?wf2 ?wf3 ?wg ?wh ?wi_init ?wj_init ?wk_init ?wl_init ?wm_init ?wi_sample ?wj_sample ?wk_sample ?wl_sample ?wm_sample ?wi_was_folded ?wj_was_folded ?wk_was_folded ?wl_was_folded ?wm_was_folded ?wi_give ?wj_give ?wk_give ?wl_give ?wm_give ?wi_stands ?wj_stands ?wk_stands ?wl_stands ?wm_stands
    (case a0 => k_is)
    (case l0 => k_is)
    (case c0 => k_is)
    (case k0 => k_is)
    (case a1 => k_is)
    (case l1 => k_is)
    (case c1 => k_is)
    (case k1 => k_is)
    (case a2 => k_is)
    (case l2 => k_is)
    (case c2 => k_is)
    (case k2 => k_is)
    (case a3 => k_is)
    (case l3 => k_is)
    (case c3 => k_is)
    (case k3 => k_is)
    (case a4 => k_is)
    (case l4 => k_is)
    (case c4 => k_is)
    (case k4 => k_is)
    (case a5 => k_is)
    (case l5 => k_is)
    (case c5 => k_is)
    (case k5 => k_is)
    (case a6 => k_is)
    (case l6 => k_is)
    (case c6 => k_is)
    (case k6 => k_is)
    (case a7 => k_is)
    (case l7 => k_is)
    (case c7 => k_is)
    (case k7 => k_is)
    (case a8 => k_is)
    (case l8 => k_is)
    (case c8 => k_is)
    (case k8 => k_is)
    (case a9 => k_is)
    (case l9 => k_is)
    (case c9 => k_is)
    (case k9 => k_is)
    (case a10 => k_is)
    (case l10 => k_is)
    (case c10 => k_is)
    (case k10 => k_is)
    (case a11 => k_is)
    (case l11 => k_is)
    (case c11 => k_is)
    (case k11 => k_is)
    (case a12 => k_is)
    (case l12 => k_is)
    (case c12 => k_is)
    (case k12 => k_is)
    (case a13 => k_is)
    (case l13 => k_is)
    (case c13 => k_is)
    (case k13 => k_is)
    (case a14 => k_is)
    (case l14 => k_is)
    (case c14 => k_is)
    (case k14 => k_is)
    (case a15 => k_is)
    (case l15 => k_is)
    (case c15 => k_is)
    (case k15 => k_is)
    (case a16 => k_is)
    (case l16 => k_is)
    (case c16 => k_is)
    (case k16 => k_is)
    (case a17 => k_is)
    (case l17 => k_is)
    (case c17 => k_is)
    (case k17 => k_is)
    (case a18 => k_is)
    (case l18 => k_is)
    (case c18 => k_is)
    (case k18 => k_is)
    (case i0 => k_is)
    (case i1 => k_is)
    (case i2 => k_is)
    (case i3 => k_is)
    (case i4 => k_is)
    (case n0 => k_is)
    (case n1 => k_is)
    (case n2 => k_is)
    (case n3 => k_is)
    (case n4 => k_is)
    (case n5 => k_is)
    (case n6 => k_is)
    (case n7 => k_is)
    (case n8 => k_is)
    (case n9 => k_is)
    (case n10 => k_is)
    (case n11 => k_is)
    (case s00 => k_is)
    (case s10 => k_is)
    (case s20 => k_is)
    (case s30 => k_is)
    (case e0CP => k_is)
    (case e1CP => k_is)
    (case e1bCP => decide +kernel)
    (case e2CP => k_is)
    (case e3CP => k_is)
    (case e4CP => k_is)
    (case e5CP => k_is)
    (case e6CP => k_is)
    (case e7CP => k_is)
    (case e8CP => k_is)
    (case e9CP => k_is)
    (case e10CP => k_is)
    (case e11CP => k_is)
    (case x1CP => k_is)
    (case x2CP => k_is)
    (case x3CP => k_is)
    (case y1CP => k_is)
    (case e0CI => k_is)
    (case e1CI => k_is)
    (case e1bCI => decide +kernel)
    (case e2CI => k_is)
    (case e3CI => k_is)
    (case e4CI => k_is)
    (case e5CI => k_is)
    (case e6CI => k_is)
    (case e7CI => k_is)
    (case e8CI => k_is)
    (case e9CI => k_is)
    (case e10CI => k_is)
    (case e11CI => k_is)
    (case x1CI => k_is)
    (case x2CI => k_is)
    (case x3CI => k_is)
    (case y1CI => k_is)
    (case da1 => k_is)
    (case db1 => k_is)
    (case dc1 => k_keys)
    (case dd1 => rfl)
    (case de1 => k_is)
    (case da2 => k_is)
    (case db2 => k_is)
    (case dc2 => k_keys)
    (case dd2 => rfl)
    (case de2 => k_is)
    (case da3 => k_is)
    (case db3 => k_is)
    (case dc3 => k_keys)
    (case dd3 => rfl)
    (case de3 => k_is)
    (case dt0 => k_is)
    (case wa => k_is)
    (case wb => k_is)
    (case wc => k_is)
    (case wd => k_is)
    (case we => k_is)
    (case wf1 => k_is)
    (case wf2 => k_is)
    (case wf3 => k_is)
    (case wg => k_is)
    (case wh => k_is)
    (case wi_init => k_is)
    (case wj_init => k_is)
    (case wk_init => k_is)
    (case wl_init => k_is)
    (case wm_init => k_is)
    (case wi_sample => k_is)
    (case wj_sample => k_is)
    (case wk_sample => k_is)
    (case wl_sample => k_is)
    (case wm_sample => k_is)
    (case wi_was_folded => k_is)
    (case wj_was_folded => k_is)
    (case wk_was_folded => k_is)
    (case wl_was_folded => k_is)
    (case wm_was_folded => k_is)
    (case wi_give => k_is)
    (case wj_give => k_is)
    (case wk_give => k_is)
    (case wl_give => k_is)
    (case wm_give => k_is)
    (case wi_stands => k_is)
    (case wj_stands => k_is)
    (case wk_stands => k_is)
    (case wl_stands => k_is)
    (case wm_stands => k_is)
  case S =>
    intro K H a ns hl hS
    exact ⟨a, ns, rfl, hS, Nat.le_trans hl (by decide), fun _ => rfl⟩
