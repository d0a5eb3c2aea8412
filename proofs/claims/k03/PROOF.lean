import PyProof.Rows.All
import Wide.All
import OpenK.AllK
import Wide.FinOn
import PyProof.EqAt
import PyProof.EqKinds
import PyProof.TupleCall
import HandS.ForMost
import HandS.ForExc
import HandS.Evl
import HandS.Steps
import HandS.Wide
import HandS.WideBits
import HandS.IsInst
import HandS.Defaults
import HandS.TryMany
import HandS.ExcField
import HandS.ExcIs
import HandS.ExcInit
import HandS.RaiseMore
import HandS.TupAny
import HandS.TupLe
import HandS.Style
import HandS.Flow
import HandS.ClsMeth
import KE.KExcIs
import HandS.Walk
import HandS.Ends
import HandS.Dict
import HandS.Small
import HandS.ExcOwn
import PySem.Challenge.RW_cordsounds_k03_tables_and_noise
set_option Elab.async false
set_option linter.all false
set_option maxRecDepth 100000
set_option maxHeartbeats 4000000
namespace Gx
open PySem PySem.Spec PyProof.Rows L2

/-! ### defs that are called where no repr is under way -/
structure FnG (P : Program) (w : World) (K : PySem.W.Frag) (mg : Str → Option Value) (base : Heap) (CX : CXT) (k : Nat) (f : Addr) (fd : FuncData) (ps : List Str) (sp : Sp) : Prop where
  len : ∀ vs H Q E, sp vs H Q E → vs.length = ps.length
  go : ∀ (A : Around) (outer : List Env) (s : Shared) (H : Hp) (args : Args) (us : List Value) (vs : List V) (Q : VK) (E : XK),
    A.guards = some [] → Room k A → Env0 P w K mg base A outer s H → BindsTo s fd args (ps.zip us) →
    Vals vs us → sp vs H Q E → codeAny (model P w) A (.call (.ref f) args) (CR CX outer P w H s Q E) s
section
variable {P : Program} {w : World} {K : PySem.W.Frag} {mg : Str → Option Value} {base : Heap} {CX : CXT} {k : Nat} {f : Addr}
  {fd : FuncData} {ps : List Str} {sp : Sp}
theorem FnG.of (F : FnOk P w K mg base CX k f fd ps sp) : FnG P w K mg base CX k f fd ps sp :=
  ⟨F.len, fun A o s H args us vs Q E _ => F.run A o s H args us vs Q E⟩
theorem FnG.up (F : FnG P w K mg base CX k f fd ps sp) {j : Nat} (h : k ≤ j) : FnG P w K mg base CX j f fd ps sp :=
  ⟨F.len, fun A o s H args us vs Q E g hr => F.go A o s H args us vs Q E g (hr.mono h)⟩
/-- a def of the text by its body's reading -/
theorem fnG {x qual : Str} {st : Stmt} {N : List Str} (F : Fun K x qual st f fd) (S : FnScope N ps (defScope st)) (len : ∀ vs H Q E, sp vs H Q E → vs.length = ps.length)
    (body : ∀ (cdv : Value) (A : Around) (outer : List Env) (s : Shared) (H : Hp) (vs : List V) (Q : VK) (E : XK),
      A.guards = some [] → Room k (A.deeper (envOfC qual (defScope st) s.heap.objs.size f cdv)) → sp vs H Q E →
      ∃ t, PSs (cxOf CX P w K mg base N qual (defScope st) f cdv A outer s H E) (defBody st) t ∧
        t { nx := fun _ H' => Q .non H', rt := Q } (start N vs) H) :
    FnG P w K mg base CX (k + 1) f fd ps sp := by
  obtain ⟨oc, od, kV, doc, pm, an, cdv, ct, osl, rfl, lk, hcd⟩ := F.ex
  refine ⟨len, fun A outer s H args us vs Q E hg hr e0 hb r hsp => ?_⟩
  have keep := fun b o e => (e0.bs b o e).1
  refine Att.call_fn (e0.mod.kin.keeps keep) (e0.mod.nolimit.keeps keep) lk hcd hr.depth hb ?_ (fun s1 x => ?_) S.co S.gen S.kind
  · rw [List.all_eq_true]
    rintro ⟨n, v⟩ hy
    rcases S.par n (List.of_mem_zip hy).1 with q | q <;> simp [q]
  · obtain ⟨t, ht, hq⟩ := body cdv A outer s H vs Q E hg (hr.deeper _) hsp
    have I := inv_start (CX := CX) (E := E) S hr.hd e0 (len _ _ _ _ hsp) r x
    refine wpAny_mono (ht.run [] s1 (start N vs) H _ I hq) ?_ (fun e s' z => z)
    intro fl s' hs
    cases fl with
    | ret u =>
      obtain ⟨v, _, H', J, rv, q⟩ := hs
      exact ⟨v, H', J.os, J.bare, J.base, J.hok, rv, q⟩
    | next =>
      obtain ⟨_, H', J, q⟩ := hs
      exact ⟨.non, H', J.os, J.bare, J.base, J.hok, rfl, q⟩
    | brk => exact hs.elim fun _ z => z.elim fun _ z => z.2.elim
    | cont => exact hs.elim fun _ z => z.elim fun _ z => z.2.elim
end

/-! ### calls of module functions -/
/-- a def of the module as its callers see it -/
structure Cal (P : Program) (w : World) (K : PySem.W.Frag) (mg : Str → Option Value) (base : Heap) (CX : CXT) (k : Nat) (x : Str) (ps : List Str) (sp : Sp) : Prop where
  ex : ∃ f fd, FnG P w K mg base CX k f fd ps sp ∧ mg x = some (.ref f) ∧ PySem.W.keepIn K (.ref f) = true ∧ Binds K fd ps []
/-- the same with keywords: ks the names as they are written, g puts their values into the parameters' order -/
structure CalK (P : Program) (w : World) (K : PySem.W.Frag) (mg : Str → Option Value) (base : Heap) (CX : CXT) (k : Nat) (x : Str) (ps : List Str) (sp : Sp) (ks : List Str) (gV : List V → List V → List V) : Prop where
  ex : ∃ f fd g, FnG P w K mg base CX k f fd ps sp ∧ mg x = some (.ref f) ∧ PySem.W.keepIn K (.ref f) = true ∧ KBinds K fd ps ks g gV
def tG (sp : Sp) (E : L2.St → XK) (t : TA) : TE := fun σ H Q => t σ H fun vs H1 => sp vs H1 Q (E σ)
def tK (sp : Sp) (gV : List V → List V → List V) (E : L2.St → XK) (t : TA) : TE := fun σ H Q => t σ H fun zs H1 => sp (gV [] zs) H1 Q (E σ)
section
variable {X : Cx} {CX : CXT} {k : Nat} {ps ks : List Str} {sp : Sp} {x : Str} {p pos : Pos} {e : Expr} {es : List Expr} {kws : List Keyword} {t : TA} {E : L2.St → XK}
theorem pe_g (C : Cal X.prog X.w X.K X.mg X.base CX k x ps sp) (hG : X.A.guards = some []) (hr : Room k X.A) (hx : ∀ σ, PassesAt CX X σ (E σ)) (ha : PA X (e :: es) t)
    (hg : Gl X x := by rfl) (hdb : (x == ("__debug__" : Str)) = false := by decide)
    (he : starEach (e :: es) X.env = (false, eval e X.env) :: starEach es X.env := by rfl)
    (hpl : (backTo pos (starEach es X.env)).any (·.1) = false := by rfl) : PE X (.Call (.Name x p) (e :: es) [] pos) (tG sp E t) := by
  obtain ⟨f, fd, F, hm, hk, hb⟩ := C.ex
  refine ⟨fun pins s σ H Q I h => wpAny_Call_Name_kw (ld_glob I hg hm ?_ hdb)⟩
  refine PySem.W.callWith_K (h₀ := X.base) I.ok.mod.kin hk ?_ he hpl
  refine thn (ha.run pos pins s σ H _ I h) ?_
  rintro us s1 ⟨vs, H1, I1, r, q⟩
  refine ⟨I1.kIn, ?_⟩
  have hl : us.length = ps.length := r.length.symm.trans (F.len _ _ _ _ q)
  have b := hb s1 us I1.kIn (by simpa using hl)
  rw [List.append_nil] at b
  refine wpAny_call (codeAny_mono (F.go X.A X.stack s1 H1 ⟨us, []⟩ us vs Q (E σ) hG hr I1.env0 b r q) ?_)
  intro r s' hq
  match r, hq with
  | .error e, hq => exact hx σ pins H1 s1 e s' I1 hq
  | .ok (.ret u), hq => exact I1.after hq
  | .ok .next, hq => exact hq.elim
  | .ok .brk, hq => exact hq.elim
  | .ok .cont, hq => exact hq.elim
theorem pe_k {gV : List V → List V → List V} (C : CalK X.prog X.w X.K X.mg X.base CX k x ps sp ks gV) (hG : X.A.guards = some []) (hr : Room k X.A) (hx : ∀ σ, PassesAt CX X σ (E σ)) (hkw : PK X kws t)
    (hg : Gl X x := by rfl) (hall : (backToKw pos (keywordEach kws X.env)).all (·.1.isSome) = true := by rfl)
    (hks : (backToKw pos (keywordEach kws X.env)).filterMap (·.1) = ks := by rfl) (hdb : (x == ("__debug__" : Str)) = false := by decide)
    (hpl : ((backTo pos (starEach [] X.env)).any (·.1) || (backToKw pos (keywordEach kws X.env)).any (·.1.isNone)) = false := by rfl) :
    PE X (.Call (.Name x p) [] kws pos) (tK sp gV E t) := by
  obtain ⟨f, fd, g, F, hm, hk, hb⟩ := C.ex
  refine ⟨fun pins s σ H Q I h => wpAny_Call_Name_kw (ld_glob I hg hm ?_ hdb)⟩
  refine PySem.W.callWith_KW0 (h₀ := X.base) I.ok.mod.kin hk hall ?_ hpl
  refine thn (hkw.run pos pins s σ H _ I h) ?_
  rintro ws s1 ⟨zs, H1, I1, rz, q⟩
  refine ⟨I1.kIn, ?_⟩
  rw [hks]
  have r2 := hb.rel (vs := []) (us := []) .nil rz
  have hl : (g [] ws).length = ps.length := r2.length.symm.trans (F.len _ _ _ _ q)
  refine wpAny_call (codeAny_mono (F.go X.A X.stack s1 H1 ⟨[], ks.zip ws⟩ (g [] ws) _ Q (E σ) hG hr I1.env0 (hb.to s1 [] ws I1.kIn hl) r2 q) ?_)
  intro r s' hq
  match r, hq with
  | .error e, hq => exact hx σ pins H1 s1 e s' I1 hq
  | .ok (.ret u), hq => exact I1.after hq
  | .ok .next, hq => exact hq.elim
  | .ok .brk, hq => exact hq.elim
  | .ok .cont, hq => exact hq.elim
theorem passS {σ : L2.St} : PassesAt (L2.CX X.prog X.w) X σ E0 := fun pins H s e s' I c => passL pins σ H s e s' I c
end

/-! ### what a value shows: repr -/
mutual
/-- v is the datum, over the tracked heap -/
def IsD (H : Hp) : PyData → V → Prop
  | .none, v => v = .non
  | .bool b, v => v = .bl b
  | .int i, v => v = .int i
  | .str x, v => v = .str x
  | .list ds, v => ∃ a xs, v = .ref a ∧ H a = some (.lst xs) ∧ AllD H ds xs
  | .tuple ds, v => ∃ a xs, v = .ref a ∧ H a = some (.tup xs) ∧ AllD H ds xs
  | .dict kvs, v => ∃ a es, v = .ref a ∧ H a = some (.dK es) ∧ DctD H kvs es
def AllD (H : Hp) : List PyData → List V → Prop
  | [], xs => xs = []
  | d :: ds, xs => ∃ x r, xs = x :: r ∧ IsD H d x ∧ AllD H ds r
def DctD (H : Hp) : List (PyData × PyData) → List (Key × V) → Prop
  | [], es => es = []
  | (k, d) :: r, es => ∃ y z es', es = (y, z) :: es' ∧ IsD H k (kV y) ∧ IsD H d z ∧ DctD H r es'
end
section
variable {P : Program} {w : World} {H : Hp} {h : Heap}
mutual
theorem reads_of (ok : HOk P w H h) : ∀ (d : PyData) (v : V) (u : Value), d.hasDict = false → IsD H d v → RelV v u → ∃ as, Reads h u d as
  | .none, v, u, _, i, r => by
    unfold IsD at i
    subst i
    obtain rfl : u = Value.none := r
    exact ⟨_, .none⟩
  | .bool b, v, u, _, i, r => by
    unfold IsD at i
    subst i
    obtain rfl : u = Value.bool b := r
    exact ⟨_, .bool b⟩
  | .int n, v, u, _, i, r => by
    unfold IsD at i
    subst i
    obtain ⟨t, rfl⟩ : ∃ t, u = Value.int n t := r
    exact ⟨_, .int n t⟩
  | .str x, v, u, _, i, r => by
    unfold IsD at i
    subst i
    obtain ⟨t, rfl⟩ : ∃ t, u = Value.str x t := r
    exact ⟨_, .str x t⟩
  | .list ds, v, u, hd, i, r => by
    unfold IsD at i
    obtain ⟨a, xs, rfl, ha, hs⟩ := i
    obtain rfl : u = Value.ref a := r
    obtain ⟨_, its, n, rv, ho⟩ : ObjOk P w H h a (.lst xs) := ok a _ ha
    obtain ⟨as, q⟩ := readsAll_of ok ds xs its (by simpa [PyData.hasDict] using hd) hs rv
    exact ⟨_, .list ho rfl rfl q⟩
  | .tuple ds, v, u, hd, i, r => by
    unfold IsD at i
    obtain ⟨a, xs, rfl, ha, hs⟩ := i
    obtain rfl : u = Value.ref a := r
    obtain ⟨_, its, rv, o, ho, hc, n, hdt⟩ : ObjOk P w H h a (.tup xs) := ok a _ ha
    obtain ⟨as, q⟩ := readsAll_of ok ds xs its (by simpa [PyData.hasDict] using hd) hs rv
    exact ⟨_, .tuple ho hc hdt q⟩
  | .dict kvs, v, u, hd, i, r => by simp [PyData.hasDict] at hd
theorem readsAll_of (ok : HOk P w H h) : ∀ (ds : List PyData) (xs : List V) (us : List Value), PyData.hasDictAll ds = false → AllD H ds xs → Vals xs us → ∃ as, ReadsAll h us ds as
  | [], xs, us, _, i, r => by
    unfold AllD at i
    subst i
    cases r
    exact ⟨_, .nil⟩
  | d :: ds, xs, us, hd, i, r => by
    unfold AllD at i
    obtain ⟨x, t, rfl, i1, i2⟩ := i
    cases r with
    | cons r1 r2 =>
      have hd' : d.hasDict = false ∧ PyData.hasDictAll ds = false := by simpa [PyData.hasDictAll] using hd
      obtain ⟨as, q1⟩ := reads_of ok d x _ hd'.1 i1 r1
      obtain ⟨bs, q2⟩ := readsAll_of ok ds t _ hd'.2 i2 r2
      exact ⟨_, .cons q1 q2⟩
end
end
end Gx
set_option linter.all false
set_option maxRecDepth 100000
set_option maxHeartbeats 4000000
namespace Gx
open PySem PySem.Spec PyProof.Rows L2
section
variable {X : Cx}
/-- what repr asks: the one value as a datum without dicts -/
def rShow : List V → Hp → VK → Prop := fun xs H Q => ∃ v d, xs = [v] ∧ IsD H d v ∧ d.hasDict = false ∧ d.showable = true ∧ d.depth ≤ 20 ∧ d.shown.length ≤ sizeLine ∧ Q (.str d.shown) H
theorem call_show (hG : X.A.guards = some []) (hu : X.A.units + 64 < cLine) : CallR X (.builtin "repr") rShow := by
  intro pins s σ H xs us Q I r h
  obtain ⟨v, d, rfl, hd, hn, hs, hp, hl, q⟩ := h
  obtain ⟨u, rfl, ru⟩ : ∃ u, us = [u] ∧ RelV v u := by
    cases r with
    | cons r1 r2 => cases r2; exact ⟨_, rfl, r1⟩
  have big : ∀ a, u = Value.ref a → wpAny (model X.prog X.w) X.A (call (.builtin "repr") [u]) (EP X pins σ Q) X.xe s := by
    rintro a rfl
    obtain ⟨as, rd⟩ := reads_of I.hok d v _ hn hd ru
    refine repr_of_reads' rd hs (PyData.noDict_hsm hn) hG (by omega) (fun _ _ z => z) ?_ hl
    intro h' t tk keep
    exact ⟨.str d.shown, H, I.kept (t' := tk) keep, ⟨t, rfl⟩, q⟩
  cases d with
  | none =>
    unfold IsD at hd
    subst hd
    obtain rfl : u = Value.none := ru
    exact PySem.P.repr_of_none ⟨.str _, H, I.tok _, ⟨_, rfl⟩, by simpa only [PyData.shown] using q⟩
  | bool b =>
    unfold IsD at hd
    subst hd
    obtain rfl : u = Value.bool b := ru
    refine PySem.P.repr_of_bool ⟨.str _, H, I.tok _, ⟨_, rfl⟩, ?_⟩
    simpa only [PyData.shown] using q
  | int i =>
    unfold IsD at hd
    subst hd
    obtain ⟨t, rfl⟩ : ∃ t, u = Value.int i t := ru
    have hz : i.natAbs.log2 < 1920 := by simpa [PyData.showable] using hs
    refine PySem.P.repr_of_int hz ⟨.str _, H, I.tok _, ⟨_, rfl⟩, ?_⟩
    simpa only [PyData.shown] using q
  | str x =>
    unfold IsD at hd
    subst hd
    obtain ⟨t, rfl⟩ : ∃ t, u = Value.str x t := ru
    have hl' : (reprText x).length ≤ sizeLine := by simpa only [PyData.shown] using hl
    refine PySem.P.repr_of_str ⟨.str _, H, I.tok _, ⟨_, rfl⟩, ?_⟩ hl'
    simpa only [PyData.shown] using q
  | list ds =>
    unfold IsD at hd
    obtain ⟨a, ys, rfl, _⟩ := hd
    exact big a ru
  | tuple ds =>
    unfold IsD at hd
    obtain ⟨a, ys, rfl, _⟩ := hd
    exact big a ru
  | dict kvs => simp [PyData.hasDict] at hn
end

/-! ### exceptions whose __init__ calls that of an own class above -/
/-- S.__init__ is ValueError's, S an own class -/
structure UpC (K : PySem.W.Frag) (mg : Str → Option Value) (x : Str) (S : Addr) : Prop where
  gl : mg x = some (.ref S)
  ga : PySem.W.specialIn K (.ref S) "__getattribute__" = some (some (.builtin "type.__getattribute__"))
  rd : PySem.W.readsIn K S (.type "type") = true
  vl : PySem.W.findCls K (.ref S) (.type "type") "__init__" = some (.val (.builtin "ValueError.__init__"))
section
variable {X : Cx} {x : Str} {S : Addr} {e : Expr} {es : List Expr} {ta : TA} {p1 p2 pos : Pos}
theorem pe_upinit {pl : Sem Bool} (U : UpC X.K X.mg x S) (ha : PA X (e :: es) ta) (hg : Gl X x := by rfl)
    (hc : eval (.Call (.Attribute (.Name x p1) "__init__" p2) (e :: es) [] pos) X.env = (do
      let o ← eval (.Name x p1) X.env
      standAt p2.atName
      let (f, first) ← holding [o] (getMethod o "__init__" pl)
      callWith pos f first (backTo pos (starEach (e :: es) X.env)) (backToKw pos (keywordEach [] X.env))) := by rfl)
    (hdb : (x == ("__debug__" : Str)) = false := by decide)
    (he : starEach (e :: es) X.env = (false, eval e X.env) :: starEach es X.env := by rfl)
    (hpl : (backTo pos (starEach es X.env)).any (·.1) = false := by rfl) :
    PE X (.Call (.Attribute (.Name x p1) "__init__" p2) (e :: es) [] pos) (tVeI X.K ta) := by
  refine ⟨fun pins s σ H Q I h => PySem.W.methodCall_KW (ld_glob I hg U.gl ?_ hdb) hc⟩
  refine PySem.W.method_cls I.kIn U.ga (PySem.W.cls_value I.kIn U.rd U.vl (by decide +kernel) ?_)
  show wpAny _ _ (callWith pos (Value.builtin "ValueError.__init__") [] (backTo pos (starEach (e :: es) X.env)) []) _ _ _
  refine PyProof.Rows.callWith_method1 (thn (ha.run pos pins _ σ H _ (I.tok _) h) ?_) he hpl
  rintro us s1 ⟨vs, H1, I1, r1, a, C, ws, rfl, hl, T, ea, q⟩
  cases r1 with
  | @cons _ u0 _ ur ra rest =>
    obtain rfl : u0 = Value.ref a := ra
    refine oinit_ok T I1 ea ?_ fun s' J => ⟨.non, H1, J, rfl, q⟩
    have := Paired.length rest
    rw [sizeLine_eq]
    omega
end
end Gx
set_option linter.all false
set_option maxRecDepth 100000
set_option maxHeartbeats 4000000
namespace Gx
open PySem PySem.Spec PyProof.Rows L2
/-! ### readings, step by step -/
section
variable {K : PySem.W.Frag} {σ : L2.St} {H : Hp} {Q : VK} {D : Ends} {ta tb tc te to ti : TE} {tt tu : TT} {t u : TS} {g : TG} {r r' : R2} {v x y : V} {i : Nat} {al : TA} {QB : Bool → Hp → Prop} {QL : List V → Hp → Prop} {QS : L2.St → Hp → Prop}
theorem r_var (h : σ[i]? = some (some v)) (q : Q v H) : tVar i σ H Q := ⟨v, h, q⟩
theorem r_c (q : Q v H) : tC v σ H Q := q
theorem r_op (h : ta σ H fun x H1 => tb σ H1 fun y H2 => r x y H2 Q) : tOp r ta tb σ H Q := h
theorem r_un {f : V → Hp → VK → Prop} (h : ta σ H fun x H1 => f x H1 Q) : tUn f ta σ H Q := h
theorem r_I0 {f : Int → Int → V} {a b : Int} (q : Q (f a b) H) : rI0 f (.int a) (.int b) H Q := ⟨a, b, rfl, rfl, q⟩
theorem r_I {C : Int → Int → Prop} {f : Int → Int → V} {a b : Int} (hc : C a b) (q : Q (f a b) H) : rI C f (.int a) (.int b) H Q := ⟨a, b, rfl, rfl, hc, q⟩
theorem r_fdivK {f : Int → Int → V} {a b : Int} (hc : decide (0 < b ∧ b < 1073741824) = true) (q : Q (f a b) H) : rI CDiv f (.int a) (.int b) H Q := ⟨a, b, rfl, rfl, (of_decide_eq_true hc : 0 < b ∧ b < 1073741824), q⟩
theorem r_modK {f : Int → Int → V} {a b : Int} (hc : decide (0 < b) = true) (q : Q (f a b) H) : rI (fun _ j => 0 < j) f (.int a) (.int b) H Q := ⟨a, b, rfl, rfl, of_decide_eq_true hc, q⟩
theorem r_mulL {f : Int → Int → V} {a b : Int} (hc : decide (-(2 ^ 64) < a ∧ a < 2 ^ 64) = true) (q : Q (f a b) H) : rI CMul f (.int a) (.int b) H Q := ⟨a, b, rfl, rfl, .inl (of_decide_eq_true hc), q⟩
theorem r_mulR {f : Int → Int → V} {a b : Int} (hc : decide (-(2 ^ 64) < b ∧ b < 2 ^ 64) = true) (q : Q (f a b) H) : rI CMul f (.int a) (.int b) H Q := ⟨a, b, rfl, rfl, .inr (of_decide_eq_true hc), q⟩
theorem r_powK {f : Int → Int → V} {a b : Int} (hc : decide (0 ≤ b ∧ b ≤ 1000000 ∧ a.natAbs < 2 ^ 64) = true) (q : Q (f a b) H) : rI CPow f (.int a) (.int b) H Q := ⟨a, b, rfl, rfl, (of_decide_eq_true hc : 0 ≤ b ∧ b ≤ 1000000 ∧ a.natAbs < 2 ^ 64), q⟩
theorem r_neg {f : Int → V} {a : Int} (q : Q (f a) H) : rU f (.int a) H Q := ⟨a, rfl, q⟩
theorem r_eq (hs : scal x y = true) (q : Q (.bl (decide (x = y))) H) : rEq x y H Q := ⟨hs, q⟩
theorem r_ne (hs : scal x y = true) (q : Q (.bl (!decide (x = y))) H) : rNe x y H Q := ⟨hs, q⟩
theorem r_test (h : ta σ H fun x H' => ∃ k, x = .bl k ∧ QB k H') : tTest ta σ H QB := h
theorem r_B (h : ta σ H fun x H' => ∃ k, x = .bl k ∧ QB k H') : L2.tB ta σ H QB := h
theorem r_bl {b : Bool} (q : QB b H) : ∃ k, V.bl b = V.bl k ∧ QB k H := ⟨b, rfl, q⟩
theorem r_blx {b : Bool} {X : Bool → Prop} (q : X b) : ∃ k, V.bl b = V.bl k ∧ X k := ⟨b, rfl, q⟩
theorem r_seq (h : t { D with nx := u D } σ H) : tSeq t u D σ H := h
theorem r_ret (h : te σ H D.rt) : tRet te D σ H := h
theorem r_asg (h : te σ H fun x H1 => g x σ H1 D.nx) : tAsg te g D σ H := h
theorem r_name (q : QS (σ.set i (some v)) H) : gName i v σ H QS := q
theorem r_gsub {ts : TSet} (h : to σ H fun o H1 => ti σ H1 fun j H2 => ts o j v H2 fun H3 => QS σ H3) : gSub to ti ts v σ H QS := h
theorem r_setL {p : Addr} {xs : List V} {j : Nat} {k : Int} {QH : Hp → Prop} (h : H p = some (.lst xs)) (hj : ixN xs.length k = some j) (q : QH (upd H p (.lst (xs.set j v)))) : rSetL (.ref p) (.int k) v H QH :=
  ⟨p, xs, k, j, rfl, rfl, h, hj, q⟩
theorem r_if (h : tt σ H fun b H1 => if b = true then t D σ H1 else u D σ H1) : tIfS tt t u D σ H := h
theorem r_next (q : D.nx σ H) : tNext D σ H := q
theorem r_drop (h : te σ H fun _ H1 => D.nx σ H1) : tDrop te D σ H := h
theorem r_cb {f : List V → Hp → VK → Prop} (h : al σ H fun vs H1 => f vs H1 Q) : tCB f al σ H Q := h
theorem r_nil (q : QL [] H) : tNil σ H QL := q
theorem r_cons (h : te σ H fun x H1 => al σ H1 fun xs H2 => QL (x :: xs) H2) : tCons te al σ H QL := h
theorem r_g {sp : Sp} {E : L2.St → XK} (h : al σ H fun vs H1 => sp vs H1 Q (E σ)) : tG sp E al σ H Q := h
theorem r_k {sp : Sp} {gV : List V → List V → List V} {E : L2.St → XK} (h : al σ H fun zs H1 => sp (gV [] zs) H1 Q (E σ)) : tK sp gV E al σ H Q := h
theorem r_lst (h : al σ H fun xs H1 => xs.length ≤ sizeLine ∧ ∀ p, H1 p = none → Q (.ref p) (upd H1 p (.lst xs))) : tLst al σ H Q := h
theorem r_tup (h : al σ H fun xs H1 => xs.length ≤ sizeLine ∧ ∀ p, H1 p = none → Q (.ref p) (upd H1 p (.tup xs))) : tTup al σ H Q := h
theorem r_new {xs : List V} {C : Addr → Prop} (hz : Nat.ble xs.length 1000 = true) (q : ∀ p, H p = none → C p) : xs.length ≤ sizeLine ∧ ∀ p, H p = none → C p := ⟨Nat.le_trans (Nat.le_of_ble_eq_true hz) (by decide), q⟩
theorem at_pos {α : Type} {xs : List α} {d : Int} (h0 : 0 ≤ d) (h : d.toNat < xs.length) : atI xs d = some xs[d.toNat] := by
  have q := atI_nat (xs := xs) (j := d.toNat) (v := xs[d.toNat]) (List.getElem?_eq_getElem h)
  rwa [Int.toNat_of_nonneg h0] at q
theorem r_ixL {p : Addr} {xs : List V} {a : Int} {j : Nat} (h : SqL K H p xs) (ha : a = (j : Int)) (hx : xs[j]? = some v) (q : Q v H) : rIxL K (.ref p) (.int a) H Q := ⟨p, xs, a, v, rfl, rfl, h, at_of ha hx, q⟩
theorem r_ixLs {p : Addr} {xs : List V} {a : Int} {j : Nat} (h : H p = some (.lst xs)) (ha : a = (j : Int)) (hx : xs[j]? = some v) (q : Q v H) : rIxL K (.ref p) (.int a) H Q := r_ixL (SqL.of h) ha hx q
theorem r_andV (h : ta σ H fun x H1 => ∃ c, x = .bl c ∧ if c = true then tb σ H1 Q else Q (.bl false) H1) : tAndV ta tb σ H Q := h
theorem r_orV (h : ta σ H fun x H1 => ∃ c, x = .bl c ∧ if c = true then Q (.bl true) H1 else tb σ H1 Q) : tOrV ta tb σ H Q := h
theorem r_notV (h : ta σ H fun x H1 => ∃ c, x = .bl c ∧ Q (.bl (!c)) H1) : tNotV ta σ H Q := h
theorem r_ifE (h : tt σ H fun c H1 => if c = true then ta σ H1 Q else tb σ H1 Q) : tIf tt ta tb σ H Q := h
theorem r_and (h : tt σ H fun b H1 => if b = true then tu σ H1 QB else QB false H1) : tAnd tt tu σ H QB := h
theorem r_or (h : tt σ H fun b H1 => if b = true then QB true H1 else tu σ H1 QB) : tOr tt tu σ H QB := h
theorem r_not (h : tt σ H fun b H1 => QB (!b) H1) : tNot tt σ H QB := h
theorem r_chain (h : ta σ H fun x H1 => tb σ H1 fun y H2 => r x y H2 fun z H3 => ∃ k, z = .bl k ∧ (if k = true then tc σ H3 fun w H4 => r' y w H4 Q else Q (.bl false) H3)) : tChain r r' ta tb tc σ H Q := h
theorem r_sl {f : V → Option Int → Option Int → Hp → VK → Prop} {tl th : TO} (h : te σ H fun x H1 => tl σ H1 fun l H2 => th σ H2 fun u H3 => f x l u H3 Q) : tSl f te tl th σ H Q := h
theorem r_part {QO : Option Int → Hp → Prop} (h : te σ H fun x H1 => ∃ i, x = .int i ∧ QO (some i) H1) : tPart te σ H QO := h
theorem r_nop {QO : Option Int → Hp → Prop} (h : QO none H) : tNoPart σ H QO := h
theorem r_nx {a b c : L2.St → Hp → Prop} {d : VK} (q : a σ H) : (Ends.mk a d b c).nx σ H := q
theorem r_rt {a b c : L2.St → Hp → Prop} {d : VK} (q : d v H) : (Ends.mk a d b c).rt v H := q
theorem r_ct {a b c : L2.St → Hp → Prop} {d : VK} (q : c σ H) : (Ends.mk a d b c).ct σ H := q
theorem r_ei {b : Int} {X : Int → Prop} (q : X b) : ∃ k, V.int b = V.int k ∧ X k := ⟨b, rfl, q⟩
end
/-! ### the box -/
/-- a box that was drawn from n times at most stands at b -/
def Bx (n : Nat) (H : Hp) (b : Addr) : Prop := ∃ x y z : Int, H b = some (.lst [.int x, .int y, .int z]) ∧ 0 ≤ x ∧ 0 ≤ y ∧ y < 2147483648 ∧ 0 ≤ z ∧ z ≤ (n : Int)
/-- all but b stands as it stood -/
def Off (b : Addr) (H H' : Hp) : Prop := ∀ c o, c ≠ b → H c = some o → H' c = some o
theorem Off.refl {b : Addr} {H : Hp} : Off b H H := fun _ _ _ h => h
theorem Off.trans {b : Addr} {H H1 H2 : Hp} (p : Off b H H1) (q : Off b H1 H2) : Off b H H2 := fun c o n h => q c o n (p c o n h)
theorem Off.upd {b : Addr} {H : Hp} {o : HO} : Off b H (upd H b o) := fun c u n h => by rw [upd_ne n]; exact h
theorem Off.new {b p : Addr} {H : Hp} {o : HO} (h : H p = none) : Off b H (L2.upd H p o) := fun c u n hc => by
  rw [upd_ne (ne_of_none hc h)]
  exact hc
theorem Bx.new {n : Nat} {b p : Addr} {H : Hp} {o : HO} (B : Bx n H b) (h : H p = none) : Bx n (upd H p o) b := by
  obtain ⟨x, y, z, hb, r⟩ := B
  exact ⟨x, y, z, by rw [upd_ne (ne_of_none hb h)]; exact hb, r⟩
theorem Bx.ne {n : Nat} {H : Hp} {b p : Addr} (B : Bx n H b) (h : H p = none) : p ≠ b := fun z => by
  obtain ⟨_, _, _, hb, _⟩ := B
  rw [z, hb] at h
  cases h
theorem Bx.up {n m : Nat} {b : Addr} {H : Hp} (B : Bx n H b) (h : n ≤ m) : Bx m H b := by
  obtain ⟨x, y, z, hb, r1, r2, r3, r4, r5⟩ := B
  exact ⟨x, y, z, hb, r1, r2, r3, r4, by omega⟩
/-- a draw: a number below size, the box drawn from once more -/
def spTake : Sp := fun vs H Q _ => ∃ (b : Addr) (size : Int) (n : Nat), vs = [.ref b, .int size] ∧ 0 < size ∧ size < 2 ^ 200 ∧ Bx n H b ∧ n < 100000 ∧
  ∀ (d : Int) (H' : Hp), 0 ≤ d → d < size → Bx (n + 1) H' b → Off b H H' → Q (.int d) H'
end Gx
set_option linter.all false
set_option maxRecDepth 100000
set_option maxHeartbeats 4000000
namespace Gx
open PySem PySem.Spec PyProof.Rows L2
/-! ### a constant of the module; a built-in name -/
theorem pe_gc {X : Cx} {x : Str} {v : V} {pos : Pos} (h : ∃ u, X.mg x = some u ∧ RelV v u) (hg : Gl X x := by rfl) (hd : (x == ("__debug__" : Str)) = false := by decide) : PE X (.Name x pos) (tC v) := by
  obtain ⟨u, hm, r⟩ := h
  exact pe_glob hg hm r hd
theorem pe_tyn {X : Cx} {x : Str} {pos : Pos} (T : String) (hm : X.mg x = none) (hv : bootBuiltins x = some (.type T)) (hg : Gl X x := by rfl) (hn : x ≠ "__name__" := by decide) (hd : (x == ("__debug__" : Str)) = false := by decide) : PE X (.Name x pos) (tC (.ty T)) :=
  pe_bltn hg hm hv rfl hn hd
/-! ### isinstance, exceptions of own classes among the values -/
/-- at a an exception of the class C, made, with its own dict -/
def XAt (K : PySem.W.Frag) (H : Hp) (a C : Addr) : Prop := ∃ d fs, H a = some (exo a C (some d)) ∧ H d = some (exd d fs) ∧ ExcC K C
/-- whether v is an instance of the built-in type T -/
def IsI (K : PySem.W.Frag) (H : Hp) (v : V) (T : String) (b : Bool) : Prop :=
  (∃ t, TyX K H v t ∧ PySem.W.kitOne K t (.type T) = some b) ∨ ∃ a C, v = .ref a ∧ XAt K H a C ∧ PySem.W.kitOne K (.ref C) (.type T) = some b
def rIs2 (K : PySem.W.Frag) : List V → Hp → VK → Prop := fun xs H Q => ∃ v T b, xs = [v, .ty T] ∧ IsI K H v T b ∧ Q (.bl b) H
theorem call_is2 {X : Cx} : CallR X (.builtin "isinstance") (rIs2 X.K) := by
  intro pins s σ H xs us Q I r h
  obtain ⟨v, T, b, rfl, hi, q⟩ := h
  rcases hi with ⟨t, ty, e⟩ | ⟨a, C, rfl, ⟨d, fs, ha, hd, ec⟩, e⟩
  · exact call_isi pins s σ H _ us Q I r ⟨v, .ty T, t, .type T, b, rfl, .ty T, ty, e, q⟩
  · cases r with
    | cons r1 r2 =>
      cases r2 with
      | cons r2 r3 =>
        cases r3
        rename_i u1 u2
        obtain rfl : u1 = Value.ref a := r1
        obtain rfl : u2 = Value.type T := r2
        obtain ⟨t0, ho⟩ := exo_at I.hok ha
        obtain ⟨mA, hns, _⟩ := exd_at I.hok hd
        obtain ⟨od, es, ep, hod, _⟩ := hns
        have J : PySem.W.InstAt s.heap a _ C (some od) := ⟨ho, rfl, rfl, hod⟩
        exact PySem.W.kia_one (PySem.W.kitx_exc (od := some od) (by obtain ⟨cd, hc, _⟩ := PySem.W.any_some ec.hd; rw [hc]; rfl) ec.hg ec.hk ec.hs ec.ha ec.hn ec.ht ec.hm)
          I.kIn J e (fun z => nomatch z) fun tk => ⟨.bl b, H, I.tok tk, rfl, q⟩
/-- of the built-in kinds -/
theorem isI_ty {K : PySem.W.Frag} {H : Hp} {v : V} {t T : String} {b : Bool} (h : TyX K H v (.type t)) (e : kitB t T = some b) : IsI K H v T b := .inl ⟨_, h, kit_ty e⟩
theorem isI_int {K : PySem.W.Frag} {H : Hp} {i : Int} {T : String} {b : Bool} (e : kitB "int" T = some b) : IsI K H (.int i) T b := isI_ty (.base (.int i)) e
theorem isI_bl {K : PySem.W.Frag} {H : Hp} {i : Bool} {T : String} {b : Bool} (e : kitB "bool" T = some b) : IsI K H (.bl i) T b := isI_ty (.base (.bl i)) e
theorem isI_str {K : PySem.W.Frag} {H : Hp} {i : Str} {T : String} {b : Bool} (e : kitB "str" T = some b) : IsI K H (.str i) T b := isI_ty (.base (.str i)) e
theorem isI_non {K : PySem.W.Frag} {H : Hp} {T : String} {b : Bool} (e : kitB "NoneType" T = some b) : IsI K H .non T b := isI_ty (.base .non) e
theorem isI_lst {K : PySem.W.Frag} {H : Hp} {a : Addr} {xs : List V} {T : String} {b : Bool} (h : H a = some (.lst xs)) (e : kitB "list" T = some b) : IsI K H (.ref a) T b := isI_ty (.base (.lst h)) e
theorem isI_tup {K : PySem.W.Frag} {H : Hp} {a : Addr} {xs : List V} {T : String} {b : Bool} (h : H a = some (.tup xs)) (e : kitB "tuple" T = some b) : IsI K H (.ref a) T b := isI_ty (.base (.tup h)) e
theorem isI_dct {K : PySem.W.Frag} {H : Hp} {a : Addr} {xs : List (Key × V)} {T : String} {b : Bool} (h : H a = some (.dK xs)) (e : kitB "dict" T = some b) : IsI K H (.ref a) T b := isI_ty (.base (.dK h)) e
/-! ### an exception of an own class, its __init__ a def of the text -/
/-- self, found: what __init__ leaves -/
def spEI (K : PySem.W.Frag) (C : Addr) (fld : Str) : Sp := fun vs H Q _ => ∃ a v, vs = [.ref a, v] ∧ OexC K C ∧ PySem.W.findIn K (.ref C) fld = some none ∧ H a = some (exo a C none) ∧
  ∀ d, H d = none → d ≠ a → Q .non (upd (upd H d (exd d [(fld, v)])) a (exo a C (some d)))
/-- C(e) as a value -/
def tMkV (C : Addr) (sp : Sp) (ta : TA) : TE := fun σ H Q => ta σ H fun vs H1 => vs.length ≤ 1000 ∧ ∀ a, H1 a = none → sp (.ref a :: vs) (upd H1 a (exo a C none)) (fun v H2 => v = .non ∧ Q (.ref a) H2) E0
/-- a class of exceptions with its own __init__ as its makers see it -/
structure MkX (P : Program) (w : World) (K : PySem.W.Frag) (mg : Str → Option Value) (base : Heap) (k : Nat) (x : Str) (C : Addr) (fld : Str) : Prop where
  oex : OexC K C
  gl : mg x = some (.ref C)
  no : PySem.W.findIn K (.ref C) fld = some none
  ex : ∃ fI fd, PySem.W.findIn K (.ref C) "__init__" = some (some (.ref fI)) ∧ PySem.W.typeIn K (.ref fI) = some (.type "function") ∧ FnOk P w K mg base CX0 k fI fd ["self", fld] (spEI K C fld) ∧ Binds K fd ["self", fld] []
section
variable {X : Cx} {k : Nat} {x : Str} {C : Addr} {fld : Str} {e : Expr} {es : List Expr} {ta : TA} {p pos : Pos}
theorem pe_mkV (M : MkX X.prog X.w X.K X.mg X.base k x C fld) (hr : Room (k + 1) X.A) (ha : PA X (e :: es) ta) (hg : Gl X x := by rfl)
    (hdb : (x == ("__debug__" : Str)) = false := by decide) (he : starEach (e :: es) X.env = (false, eval e X.env) :: starEach es X.env := by rfl) (hpl : (backTo pos (starEach es X.env)).any (·.1) = false := by rfl) :
    PE X (.Call (.Name x p) (e :: es) [] pos) (tMkV C (spEI X.K C fld) ta) := by
  obtain ⟨fI, fd, iC, tI, F1, hb⟩ := M.ex
  obtain ⟨nm, q, N, bs, bm, sn, sub, ab, col, dd, k0, k1, k2, k3, k5, hC, hbm⟩ := M.oex.cls
  refine ⟨fun pins s σ H Q I h => wpAny_Call_Name_kw (ld_glob I hg M.gl ?_ hdb)⟩
  refine PySem.W.callWith_K (h₀ := X.base) I.ok.mod.kin M.oex.kC ?_ he hpl
  refine thn (ha.run pos pins s σ H _ I h) ?_
  rintro us s1 ⟨vs, H1, I1, r1, hz, q1⟩
  refine ⟨I1.kIn, ?_⟩
  show wpAny _ _ (call (.ref C) us) _ _ _
  obtain ⟨hp, g, dr, tk, os⟩ := s1
  have hn : H1 (hp.objs.size + 1) = none := I1.hok.fresh (Nat.le_succ _)
  have hq := q1 _ hn
  have new : ((hp.push (PySem.W.kdv_tup us)).push (PySem.HandSPX.excO C hp.objs.size)).get? (hp.objs.size + 1) = some (PySem.HandSPX.excO C hp.objs.size) := by heap_get
  have I2 : Inv X pins σ (upd H1 (hp.objs.size + 1) (exo (hp.objs.size + 1) C none)) ⟨(hp.push (PySem.W.kdv_tup us)).push (PySem.HandSPX.excO C hp.objs.size), g, dr, tk, os⟩ :=
    I1.laid (t' := tk) (fun b o z => Heap.get?_push_of_some _ (Heap.get?_push_of_some _ z)) (Nat.le_succ _) (exo_ok new)
  have r2 : Vals (V.ref (hp.objs.size + 1) :: vs) (Value.ref (hp.objs.size + 1) :: us) := .cons rfl r1
  have hl := r2.length.symm.trans (F1.len _ _ _ _ hq)
  have b2 := hb _ (Value.ref (hp.objs.size + 1) :: us) I2.kIn (by simpa using hl)
  rw [List.append_nil] at b2
  have hus : us.length ≤ sizeLine := by
    rw [← Paired.length r1, sizeLine_eq]
    omega
  refine wpAny_call (PySem.HandSPX.call_own F.excBase_ValueError (fun Y => PySem.HandSPX.refsVE_contains Y bm hbm) (I1.kIn _ _ hC) (PySem.W.looks_findIn I1.kIn iC) (fun self => PySem.W.bind_fn I1.kIn self tI) hus ?_)
  refine codeAny_mono (F1.run _ X.stack _ _ ⟨_, []⟩ _ _ _ _ (hr.make C us []) (I2.env0.make C us []) b2 r2 hq) ?_
  intro r s' hq'
  match r, hq' with
  | .error e, z => exact z.elim
  | .ok (.ret u), z =>
    obtain ⟨v, H', I3, rv, ev, q3⟩ := I2.after z
    subst ev
    exact ⟨rv, .ref (hp.objs.size + 1), H', I3, rfl, q3⟩
  | .ok .next, z => exact z.elim
  | .ok .brk, z => exact z.elim
  | .ok .cont, z => exact z.elim
end
/-! ### the defs of the module, as the top has left them -/
structure DefIn (K : PySem.W.Frag) (mg : Str → Option Value) (x : Str) (st : Stmt) : Prop where
  ex : ∃ f fd, Fun K x x st f fd ∧ mg x = some (.ref f)
theorem defIn {K : PySem.W.Frag} {h : Heap} {mg : Str → Option Value} {x : Str} {st : Stmt} (X : K.In h) (G : h.Ns mainGlobals mg)
    {f : Addr} {oc : Value} {od an : Option Addr} {osl : Array (Option Value)} {kV doc pm cdv ct : Value}
    (a : PySem.W.nsIn K mainGlobals x = some (some (.ref f)))
    (l : K.lookup f = some ⟨oc, od, .func (PySem.W.fnOf x x (defArgs st) (defBody st) (defScope st) .none kV doc pm an cdv ct), osl⟩)
    (c : PySem.W.codeIn K cdv x = true) (k : PySem.W.keepIn K (.ref f) = true) : DefIn K mg x st :=
  ⟨f, _, fun_mk l c k, PySem.W.mg_of X G a⟩
section
variable {P : Program} {w : World} {K : PySem.W.Frag} {mg : Str → Option Value} {base : Heap} {CX : CXT} {k : Nat} {x : Str} {st : Stmt} {ps ks : List Str} {sp : Sp}
theorem DefIn.cal (D : DefIn K mg x st) (ok : ∀ {f fd}, Fun K x x st f fd → FnG P w K mg base CX k f fd ps sp)
    (h : ∀ (kV doc pm : Value) (an : Option Addr) (cdv ct : Value) (us : List Value), us.length = ps.length → bindArgs (PySem.W.fnOf x x (defArgs st) (defBody st) (defScope st) .none kV doc pm an cdv ct) ⟨us, []⟩ = pure (ps.zip us)) :
    Cal P w K mg base CX k x ps sp := by
  obtain ⟨f, fd, F, hm⟩ := D.ex
  exact ⟨f, fd, ok F, hm, F.kp, F.binds h⟩
theorem DefIn.calk (D : DefIn K mg x st) (ok : ∀ {f fd}, Fun K x x st f fd → FnG P w K mg base CX k f fd ps sp) (g : List Value → List Value → List Value) (gV : List V → List V → List V)
    (h : ∀ (kV doc pm : Value) (an : Option Addr) (cdv ct : Value) (us ws : List Value), (g us ws).length = ps.length → bindArgs (PySem.W.fnOf x x (defArgs st) (defBody st) (defScope st) .none kV doc pm an cdv ct) ⟨us, ks.zip ws⟩ = pure (ps.zip (g us ws)))
    (rel : ∀ {vs : List V} {us : List Value} {zs : List V} {ws : List Value}, Vals vs us → Vals zs ws → Vals (gV vs zs) (g us ws)) :
    CalK P w K mg base CX k x ps sp ks gV := by
  obtain ⟨f, fd, F, hm⟩ := D.ex
  obtain ⟨oc, od, kV, doc, pm, an, cdv, ct, osl, e, _, _⟩ := F.ex
  refine ⟨f, fd, g, ok F, hm, F.kp, ⟨fun s us ws _ hl => ?_, rel⟩⟩
  subst e
  exact .of_eq (h kV doc pm an cdv ct us ws hl)
end
/-- one, two, three keywords and nothing else, put into order -/
def k1 {α : Type} : List α → List α → List α
  | [], [a] => [a]
  | _, _ => []
def k2 {α : Type} : List α → List α → List α
  | [], [a, b] => [b, a]
  | _, _ => []
def k3 {α : Type} : List α → List α → List α
  | [], [a, b, c] => [c, b, a]
  | _, _ => []
theorem k1_rel {vs : List V} {us : List Value} {zs : List V} {ws : List Value} : Vals vs us → Vals zs ws → Vals (k1 vs zs) (k1 us ws)
  | .nil, .nil => .nil
  | .nil, .cons a .nil => .cons a .nil
  | .nil, .cons _ (.cons _ _) => .nil
  | .cons _ _, _ => .nil
theorem k2_rel {vs : List V} {us : List Value} {zs : List V} {ws : List Value} : Vals vs us → Vals zs ws → Vals (k2 vs zs) (k2 us ws)
  | .nil, .nil => .nil
  | .nil, .cons a .nil => .nil
  | .nil, .cons a (.cons b .nil) => .cons b (.cons a .nil)
  | .nil, .cons _ (.cons _ (.cons _ _)) => .nil
  | .cons _ _, _ => .nil
theorem k3_rel {vs : List V} {us : List Value} {zs : List V} {ws : List Value} : Vals vs us → Vals zs ws → Vals (k3 vs zs) (k3 us ws)
  | .nil, .nil => .nil
  | .nil, .cons _ .nil => .nil
  | .nil, .cons _ (.cons _ .nil) => .nil
  | .nil, .cons a (.cons b (.cons c .nil)) => .cons c (.cons b (.cons a .nil))
  | .nil, .cons _ (.cons _ (.cons _ (.cons _ _))) => .nil
  | .cons _ _, _ => .nil
/-! ### texts, tuples of targets -/
section
variable {σ : L2.St} {H : Hp} {Q : VK} {D : Ends} {al : TA} {te to : TE} {i j l : Nat} {u v w : V} {z y : Str} {lo hi : Option Int}
theorem r_par3 (h : al σ H fun vs H1 => ∃ u v w, vs = [u, v, w] ∧ D.nx (((σ.set i (some u)).set j (some v)).set l (some w)) H1) : tPar3 i j l al D σ H := h
theorem r_is3 {C : V → V → V → Prop} (q : C u v w) : ∃ a b c, [u, v, w] = [a, b, c] ∧ C a b c := ⟨u, v, w, rfl, q⟩
theorem r_par2 (h : al σ H fun vs H1 => ∃ u v, vs = [u, v] ∧ D.nx ((σ.set i (some u)).set j (some v)) H1) : tPar i j al D σ H := h
theorem r_is2 {C : V → V → Prop} (q : C u v) : ∃ a b, [u, v] = [a, b] ∧ C a b := ⟨u, v, rfl, q⟩
theorem r_lenS {C : Str → Prop} (h : z.length ≤ 100000) (q : C z) : ∃ a, [V.str z] = [V.str a] ∧ a.length ≤ sizeLine ∧ C a := ⟨z, rfl, Nat.le_trans h (by decide), q⟩
theorem r_addS {C : Str → Str → Prop} (h : z.length + y.length ≤ 100000) (q : C z y) : ∃ a b, V.str z = .str a ∧ V.str y = .str b ∧ a.length + b.length ≤ sizeLine ∧ C a b := ⟨z, y, rfl, rfl, Nat.le_trans h (by decide), q⟩
theorem r_slS (h : z.length ≤ 100000) (q : Q (.str (cutS z lo hi)) H) : rSlS (.str z) lo hi H Q := ⟨z, rfl, Nat.le_trans h (by decide), q⟩
theorem r_m0 {f : V → List V → Hp → VK → Prop} (h : to σ H fun x H1 => (∃ a, x = .str a) ∧ f x [] H1 Q) : tM0 f to σ H Q := h
theorem app_len (a b : Str) : (a ++ b).length = a.length + b.length := PySem.Str.length_append a b
end
/-- signs below 128 alone -/
def Asc (z : Str) : Prop := ∀ c ∈ z.cps.toList, c < 128
theorem asc_app {a b : Str} (ha : Asc a) (hb : Asc b) : Asc (a ++ b) := fun c h => by
  rw [PySem.Str.cps_append, Array.toList_append] at h
  rcases List.mem_append.mp h with h | h
  · exact ha c h
  · exact hb c h
theorem asc_cut {z : Str} (h : Asc z) (lo hi : Option Int) : Asc (cutS z lo hi) := fun c hc => h c (List.mem_of_mem_drop (List.mem_of_mem_take hc))
theorem asc_upper {z : Str} (h : Asc z) : Asc (Txt.upper z) := fun c hc => by
  rw [PyProof.Rows.upper_ascii h] at hc
  obtain ⟨d, hd, rfl⟩ : ∃ d ∈ z.cps.toList, PyProof.Rows.up1 d = c := by simpa using hc
  have := h d hd
  unfold PyProof.Rows.up1
  split <;> omega
theorem asc_one {c : Nat} (h : c < 128) : Asc ⟨#[c]⟩ := fun d hd => by
  obtain rfl : d = c := by simpa using hd
  exact h
theorem asc_of {z : Str} (h : z.cps.toList.all (fun c => decide (c < 128)) = true) : Asc z := fun c hc => of_decide_eq_true (List.all_eq_true.mp h c hc)
/-! ### tests and comprehensions, further -/
theorem iteNF {A B : Prop} (h : A) : if (!false) = true then A else B := h
theorem iteNT {A B : Prop} (h : B) : if (!true) = true then A else B := h
theorem iteDec {p A B : Prop} [Decidable p] (h : p) (q : A) : if decide p = true then A else B := by
  rw [decide_eq_true h]
  exact iteT q
theorem iteNE {x y : V} {A B : Prop} (e : x = y) (h : B) : if (!decide (x = y)) = true then A else B := by
  rw [decide_eq_true e]
  exact iteF h
theorem iteE {x y : V} {A B : Prop} (e : x = y) (h : A) : if decide (x = y) = true then A else B := by
  rw [decide_eq_true e]
  exact iteT h
theorem iteAnd {a c : Bool} {H : Hp} {Q : VK} {X : Prop} (h : a = true → Q (.bl c) H → X) (q : Q (.bl (a && c)) H) : if a = true then X else Q (.bl false) H := by
  cases a with
  | true => exact iteT (h rfl q)
  | false => exact iteF q
theorem r_and2 {σ : L2.St} {H : Hp} {Q : VK} {ta tb : TE} (a c : Bool) (ha : ∀ R : VK, R (.bl a) H → ta σ H R) (hb : a = true → ∀ R : VK, R (.bl c) H → tb σ H R) (q : Q (.bl (a && c)) H) : tAndV ta tb σ H Q := by
  refine ha _ ⟨a, rfl, ?_⟩
  cases a with
  | true => exact iteT (hb rfl Q q)
  | false => exact iteF q
theorem r_or2 {σ : L2.St} {H : Hp} {Q : VK} {ta tb : TE} (a c : Bool) (ha : ∀ R : VK, R (.bl a) H → ta σ H R) (hb : a = false → ∀ R : VK, R (.bl c) H → tb σ H R) (q : Q (.bl (a || c)) H) : tOrV ta tb σ H Q := by
  refine ha _ ⟨a, rfl, ?_⟩
  cases a with
  | true => exact iteT q
  | false => exact iteF (hb rfl Q q)
def isIntV : V → Bool
  | .int _ => true
  | _ => false
/-- an item of a written list of ints at an open place -/
theorem r_ixI {K : PySem.W.Frag} {H : Hp} {Q : VK} {p : Addr} {d : Int} {xs : List V} (h : H p = some (.lst xs)) (hx : xs.all isIntV = true) (h0 : 0 ≤ d) (h1 : d < (xs.length : Int)) (q : ∀ i, Q (.int i) H) : rIxL K (.ref p) (.int d) H Q := by
  have hd : d.toNat < xs.length := by omega
  have z := List.all_eq_true.mp hx _ (List.getElem_mem hd)
  refine ⟨p, xs, d, xs[d.toNat], rfl, rfl, SqL.of h, at_pos h0 hd, ?_⟩
  cases e : xs[d.toNat] with
  | int i => exact q i
  | non => rw [e] at z; cases z
  | bl _ => rw [e] at z; cases z
  | str _ => rw [e] at z; cases z
  | byt _ => rw [e] at z; cases z
  | flt _ => rw [e] at z; cases z
  | ref _ => rw [e] at z; cases z
  | ty _ => rw [e] at z; cases z
theorem take_next {α : Type} {l : List α} {i : Nat} {x : α} (h : l[i]? = some x) : l.take (i + 1) = l.take i ++ [x] := by
  rw [List.take_succ, h]
  rfl
section
variable {K : PySem.W.Frag} {σ : L2.St} {H : Hp} {Q : VK} {te0 te : TE} {tt : TT} {j : Nat} {vs : List Nat}
/-- over the signs of a text: those that pass b, each as f says; nothing else is done -/
theorem r_lcS {z : Str} (f : Nat → V) (b : Nat → Bool) (h0 : ∀ R : VK, R (.str z) H → te0 σ H R) (hz : z.length ≤ 100000) (hw : ∀ x, wipe ((wipe σ vs).set j (some x)) vs = wipe σ vs)
    (ht : ∀ c H1 (QB : Bool → Hp → Prop), QB (b c) H1 → tt ((wipe σ vs).set j (some (.str ⟨#[c]⟩))) H1 QB)
    (he : ∀ c H1 (Q1 : VK), Q1 (f c) H1 → te ((wipe σ vs).set j (some (.str ⟨#[c]⟩))) H1 Q1)
    (q : ∀ D, H D = none → Q (.ref D) (upd H D (.lst ((z.cps.toList.filter b).map f)))) : tLc (iStr te0) (gName j) tt te vs σ H Q := by
  refine h0 _ ⟨z, rfl, fun D hD => ?_⟩
  refine lc_it walk_str (fun i H' => H' = upd H D (.lst (((z.cps.toList.take i).filter b).map f))) rfl (fun _ _ _ _ => trivial) (fun i x H1 H2 hi p y => ?_) (fun H' p => ?_)
  · obtain ⟨rfl, c, hc, rfl⟩ := y
    subst p
    have hc' : z.cps.toList[i]? = some c := by rw [Array.getElem?_toList]; exact hc
    refine ⟨hw _, ht c _ _ ?_⟩
    rw [take_next hc', List.filter_append]
    cases hb : b c with
    | true =>
      refine iteT (he c _ _ ⟨_, upd_same, ?_, ?_⟩)
      · have h1 := List.length_filter_le b (z.cps.toList.take i)
        have h2 : i < z.length := hi
        rw [List.length_map]
        rw [List.length_take] at h1
        rw [sizeLine_eq]
        omega
      · rw [upd_upd]
        simp [hb]
    | false =>
      refine iteF ?_
      simp [hb]
  · subst p
    rw [List.take_of_length_le (by simp)]
    exact q D hD
end
end Gx
set_option linter.all false
set_option maxRecDepth 100000
set_option maxHeartbeats 4000000
namespace Gx
open PySem PySem.Spec PyProof.Rows L2
/-! ### loops, comprehensions: what is left to show, by name -/
def Lp (J : It) (g : TG) (tb : TS) (D : Ends) (s : L2.St) (h : Hp) : Prop :=
  ∃ W : Nat → Nat → L2.St → Hp → Prop, (∃ m, W 0 m s h) ∧ ∀ i m s h, W i m s h → (J.stop i h ∧ D.nx s h) ∨ (J.go i h ∧ ∃ N : L2.St → Hp → Prop, (∀ s' h', N s' h' → ∃ m', m' < m ∧ W (i + 1) m' s' h') ∧ ∀ x h', J.yld i h x h' → g x s h' fun s2 h2 => tb { D with nx := N, ct := N, bk := D.nx } s2 h2)
def Lc (J : It) (g : TG) (tt : TT) (te : TE) (vs : List Nat) (Q : VK) (s : L2.St) (h : Hp) : Prop :=
  ∀ p, h p = none → ∃ W : Nat → Nat → Hp → Prop, (∃ m, W 0 m (upd h p (.lst []))) ∧ ∀ i m h, W i m h → (J.stop i h ∧ Q (.ref p) h) ∨ (J.go i h ∧ ∃ N : Hp → Prop, (∀ h', N h' → ∃ m', m' < m ∧ W (i + 1) m' h') ∧ ∀ x h', J.yld i h x h' → g x (wipe s vs) h' fun s2 h2 => wipe s2 vs = wipe s vs ∧ tt s2 h2 fun b h3 => if b = true then te s2 h3 fun y h4 => ∃ acc, h4 p = some (.lst acc) ∧ acc.length < sizeLine ∧ N (upd h4 p (.lst (acc ++ [y]))) else N h3)
section
variable {K : PySem.W.Frag} {σ : L2.St} {H : Hp} {D : Ends} {g : TG} {tb : TS} {wi : TI} {ta : TA} {te tl : TE} {tt : TT} {vs : List Nat} {Q : VK}
theorem r_for (h : wi σ H fun J H1 => Lp J g tb D σ H1) : tFor wi g tb D σ H := h
theorem r_lc (h : wi σ H fun J H1 => Lc J g tt te vs Q σ H1) : tLc wi g tt te vs σ H Q := h
theorem r_rng1 {R : It → Hp → Prop} (h : ta σ H fun xs H1 => ∃ j : Int, xs = [.int j] ∧ -(2 ^ 62) ≤ j ∧ j < 2 ^ 62 ∧ R (Itr 0 j.toNat) H1) : iRng1 ta σ H R := h
theorem r_iList {R : It → Hp → Prop} (h : tl σ H fun v H1 => ∃ a, v = .ref a ∧ (∃ xs, SqL K H1 a xs) ∧ R (Itl K a) H1) : iList K tl σ H R := h
theorem lp_range {lo : Int} {n : Nat} (Pv : Nat → L2.St → Hp → Prop) (h0 : Pv 0 σ H) (hs : ∀ i s h, i < n → Pv i s h → g (.int (lo + i)) s h fun s2 h2 => tb { D with nx := Pv (i + 1), ct := Pv (i + 1), bk := D.nx } s2 h2)
    (hd : ∀ s h, Pv n s h → D.nx s h) : Lp (Itr lo n) g tb D σ H := for_range Pv h0 hs hd
theorem lp_list {a : Addr} {xs : List V} (Pv : Nat → L2.St → Hp → Prop) (h0 : Pv 0 σ H) (hl : ∀ i s h, i ≤ xs.length → Pv i s h → SqL K h a xs)
    (hs : ∀ i x s h, xs[i]? = some x → Pv i s h → g x s h fun s2 h2 => tb { D with nx := Pv (i + 1), ct := Pv (i + 1), bk := D.nx } s2 h2) (hd : ∀ s h, Pv xs.length s h → D.nx s h) : Lp (Itl K a) g tb D σ H := for_list Pv h0 hl hs hd
theorem lc_rng {lo : Int} {n : Nat} (Pv : Addr → Nat → Hp → Prop) (h0 : ∀ p, H p = none → Pv p 0 (upd H p (.lst [])))
    (hs : ∀ p, H p = none → ∀ i h, i < n → Pv p i h → g (.int (lo + i)) (wipe σ vs) h fun s2 h2 => wipe s2 vs = wipe σ vs ∧ tt s2 h2 fun b h3 => if b = true then te s2 h3 fun y h4 => ∃ acc, h4 p = some (.lst acc) ∧ acc.length < sizeLine ∧ Pv p (i + 1) (upd h4 p (.lst (acc ++ [y]))) else Pv p (i + 1) h3)
    (hd : ∀ p, H p = none → ∀ h, Pv p n h → Q (.ref p) h) : Lc (Itr lo n) g tt te vs Q σ H := fun p hp => lc_range (Pv p) (h0 p hp) (hs p hp) (hd p hp)
theorem lc_lst {a : Addr} {xs : List V} (Pv : Addr → Nat → Hp → Prop) (h0 : ∀ p, H p = none → Pv p 0 (upd H p (.lst []))) (hl : ∀ p, H p = none → ∀ i h, i ≤ xs.length → Pv p i h → SqL K h a xs)
    (hs : ∀ p, H p = none → ∀ i x h, xs[i]? = some x → Pv p i h → g x (wipe σ vs) h fun s2 h2 => wipe s2 vs = wipe σ vs ∧ tt s2 h2 fun b h3 => if b = true then te s2 h3 fun y h4 => ∃ acc, h4 p = some (.lst acc) ∧ acc.length < sizeLine ∧ Pv p (i + 1) (upd h4 p (.lst (acc ++ [y]))) else Pv p (i + 1) h3)
    (hd : ∀ p, H p = none → ∀ h, Pv p xs.length h → Q (.ref p) h) : Lc (Itl K a) g tt te vs Q σ H := fun p hp => by
  refine lc_it (walk_list (xs := xs)) (Pv p) (h0 p hp) (fun i h hi q => hl p hp i h hi q) (fun i x h h' hi q y => ?_) (hd p hp)
  obtain ⟨rfl, e⟩ := y
  exact hs p hp i x _ e q
theorem r_yes {QB : Bool → Hp → Prop} (q : QB true H) : tYes σ H QB := q
theorem sql_same {H' : Hp} {a : Addr} {xs : List V} (h : SqL K H a xs) (e : Same H H') : SqL K H' a xs :=
  h.imp (fun r => r.imp (fun z => e _ _ z) fun ⟨o, z⟩ => ⟨o, e _ _ z⟩) _root_.id
/-- an item of a written list of ints at an open place, with what holds of all of them -/
theorem r_ixJ {p : Addr} {d : Int} {xs : List Int} {P : Int → Bool} (h : H p = some (.lst (xs.map V.int))) (hx : xs.all P = true) (h0 : 0 ≤ d) (h1 : d < (xs.length : Int)) (q : ∀ i, P i = true → Q (.int i) H) : rIxL K (.ref p) (.int d) H Q := by
  have hd : d.toNat < (xs.map V.int).length := by rw [List.length_map]; omega
  refine ⟨p, xs.map V.int, d, _, rfl, rfl, SqL.of h, at_pos h0 hd, ?_⟩
  rw [List.getElem_map]
  exact q _ (List.all_eq_true.mp hx _ (List.getElem_mem _))
theorem same_off {b : Addr} {H0 H1 H2 : Hp} (n : H0 b = none) (s : Same H0 H1) (o : Off b H1 H2) : Same H0 H2 := fun c u h => o c u (fun z => by subst z; rw [n] at h; cases h) (s c u h)
end
end Gx
set_option linter.all false
set_option maxRecDepth 100000
set_option maxHeartbeats 4000000
namespace Gx
open PySem PySem.Spec PyProof.Rows L2
/-! ### the end of a law, its def called where no repr is under way -/
/-- nothing leaves where no exception may -/
theorem cx_none {P : Program} {w : World} {out : List Env} {H : Hp} {s : Shared} {e : Value} {s' : Shared} (c : L2.CX P w out H s (fun _ _ _ => False) e s') : False := by
  obtain ⟨_, _, _, _, _, _, _, _, _, _, _, _, no⟩ := c
  exact no
/-- what is tracked ahead of the call: at most the script -/
structure Fore (P : Program) (w : World) (K : PySem.W.Frag) (a : Addr) (ys : List V) (t : Shared) (H : Hp) : Prop where
  one : ∀ b, H b ≠ none → b = a ∧ K.lookup a = none
  frz : ∀ b u, H b = some u → ∃ o, u = .frz o (.lst ys)
  seq : SqL K H a ys
  ok : HOk P w H t.heap
section
variable {P : Program} {w : World} {K : PySem.W.Frag} {mg mb : Str → Option Value} {k : Nat} {fa a : Addr} {fd : FuncData} {x : Str} {sp : Sp} {t : Shared} {us : List Value} {ys : List V}
theorem fore_own {o : Obj} (kin : K.In t.heap) (hu : t.heap.get? a = some { cls := .type "list", data := .seq us.toArray }) (rel : Vals ys us) (len : ys.length ≤ sizeLine) (hk : K.lookup a = some o) : Fore P w K a ys t fun _ => none := by
  have e := (kin a o hk).symm.trans hu
  cases e
  exact ⟨fun b hb => absurd rfl hb, fun b u hb => (nomatch hb), .inr ⟨_, us.toArray, _, hk, rfl, rfl, rfl, by rw [List.size_toArray, ← rel.length]; exact len, by simpa using rel⟩, fun b u hb => (nomatch hb)⟩
theorem fore_new (hu : t.heap.get? a = some { cls := .type "list", data := .seq us.toArray }) (rel : Vals ys us) (len : ys.length ≤ sizeLine) (hk : K.lookup a = none) :
    Fore P w K a ys t fun b => if b = a then some (.frz { cls := .type "list", data := .seq us.toArray } (.lst ys)) else none := by
  have at_a : ∀ {b u}, (if b = a then some (HO.frz { cls := .type "list", data := .seq us.toArray } (.lst ys)) else none) = some u → b = a ∧ u = .frz { cls := .type "list", data := .seq us.toArray } (.lst ys) := fun {b u} h => by
    split at h
    · rename_i hb
      cases h
      exact ⟨hb, rfl⟩
    · cases h
  refine ⟨fun b hb => ?_, fun b u hb => ⟨_, (at_a hb).2⟩, .inl (.inr ⟨_, if_pos rfl⟩), fun b u hb => ?_⟩
  · by_cases z : b = a
    · exact ⟨z, hk⟩
    · exact absurd (if_neg z) hb
  · obtain ⟨rfl, rfl⟩ := at_a hb
    exact ⟨hu, len, us, _, rel, hu⟩
theorem call_fore (kin : K.In t.heap) (gl : t.heap.Ns mainGlobals mg) (bl : t.heap.Ns builtinsNs mb) (boot : ∀ x : Str, x ≠ "__name__" → mb x = bootBuiltins x) (lim : t.heap.NoLimit) (gens : t.gens = #[])
    (hu : t.heap.get? a = some { cls := .type "list", data := .seq us.toArray }) (room : Room k callerA)
    (F : ∀ base : Heap, K.In base → base.Ns mainGlobals mg → FnG P w K mg base (L2.CX P w) k fa fd [x] sp) (bind : ∀ (s : Shared) (u : Value), BindsTo s fd ⟨[u], []⟩ [(x, u)])
    {H : Hp} (O : Fore P w K a ys t H) (hsp : sp [.ref a] H (fun v _ => v = .bl true) fun _ _ _ => False) :
    codeAny (model P w) callerA (.call (.ref fa) ⟨[.ref a], []⟩) (fun r t' => r = .ok (.ret (.bool true)) ∧ OldK t.heap t'.heap ∧ t'.os = t.os ∧ AllBare t'.gens) t := by
  have untracked : ∀ {b : Addr} {o : Obj}, t.heap.get? b = some o → (∀ its n, o.data ≠ .seq its n) → H b = none := fun {b o} e ns => by
    cases q : H b with
    | none => rfl
    | some u =>
      obtain ⟨rfl, _⟩ := O.one b (by rw [q]; exact Option.some_ne_none u)
      rw [hu] at e
      cases e
      exact absurd rfl (ns us.toArray _)
  have dicts : ∀ {b : Addr} {m : Str → Option Value}, t.heap.Ns b m → (hidT t.heap H).Ns b m := fun ⟨o, es, ep, e, d, r⟩ => ⟨o, es, ep, hidT_get e (untracked e fun its n z => by rw [d] at z; cases z), d, r⟩
  have kin' : K.In (hidT t.heap H) := fun b o e => hidT_get (kin b o e) (by
    cases q : H b with
    | none => rfl
    | some u =>
      obtain ⟨rfl, no⟩ := O.one b (by rw [q]; exact Option.some_ne_none u)
      rw [no] at e
      cases e)
  have lim' : (hidT t.heap H).NoLimit := by
    obtain ⟨mc, l1, l2⟩ := lim
    exact ⟨mc, dicts l1, l2⟩
  have start : Env0 P w K mg (hidT t.heap H) callerA [] t H := {
    frames := rfl
    mod := ⟨kin', dicts gl, ⟨mb, dicts bl, boot⟩, lim'⟩
    bs := fun _ _ => of_hidT
    bsz := Nat.le_of_eq (hidT_size _ _)
    funs := trivial
    frf := fun b hb => absurd hb List.not_mem_nil
    hok := O.ok
    bare := .of_eq gens }
  refine codeAny_mono ((F _ kin' (dicts gl)).go callerA [] t H ⟨[.ref a], []⟩ [.ref a] [.ref a] _ _ rfl room start (bind t (.ref a)) (.cons rfl .nil) hsp) ?_
  rintro (e | fl) t' h
  · exact (cx_none h).elim
  cases fl with
  | ret u =>
    obtain ⟨v, H', eos, eb, un, ok', rv, rfl⟩ := h
    cases (show u = Value.bool true from rv)
    refine ⟨rfl, OldK.of_keep fun b o e => ?_, eos, eb⟩
    cases q : H b with
    | none => exact un.keep b o e q List.not_mem_nil List.not_mem_nil
    | some u =>
      obtain ⟨o1, rfl⟩ := O.frz b u q
      have p1 := (O.ok b _ q).1
      rw [e] at p1
      cases p1
      exact (ok' b _ (un.frzs b _ _ q)).1
  | _ => exact False.elim h
end
/-- what k_head leaves open, from the promise of the law's def -/
theorem walk_g {l : PySem.W.OpenLaw} {n k : Nat} {q : Program} {loose : List Str} {XP : (Str → Option Value) → Heap → Prop} {YP : World → Heap → Prop} {d : DefRec} {K : Params → PySem.W.Frag} {sp : World → Sp} {x : Str}
    (most : l.most = some n) (small : n ≤ sizeLine) (plain : d.params.defaults = []) (room : Room k callerA) (kin : ∀ (w : World) (h : Heap), YP w h → (K w.params).In h)
    (F : ∀ (w : World) (mg : Str → Option Value) (fa : Addr) (h : Heap), (K w.params).In h → h.Ns mainGlobals mg → mg d.name = some (.ref fa) → ∃ fd : FuncData, (∀ (s : Shared) (u : Value), BindsTo s fd ⟨[u], []⟩ [(x, u)]) ∧
      ∀ base : Heap, (K w.params).In base → base.Ns mainGlobals mg → FnG l.prog w (K w.params) mg base (L2.CX l.prog w) k fa fd [x] (sp w))
    (hsp : ∀ (w : World) (H : Hp) (a : Addr) (ns : List Int), ns.length ≤ n → SqL (K w.params) H a (ns.map V.int) → sp w [.ref a] H (fun v _ => v = .bl true) fun _ _ _ => False) :
    PySem.W.WalkO q loose XP YP l.row.toRowW d [] (fun f vs => PySem.call f vs) := by
  refine Att.attach_call most plain fun w t0 t mg mb fa o pm cd doc a us ns G Y ho hd hcd hmg hobj hints hlen hg => ?_
  have kin1 := kin w _ Y
  obtain ⟨fd, hb, hF⟩ := F w mg fa _ kin1 G.T.g hmg
  have rel := vals_ints hints
  have len : (ns.map V.int).length ≤ sizeLine := by
    rw [List.length_map]
    exact Nat.le_trans hlen small
  cases hk : (K w.params).lookup a with
  | some ob =>
    have O := fore_own (P := l.prog) (w := w) kin1 hobj rel len hk
    exact call_fore kin1 G.T.g G.T.b G.T.builtins G.T.nolimit hg hobj room hF hb O (hsp w _ a ns hlen O.seq)
  | none =>
    have O := fore_new (P := l.prog) (w := w) (K := K w.params) hobj rel len hk
    exact call_fore kin1 G.T.g G.T.b G.T.builtins G.T.nolimit hg hobj room hF hb O (hsp w _ a ns hlen O.seq)
/-- the same, the promise hanging on the written part alone -/
theorem walk_gk {l : PySem.W.OpenLaw} {n k : Nat} {q : Program} {loose : List Str} {XP : (Str → Option Value) → Heap → Prop} {YP : World → Heap → Prop} {d : DefRec} {K : Params → PySem.W.Frag} {sp : PySem.W.Frag → Sp} {x : Str}
    (most : l.most = some n) (small : n ≤ sizeLine) (plain : d.params.defaults = []) (room : Room k callerA) (kin : ∀ (w : World) (h : Heap), YP w h → (K w.params).In h)
    (F : ∀ (w : World) (mg : Str → Option Value) (fa : Addr) (h : Heap), (K w.params).In h → h.Ns mainGlobals mg → mg d.name = some (.ref fa) → ∃ fd : FuncData, (∀ (s : Shared) (u : Value), BindsTo s fd ⟨[u], []⟩ [(x, u)]) ∧
      ∀ base : Heap, (K w.params).In base → base.Ns mainGlobals mg → FnG l.prog w (K w.params) mg base (L2.CX l.prog w) k fa fd [x] (sp (K w.params)))
    (hsp : ∀ (K : PySem.W.Frag) (H : Hp) (a : Addr) (ns : List Int), ns.length ≤ n → SqL K H a (ns.map V.int) → sp K [.ref a] H (fun v _ => v = .bl true) fun _ _ _ => False) :
    PySem.W.WalkO q loose XP YP l.row.toRowW d [] (fun f vs => PySem.call f vs) :=
  walk_g (sp := fun w => sp (K w.params)) most small plain room kin F fun w H a ns => hsp (K w.params) H a ns
end Gx
set_option linter.all false
set_option maxRecDepth 100000
set_option maxHeartbeats 4000000
namespace Gx
open PySem PySem.Spec PyProof.Rows L2
/-! ### repr of a dict of plain values -/
def flatV : V → Bool
  | .non => true
  | .bl _ => true
  | .int _ => true
  | .str _ => true
  | _ => false
def valD : V → PyData
  | .bl b => .bool b
  | .int i => .int i
  | .str x => .str x
  | _ => .none
def keyD : Key → PyData
  | .inl i => .int i
  | .inr x => .str x
def dctD (es : List (Key × V)) : PyData := .dict (es.map fun p => (keyD p.1, valD p.2))
theorem reads_flat {h : Heap} : ∀ {v : V} {u : Value}, flatV v = true → RelV v u → Reads h u (valD v) []
  | .non, u, _, r => by
    obtain rfl : u = Value.none := r
    exact .none
  | .bl b, u, _, r => by
    obtain rfl : u = Value.bool b := r
    exact .bool b
  | .int i, u, _, r => by
    obtain ⟨t, rfl⟩ : ∃ t, u = Value.int i t := r
    exact .int i t
  | .str x, u, _, r => by
    obtain ⟨t, rfl⟩ : ∃ t, u = Value.str x t := r
    exact .str x t
theorem reads_key {P : Program} {w : World} {h : Heap} {k : Key} {u : Value} (e : (mixKind P w).is k u = true) : Reads h u (keyD k) [] := by
  rcases keyIs_shape e with ⟨i, t, rfl, rfl⟩ | ⟨x, t, rfl, rfl⟩
  · exact .int i t
  · exact .str x t
theorem reads_pairs {P : Program} {w : World} {h : Heap} : ∀ {es : List DictEntry} {vs : List (Key × Value)} {xs : List (Key × V)}, Pairs (mixKind P w) es vs → KV xs vs → xs.all (fun p => flatV p.2) = true →
    ReadsAll h (es.map (·.key)) ((xs.map fun p => (keyD p.1, valD p.2)).map (·.1)) [] ∧ ReadsAll h (es.map (·.val)) ((xs.map fun p => (keyD p.1, valD p.2)).map (·.2)) []
  | _, _, _, .nil, r, _ => by
    cases r
    exact ⟨.nil, .nil⟩
  | _, _, _, .cons (e := e) (kv := kv) k1 e1 ps, r, al => by
    cases r with
    | cons r1 r2 =>
      rename_i p ps'
      obtain ⟨rk, rv⟩ := r1
      rw [List.all_cons, Bool.and_eq_true] at al
      obtain ⟨i1, i2⟩ := reads_pairs ps r2 al.2
      refine ⟨.cons (as := []) (bs := []) ?_ i1, .cons (as := []) (bs := []) ?_ i2⟩
      · show Reads h e.key (keyD p.1) []
        rw [rk]
        exact reads_key k1
      · show Reads h e.val (valD p.2) []
        rw [e1]
        exact reads_flat al.1 rv
def rShowD : List V → Hp → VK → Prop := fun xs H Q => ∃ a es, xs = [.ref a] ∧ H a = some (.dK es) ∧ es.all (fun p => flatV p.2) = true ∧ (dctD es).showable = true ∧ (dctD es).depth ≤ 20 ∧ (dctD es).shown.length ≤ sizeLine ∧ Q (.str (dctD es).shown) H
def rShowI : List V → Hp → VK → Prop := fun xs H Q => ∃ i : Int, xs = [.int i] ∧ i.natAbs.log2 < 1920 ∧ Q (.str (PyData.int i).shown) H
def rShowE : List V → Hp → VK → Prop := fun xs H Q => rShow xs H Q ∨ rShowD xs H Q ∨ rShowI xs H Q
section
variable {X : Cx}
theorem call_showD (hG : X.A.guards = some []) (hu : X.A.units + 64 < cLine) : CallR X (.builtin "repr") rShowD := by
  intro pins s σ H xs us Q I r h
  obtain ⟨a, es, rfl, ha, al, hs, hp, hl, q⟩ := h
  obtain rfl := Vals.ref1 r
  obtain ⟨_, nsm, vs, kv, o, ds, ep, ho, hx, hd, _, hpp, _⟩ : ObjOk X.prog X.w H s.heap a (.dK es) := I.hok a _ ha
  obtain ⟨r1, r2⟩ := reads_pairs (h := s.heap) hpp kv al
  have rd : Reads s.heap (.ref a) (dctD es) (a :: [] ++ []) := .dict ho hx.1 hd r1 r2
  refine repr_of_reads' rd hs (fun _ z => ?_) hG (by omega) (fun _ _ z => z) ?_ hl
  · have z : sysModules = a := by simpa using z
    subst z
    simp at nsm
  intro h' t tk keep
  exact ⟨.str (dctD es).shown, H, I.kept (t' := tk) keep, ⟨t, rfl⟩, q⟩
theorem call_showE (hG : X.A.guards = some []) (hu : X.A.units + 64 < cLine) : CallR X (.builtin "repr") rShowE := by
  intro pins s σ H xs us Q I r h
  rcases h with h | h | ⟨i, rfl, hz, q⟩
  · exact call_show hG hu pins s σ H xs us Q I r h
  · exact call_showD hG hu pins s σ H xs us Q I r h
  · cases r with
    | cons r1 r2 =>
      cases r2
      obtain ⟨t, rfl⟩ := r1
      refine PySem.P.repr_of_int hz ⟨.str _, H, I.tok _, ⟨_, rfl⟩, ?_⟩
      simpa only [PyData.shown] using q
end
section
theorem r_sh {H : Hp} {Q : VK} {v : V} (d : PyData) (hd : Gx.IsD H d v) (h1 : (!d.hasDict && (d.showable && (decide (d.depth ≤ 20) && decide (d.shown.length ≤ sizeLine)))) = true) (q : Q (.str d.shown) H) : rShowE [v] H Q := by
  simp only [Bool.and_eq_true, Bool.not_eq_true', decide_eq_true_eq] at h1
  exact .inl ⟨v, d, rfl, hd, h1.1, h1.2.1, h1.2.2.1, h1.2.2.2, q⟩
theorem r_shB {H : Hp} {Q : VK} {b : Bool} (q : Q (.str (PyData.bool b).shown) H) : rShowE [.bl b] H Q := r_sh (.bool b) (by unfold Gx.IsD; rfl) (by cases b <;> decide +kernel) q
theorem log_small {i : Int} (h : i.natAbs < 2 ^ 200) : i.natAbs.log2 < 1920 := by
  by_cases z : i.natAbs = 0
  · rw [z]
    decide
  · exact Nat.lt_trans ((Nat.log2_lt z).mpr h) (by decide)
theorem r_shI {H : Hp} {Q : VK} {i : Int} (h : i.natAbs < 2 ^ 200) (q : Q (.str (PyData.int i).shown) H) : rShowE [.int i] H Q := .inr (.inr ⟨i, rfl, log_small h, q⟩)
theorem iteFb {b : Bool} {A B : Prop} (e : b = false) (h : B) : if b = true then A else B := by
  rw [e]
  exact iteF h
theorem iteTb {b : Bool} {A B : Prop} (e : b = true) (h : A) : if b = true then A else B := by
  rw [e]
  exact iteT h
end
/-! ### a function out of a list is called -/
def tCalV (Cl : Addr → Sp → Prop) (E : L2.St → XK) (te : TE) (ta : TA) : TE := fun σ H Q => te σ H fun u H1 => ∃ f sp, u = .ref f ∧ Cl f sp ∧ ta σ H1 fun vs H2 => sp vs H2 Q (E σ)
section
variable {X : Cx} {CX : CXT} {k : Nat} {Cl : Addr → Sp → Prop} {fe e : Expr} {es : List Expr} {te : TE} {t : TA} {E : L2.St → XK} {pos : Pos}
theorem pe_calv (hCl : ∀ f sp, Cl f sp → ∃ fd ps, FnG X.prog X.w X.K X.mg X.base CX k f fd ps sp ∧ PySem.W.keepIn X.K (.ref f) = true ∧ Binds X.K fd ps []) (hG : X.A.guards = some []) (hr : Room k X.A) (hx : ∀ σ, PassesAt CX X σ (E σ)) (hf : PE X fe te) (ha : PA X (e :: es) t)
    (hev : eval (.Call fe (e :: es) [] pos) X.env = (do callWith pos (← eval fe X.env) [] (backTo pos (starEach (e :: es) X.env)) (backToKw pos (keywordEach [] X.env))) := by rfl)
    (he : starEach (e :: es) X.env = (false, eval e X.env) :: starEach es X.env := by rfl) (hpl : (backTo pos (starEach es X.env)).any (·.1) = false := by rfl) :
    PE X (.Call fe (e :: es) [] pos) (tCalV Cl E te t) := by
  refine ⟨fun pins s σ H Q I h => Call_ (thn (hf.run pins s σ H _ I h) fun u s1 hu => ?_) hev⟩
  obtain ⟨x, H1, I1, r1, f, sp, rfl, cl, q1⟩ := hu
  obtain rfl : u = Value.ref f := r1
  obtain ⟨fd, ps, F, hk, hb⟩ := hCl f sp cl
  refine PySem.W.callWith_K (h₀ := X.base) I1.ok.mod.kin hk (thn (ha.run pos pins s1 σ H1 _ I1 q1) ?_) he hpl
  rintro us s2 ⟨vs, H2, I2, r, q⟩
  refine ⟨I2.kIn, ?_⟩
  have hl : us.length = ps.length := r.length.symm.trans (F.len _ _ _ _ q)
  have b := hb s2 us I2.kIn (by simpa using hl)
  rw [List.append_nil] at b
  refine wpAny_call (codeAny_mono (F.go X.A X.stack s2 H2 ⟨us, []⟩ us vs Q (E σ) hG hr I2.env0 b r q) fun r s' hq => ?_)
  match r, hq with
  | .error e, hq => exact hx σ pins H2 s2 e s' I2 hq
  | .ok (.ret u), hq => exact I2.after hq
  | .ok .next, hq => exact hq.elim
  | .ok .brk, hq => exact hq.elim
  | .ok .cont, hq => exact hq.elim
end
/-! ### try: body, except x as n: suite, except y as n: suite, .. ; behind the told clauses none is looked at -/
abbrev Cut (D : Ends) (i : Nat) : Ends := { nx := fun s h => D.nx (s.set i none) h, rt := D.rt, bk := fun s h => D.bk (s.set i none) h, ct := fun s h => D.ct (s.set i none) h }
def wCl (K : PySem.W.Frag) (D : Ends) : List (Value × Nat × (Addr → Value → Option Addr → TS)) → WX
  | [] => fun _ _ _ _ => False
  | (c, i, ts) :: r => fun cls d s h => ∃ b, PySem.W.exmOne K cls c = some b ∧ (b = true → ∀ ex, h ex = none → ts ex cls d (Cut D i) (s.set i (some (.ref ex))) h) ∧ (b = false → wCl K D r cls d s h)
inductive ClOk (X : Cx) : List ExceptHandler → List (Value × Nat × (Addr → Value → Option Addr → TS)) → Prop
  | rest {hds : List ExceptHandler} : ClOk X hds []
  | cons {x n : Str} {c : Value} {i : Nat} {ts : Addr → Value → Option Addr → TS} {st : Stmt} {sts : List Stmt} {np hp : Pos} {hds : List ExceptHandler} {l : List (Value × Nat × (Addr → Value → Option Addr → TS))} (nm : Names X x c) (ni : X.N[i]? = some n)
      (nl : X.env.kindOf n = some .local) (su : ∀ (ex : Addr) (oe : Obj) (cls : Value) (d : Option Addr) (pn : List (Addr × Obj)), Zc cls d oe → (∃ vs, oe.data = .fields vs) → PSs (X.suite ex ((ex, oe) :: pn)) (st :: sts) (ts ex cls d)) (more : ClOk X hds l) :
      ClOk X (.ExceptHandler (some (.Name x np)) (some n) (st :: sts) hp :: hds) ((c, i, ts) :: l)
section
variable {X : Cx} {body : List Stmt} {h1 : ExceptHandler} {hds : List ExceptHandler} {l : List (Value × Nat × (Addr → Value → Option Addr → TS))} {pos : Pos} {tb : WX → TS}
theorem ps_try_cl (st : X.stack = X.env :: X.outer) (fr : X.env.frame = some X.env.locals) (nd : X.N.Nodup)
    (hb : ∀ (W : WX) (pn : List (Addr × Obj)) (xe : Value → Shared → Prop), Takes (X.tr pn xe) W → PassesOwn (model X.prog X.w) X.A X.env xe → PSs (X.tr pn xe) body (tb W)) (cl : ClOk X (h1 :: hds) l) :
    PS X (.Try body (h1 :: hds) [] [] pos) (fun D s h => tb (wCl X.K D l) D s h) := by
  refine ⟨fun pins s0 σ H D I h => wpAny_Try_except ?_⟩
  have ok := I.ok
  have frames : X.A.frames = some (X.env :: X.outer) := by rw [ok.frames, st]
  have tk : Takes (X.tr (X.pn ++ pins) (fun e t1 => wpAny (model X.prog X.w) X.A (noteFrame e X.env) (fun _ t2 => wpAny (model X.prog X.w) X.A (setFlight e none) (fun _ t3 => wpAny (model X.prog X.w) X.A (handleBy e X.env (h1 :: hds)) (SP X pins D) X.xe t3) X.xe t2) X.xe t1)) (wCl X.K D l) := by
    intro u t xx
    obtain ⟨ex, B, tI, _, σ1, H1, cls, d, rfl, J0, nb, up, sky, na, os, ag, wish⟩ := xx
    have J := J0.ofTry ok
    refine Sky.land Zc.steady frames fr (by rw [← st]; exact sky) fun hp1 fl1 up1 => ?_
    have J1 : Inv X pins σ1 H1 { t with heap := hp1 } := J.landed nb fl1.1 (up.trans up1) os ag
    obtain ⟨o1, vs1, g1, z1, d1⟩ := fl1.there
    have apart : ex ∉ frs (X.env :: X.outer) := fun hm => by
      obtain ⟨_, o2, g2, no⟩ := fl1.2.2.1.mem hm
      rw [g1] at g2
      cases g2
      exact no _ d1
    have nL : ex ≠ X.env.locals := fun z => apart (List.mem_filterMap.mpr ⟨X.env, List.mem_cons_self, by rw [fr, z]⟩)
    have nF : ex ∉ X.fs := fun hm => by
      obtain ⟨e, he, q⟩ := List.mem_filterMap.mp hm
      exact apart (List.mem_filterMap.mpr ⟨e, List.mem_cons_of_mem _ he, q⟩)
    have S1 := J1.suite g1 d1 na nL nF
    have LT : PySem.W.Looks (model X.prog X.w) hp1 (typeOf (.ref ex)) cls := fun A Q E s k q => wpAny_typeOf_ref (k _ _ g1) (by rw [z1.1]; exact q)
    have go : ∀ {hs : List ExceptHandler} {ll : List (Value × Nat × (Addr → Value → Option Addr → TS))}, ClOk X hs ll → wCl X.K D ll cls d σ1 H1 → wpAny (model X.prog X.w) X.A (handleBy (.ref ex) X.env hs) (SP X pins D) X.xe { t with heap := hp1 } := by
     intro hs ll ck
     induction ck with
     | rest => exact fun z => z.elim
     | @cons x n c i ts b sts np hpos hds' l' nm ni nl su more ih =>
       rintro ⟨y, e1, yes, no⟩
       refine wpAny_handleBy_cons (codeAny_handlers_test ?_) (by intro q; cases q)
       have LM := PySem.W.exm_one (M := model X.prog X.w) J1.kIn LT e1
       have named : ∀ {Q : Value → Shared → Prop} {E : Value → Shared → Prop}, Q c { t with heap := hp1 } → wpAny (model X.prog X.w) (X.A.mark (some (.ref ex))) (eval (.Name x np) X.env) Q E { t with heap := hp1 } := fun {Q E} q => by
         obtain ⟨gl, db, hm | ⟨hm, hv, hn⟩⟩ := nm
         · exact ld_glob (X := X.suite ex ((ex, o1) :: (X.pn ++ pins))) S1 gl hm q db
         · exact ld_blt (X := X.suite ex ((ex, o1) :: (X.pn ++ pins))) S1 gl hm hv q hn db
       refine named (LM.here ?_)
       cases y with
       | false => exact ih (no rfl)
       | true =>
         refine codeAny_handlers_suite_as (HandSPX.lands_againZ fl1 fun hp2 fl2 up2 => ?_)
         have J2 : Inv X pins σ1 H1 { t with heap := hp2 } := J.landed nb fl2.1 ((up.trans up1).trans up2) os ag
         obtain ⟨o2, vs2, g2, z2, d2⟩ := fl2.there
         refine store_ok (X := X.suite ex ((ex, o2) :: (X.pn ++ pins))) (v := .ref ex) (J2.suite g2 d2 na nL nF) nd ni (.inl nl) rfl (fun t5 S5 => ?_) (.inr nl)
         refine wpAny_mono ((su ex o2 cls d (X.pn ++ pins) z2 ⟨_, d2⟩).run [] t5 _ H1 _ S5 (yes rfl ex na)) (fun f t6 sp => ?_) (fun _ _ z => False.elim z)
         have gone : ∀ {σ6 : L2.St} {H6 : Hp} {Q : Shared → Prop}, Inv (X.suite ex ((ex, o2) :: (X.pn ++ pins))) [] σ6 H6 t6 → (∀ t7, Inv X pins (σ6.set i none) H6 t7 → Q t7) →
             wpAny (model X.prog X.w) X.A (do bindName X.env n .none; unbindBehindTheSuite X.env n hpos) (fun _ t7 => Q t7) X.xe t6 := fun {σ6 H6 Q} S6 hq => gone_ok (S6.unsuite ok) nd ni nl hq
         match f, sp with
         | .next, ⟨_, _, S6, q6⟩ => exact gone S6 fun t7 J7 => ⟨_, _, J7, q6⟩
         | .brk, ⟨_, _, S6, q6⟩ => exact gone S6 fun t7 J7 => ⟨_, _, J7, q6⟩
         | .cont, ⟨_, _, S6, q6⟩ => exact gone S6 fun t7 J7 => ⟨_, _, J7, q6⟩
         | .ret u, ⟨_, _, _, S6, r6, q6⟩ => exact gone S6 fun t7 J7 => ⟨_, _, _, J7, r6, q6⟩
    exact go cl wish
  refine wpAny_mono ((hb (wCl X.K D l) (X.pn ++ pins) _ tk PassesOwn.looking).run [] s0 σ H D (I.toTry _) h) (fun f t1 sp => ?_) fun _ _ z => z
  match f, sp with
  | .next, ⟨_, _, J1, q⟩ => exact wpAny_execs_nil ⟨_, _, J1.ofTry ok, q⟩
  | .brk, ⟨_, _, J1, q⟩ => exact ⟨_, _, J1.ofTry ok, q⟩
  | .cont, ⟨_, _, J1, q⟩ => exact ⟨_, _, J1.ofTry ok, q⟩
  | .ret u, ⟨_, _, _, J1, r, q⟩ => exact ⟨_, _, _, J1.ofTry ok, r, q⟩
end
end Gx
set_option linter.all false
set_option maxRecDepth 100000
set_option maxHeartbeats 4000000
namespace Gx
open PySem PySem.Spec PyProof.Rows L2
/-! ### an own class of exceptions over another one of the text, its __init__ a def: made as a value, raised, caught -/
structure OwnX (K : PySem.W.Frag) (mg : Str → Option Value) (x q : Str) (st : Stmt) (fld : Str) (C : Addr) : Prop where
  oex : OexC K C
  gl : mg x = some (.ref C)
  no : PySem.W.findIn K (.ref C) fld = some none
  xf : XfC K C
  ini : ∃ fI fd, PySem.W.findIn K (.ref C) "__init__" = some (some (.ref fI)) ∧ PySem.W.typeIn K (.ref fI) = some (.type "function") ∧ Fun K "__init__" q st fI fd
theorem ownX {K : PySem.W.Frag} {h : Heap} {mg : Str → Option Value} {x q : Str} {st : Stmt} {fld : Str} {C fI N : Addr} {nm qn : Str} {bs bm : List Value} {sn : List Str} {sub : List Value} {ab : Bool} {col : Option Bool} {dd : Option Addr} {m0 m1 m2 m3 m5 : Option Value} {oc kV dc pm cd ct : Value} {od an : Option Addr} {sl : Array (Option Value)}
    (X : K.In h) (G : h.Ns mainGlobals mg) (e0 : PySem.W.nsIn K mainGlobals x = some (some (.ref C))) (e1 : K.lookup C = some (excClassObj nm qn C N bs bm true sn sub ab col dd m0 m1 m2 m3 m5 "ValueError.__new__")) (e1b : PySem.HandSPX.refsVE bm = true)
    (e2 : PySem.W.findIn K (.ref C) "__setattr__" = some (some (.builtin "object.__setattr__"))) (e3 : PySem.W.subIn K (.ref C) (.type "BaseException") = some true) (e4 : PySem.W.typeIn K (.ref C) = some (.type "type")) (e5 : PySem.W.keepIn K (.ref C) = true)
    (e6 : PySem.W.findIn K (.ref C) fld = some none) (e7 : PySem.W.findIn K (.ref C) "__init__" = some (some (.ref fI))) (e8 : PySem.W.typeIn K (.ref fI) = some (.type "function"))
    (e9 : K.lookup fI = some ⟨oc, od, .func (PySem.W.fnOf "__init__" q (defArgs st) (defBody st) (defScope st) .none kV dc pm an cd ct), sl⟩) (e10 : PySem.W.codeIn K cd q = true) (e11 : PySem.W.keepIn K (.ref fI) = true)
    (x1 : PySem.W.findIn K (.ref C) "__getattribute__" = some (some (.builtin "BaseException.__getattribute__"))) (x2 : PySem.W.findIn K (.ref C) "__getattr__" = some none) (x3 : PySem.W.hasDictIn K C = true) : OwnX K mg x q st fld C :=
  ⟨⟨⟨_, _, _, _, _, _, _, _, _, _, _, _, _, _, _, e1, e1b⟩, e2, e3, e4, e5⟩, PySem.W.mg_of X G e0, e6, ⟨x1, x2, e3, x3⟩, ⟨fI, _, e7, e8, fun_mk e9 e10 e11⟩⟩
theorem exm_sub {K : PySem.W.Frag} {D C : Addr} {b : Bool} (h1 : PySem.W.subIn K (.ref C) (.type "BaseException") = some true) (h2 : PySem.W.isClsIn K C = true) (h3 : PySem.W.typeIn K (.ref C) = some (.type "type")) (h4 : PySem.W.subIn K (.ref D) (.ref C) = some b) :
    PySem.W.exmOne K (.ref D) (.ref C) = some b := by
  have c1 : (PySem.W.subIn K (.ref C) (.type "BaseException") == some true) = true := by rw [h1]; rfl
  have c2 : ((PySem.W.clsIn K C).isSome && PySem.W.typeIn K (.ref C) == some (.type "type")) = true := by
    rw [Bool.and_eq_true]
    exact ⟨h2, by rw [h3]; rfl⟩
  unfold PySem.W.exmOne PySem.W.kitCls
  rw [if_pos c1]
  exact (if_pos c2).trans h4
theorem r_vei {σ : L2.St} {H : Hp} {Q : VK} {K : PySem.W.Frag} {al : TA} (h : al σ H fun vs H1 => ∃ (a C : Addr) (ws : List V), vs = .ref a :: ws ∧ ws.length ≤ 1000 ∧ OexC K C ∧ H1 a = some (exo a C none) ∧ Q .non H1) : tVeI K al σ H Q := h
theorem r_ost {σ : L2.St} {H : Hp} {D : Ends} {K : PySem.W.Frag} {to te : TE} {g : Str} (h : te σ H fun v H1 => to σ H1 fun u H2 => ∃ a C : Addr, u = .ref a ∧ OexC K C ∧ PySem.W.findIn K (.ref C) g = some none ∧ ((H2 a = some (exo a C none) ∧ ∀ d, H2 d = none → d ≠ a → D.nx σ (upd (upd H2 d (exd d [(g, v)])) a (exo a C (some d)))) ∨ ∃ (d : Addr) (gs : List (Str × V)), H2 a = some (exo a C (some d)) ∧ H2 d = some (exd d gs) ∧ gs.length ≤ 900 ∧ D.nx σ (upd H2 d (exd d ((g, v) :: gs))))) : tOst K g to te D σ H := h
theorem none_of {H0 H : Hp} {p : Addr} (s : Same H0 H) (h : H p = none) : H0 p = none := by
  cases e : H0 p with
  | none => rfl
  | some u => rw [s _ _ e] at h; cases h
theorem same_new {H : Hp} {p : Addr} {o : HO} (h : H p = none) : Same H (upd H p o) := fun b u hb => by
  rw [upd_ne (ne_of_none hb h)]
  exact hb
theorem same_upd {H0 H : Hp} {p : Addr} {o : HO} (n : H0 p = none) (s : Same H0 H) : Same H0 (upd H p o) := fun c u h => by
  rw [upd_ne fun z => by subst z; rw [n] at h; cases h]
  exact s _ _ h
theorem r_mkV1 {σ : L2.St} {H : Hp} {Q : VK} {K : PySem.W.Frag} {C : Addr} {g : Str} {v : V} (O : OexC K C) (no : PySem.W.findIn K (.ref C) g = some none)
    (q : ∀ a d H', H a = none → Same H H' → H' a = some (exo a C (some d)) → H' d = some (exd d [(g, v)]) → Q (.ref a) H') : tMkV C (spEI K C g) (tCons (tC v) tNil) σ H Q := by
  refine ⟨Nat.le_of_ble_eq_true rfl, fun a ha => ⟨a, v, rfl, O, no, upd_same, fun d hd n => ⟨rfl, ?_⟩⟩⟩
  have hd0 : H d = none := by rwa [upd_ne n] at hd
  refine q a d _ ha (same_upd ha (same_upd hd0 (same_new ha))) upd_same ?_
  rw [upd_ne n]
  exact upd_same
/-- raise C(e) -/
def tRs (K : PySem.W.Frag) (C : Addr) (g : Str) (E : XK) (ta : TA) : TS := fun _ σ H => tMkO C (spEI K C g) [] ta σ H fun cls d H' => E cls d H'
section
variable {X : Cx} {x q : Str} {st : Stmt} {g : Str} {C : Addr} {e : Expr} {ta : TA} {p pos pos2 : Pos} {E : XK}
theorem ps_rs (O : OwnX X.K X.mg x q st g C) (ok : ∀ {fI fd}, Fun X.K "__init__" q st fI fd → FnOk X.prog X.w X.K X.mg X.base CX0 1 fI fd ["self", g] (spEI X.K C g))
    (hb : ∀ (kV doc pm : Value) (an : Option Addr) (cdv ct : Value) (us : List Value), us.length = (["self", g] : List Str).length → bindArgs (PySem.W.fnOf "__init__" q (defArgs st) (defBody st) (defScope st) .none kV doc pm an cdv ct) ⟨us, []⟩ = pure ((["self", g] : List Str).zip us))
    (hr : Room 2 X.A) (hc : X.calm = true) (tk : Takes X (fun cls d _ H => E cls d H)) (hg : Gl X x) (ha : PA X [e] ta)
    (hdb : (x == ("__debug__" : Str)) = false := by decide) (he : starEach [e] X.env = (false, eval e X.env) :: starEach [] X.env := by rfl) (hpl : (backTo pos (starEach [] X.env)).any (·.1) = false := by rfl) :
    PS X (.Raise (some (.Call (.Name x p) [e] [] pos)) none pos2) (tRs X.K C g E ta) := by
  obtain ⟨fI, fd, i1, i2, F⟩ := O.ini
  exact ps_raise hc tk (pmk_oex (dvs := []) O.oex i1 i2 (ok F) hr (F.binds hb) .nil pass0 hg O.gl ha hdb he hpl)
end
theorem r_rs {σ : L2.St} {H : Hp} {D : Ends} {E : XK} {K : PySem.W.Frag} {C : Addr} {g : Str} {i : Nat} {v : V} (O : OexC K C) (no : PySem.W.findIn K (.ref C) g = some none) (h : σ[i]? = some (some v))
    (q : ∀ d H', Same H H' → H' d = some (.xd [(g, v)]) → E (.ref C) (some d) H') : tRs K C g E (tCons (tVar i) tNil) D σ H := by
  refine ⟨v, h, Nat.le_of_ble_eq_true rfl, fun a ha => ⟨a, v, rfl, O, no, upd_same, fun d hd n => ⟨rfl, d, _, upd_same, ?_, ?_, q d _ ?_ upd_same⟩⟩⟩
  · rw [upd_ne n]
    exact upd_same
  · rwa [upd_ne n] at hd
  · have hd0 : H d = none := by rwa [upd_ne n] at hd
    refine same_upd hd0 fun c u hc => ?_
    have ca : c ≠ a := fun z => by subst z; rw [ha] at hc; cases hc
    have cd : c ≠ d := fun z => by subst z; rw [hd0] at hc; cases hc
    rw [del_ne ca, upd_ne ca, upd_ne cd, upd_ne ca]
    exact hc
end Gx
set_option linter.all false
set_option maxRecDepth 100000
set_option maxHeartbeats 4000000
namespace Gx
open PySem PySem.Spec PyProof.Rows L2
/-! ### things of many kinds: their types, what they show, how they grow -/
inductive TyAt (H : Hp) : V → String → Prop
  | non : TyAt H .non "NoneType"
  | bl (b : Bool) : TyAt H (.bl b) "bool"
  | int (i : Int) : TyAt H (.int i) "int"
  | str (z : Str) : TyAt H (.str z) "str"
  | lst {a : Addr} {xs : List V} (h : H a = some (.lst xs)) : TyAt H (.ref a) "list"
  | tup {a : Addr} {xs : List V} (h : H a = some (.tup xs)) : TyAt H (.ref a) "tuple"
  | dct {a : Addr} {es : List (Key × V)} (h : H a = some (.dK es)) : TyAt H (.ref a) "dict"
theorem TyAt.mono {H H' : Hp} (s : Same H H') {v : V} {T : String} : TyAt H v T → TyAt H' v T
  | .non => .non
  | .bl b => .bl b
  | .int i => .int i
  | .str z => .str z
  | .lst h => .lst (s _ _ h)
  | .tup h => .tup (s _ _ h)
  | .dct h => .dct (s _ _ h)
theorem TyAt.isI {K : PySem.W.Frag} {H : Hp} {v : V} {T U : String} {b : Bool} (h : TyAt H v T) (e : kitB T U = some b) : IsI K H v U b := by
  cases h with
  | non => exact isI_non e
  | bl b => exact isI_bl e
  | int i => exact isI_int e
  | str z => exact isI_str e
  | lst h => exact isI_lst h e
  | tup h => exact isI_tup h e
  | dct h => exact isI_dct h e
theorem TyAt.int_no {K : PySem.W.Frag} {H : Hp} {v : V} {T : String} (h : TyAt H v T) (n : T ≠ "int") : (∃ b, v = .bl b) ∨ IsI K H v "int" false := by
  cases h with
  | non => exact .inr (isI_non (by decide +kernel))
  | bl b => exact .inl ⟨b, rfl⟩
  | int i => exact absurd rfl n
  | str z => exact .inr (isI_str (by decide +kernel))
  | lst h => exact .inr (isI_lst h (by decide +kernel))
  | tup h => exact .inr (isI_tup h (by decide +kernel))
  | dct h => exact .inr (isI_dct h (by decide +kernel))
theorem TyAt.str_no {K : PySem.W.Frag} {H : Hp} {v : V} {T : String} (h : TyAt H v T) (n : T ≠ "str") : IsI K H v "str" false := by
  cases h with
  | non => exact isI_non (by decide +kernel)
  | bl b => exact isI_bl (by decide +kernel)
  | int i => exact isI_int (by decide +kernel)
  | str z => exact absurd rfl n
  | lst h => exact isI_lst h (by decide +kernel)
  | tup h => exact isI_tup h (by decide +kernel)
  | dct h => exact isI_dct h (by decide +kernel)
def okD (d : PyData) : Bool := !d.hasDict && (d.showable && (decide (d.depth ≤ 20) && decide (d.shown.length ≤ sizeLine)))
def okE (es : List (Key × V)) : Bool := es.all (fun p => flatV p.2) && ((dctD es).showable && (decide ((dctD es).depth ≤ 20) && decide ((dctD es).shown.length ≤ sizeLine)))
def dicts4 : List (List (Key × V)) := [[], [(.inr "a", .int 1)], [(.inr "more", .int 1)], [(.inr "a", .int 1), (.inr "more", .int 1)]]
def more (x : V) (j : Nat) : List V := x :: List.replicate j (.str "more")
def okL (x : V) : Bool := flatV x && (List.range 13).all fun j => okD (.list ((more x j).map valD))
inductive Th (H : Hp) : V → String → Nat → Prop
  | non (n : Nat) : Th H .non "NoneType" n
  | bl (b : Bool) (n : Nat) : Th H (.bl b) "bool" n
  | int (i : Int) (n : Nat) (h : i.natAbs < 2 ^ 200) : Th H (.int i) "int" n
  | str (z : Str) (n : Nat) (h : okD (.str z) = true) : Th H (.str z) "str" n
  | tup {a : Addr} (x : V) (n : Nat) (ha : H a = some (.tup [x])) (h : (flatV x && okD (.tuple [valD x])) = true) : Th H (.ref a) "tuple" n
  | lst {a : Addr} (x : V) (j n : Nat) (ha : H a = some (.lst (more x j))) (hj : j ≤ n) (h : okL x = true) : Th H (.ref a) "list" n
  | dct {a : Addr} (es : List (Key × V)) (n : Nat) (ha : H a = some (.dK es)) (h : es ∈ dicts4) : Th H (.ref a) "dict" n
theorem Th.ty {H : Hp} {v : V} {T : String} {n : Nat} : Th H v T n → TyAt H v T
  | .non _ => .non
  | .bl b _ => .bl b
  | .int i _ _ => .int i
  | .str z _ _ => .str z
  | .tup _ _ h _ => .tup h
  | .lst _ _ _ h _ _ => .lst h
  | .dct _ _ h _ => .dct h
theorem Th.mono {H H' : Hp} (s : Same H H') {v : V} {T : String} {n m : Nat} (l : n ≤ m) : Th H v T n → Th H' v T m
  | .non _ => .non _
  | .bl b _ => .bl b _
  | .int i _ h => .int i _ h
  | .str z _ h => .str z _ h
  | .tup x _ h k => .tup x _ (s _ _ h) k
  | .lst x j _ h hj k => .lst x j _ (s _ _ h) (Nat.le_trans hj l) k
  | .dct es _ h k => .dct es _ (s _ _ h) k
theorem isD_flat {H : Hp} : ∀ {v : V}, flatV v = true → Gx.IsD H (valD v) v
  | .non, _ => by unfold valD Gx.IsD; rfl
  | .bl b, _ => by unfold valD Gx.IsD; rfl
  | .int i, _ => by unfold valD Gx.IsD; rfl
  | .str z, _ => by unfold valD Gx.IsD; rfl
theorem allD_flat {H : Hp} : ∀ {xs : List V}, xs.all flatV = true → Gx.AllD H (xs.map valD) xs
  | [], _ => by simp [Gx.AllD]
  | x :: xs, h => by
    rw [List.all_cons, Bool.and_eq_true] at h
    show Gx.AllD H (valD x :: xs.map valD) (x :: xs)
    unfold Gx.AllD
    exact ⟨_, _, rfl, isD_flat h.1, allD_flat h.2⟩
theorem more_flat {x : V} (h : flatV x = true) (j : Nat) : (more x j).all flatV = true := by
  unfold more
  rw [List.all_cons, h, Bool.true_and]
  exact List.all_eq_true.mpr fun v hv => by rw [List.eq_of_mem_replicate hv]; rfl
theorem shown_dict {H : Hp} {a : Addr} {es : List (Key × V)} (ha : H a = some (.dK es)) (h : okE es = true) : ∀ Q : VK, Q (.str (dctD es).shown) H → rShowE [.ref a] H Q := fun Q q => by
  unfold okE at h
  rw [Bool.and_eq_true, Bool.and_eq_true, Bool.and_eq_true] at h
  exact .inr (.inl ⟨a, es, rfl, ha, h.1, h.2.1, of_decide_eq_true h.2.2.1, of_decide_eq_true h.2.2.2, q⟩)
theorem dicts_ok : ∀ es ∈ dicts4, okE es = true := by
  have h : dicts4.all okE = true := by decide +kernel
  exact List.all_eq_true.mp h
theorem dicts_grow : ∀ es ∈ dicts4, putK es (.inr "more") (.int 1) ∈ dicts4 := by
  intro es he
  unfold dicts4 at he
  rcases List.mem_cons.mp he with rfl | he
  · exact .tail _ (.tail _ (.head _))
  rcases List.mem_cons.mp he with rfl | he
  · exact .tail _ (.tail _ (.tail _ (.head _)))
  rcases List.mem_cons.mp he with rfl | he
  · exact .tail _ (.tail _ (.head _))
  obtain rfl := List.mem_singleton.mp he
  exact .tail _ (.tail _ (.tail _ (.head _)))
theorem dicts_len : ∀ es ∈ dicts4, es.length < 1000 := by
  have h : dicts4.all (fun es => decide (es.length < 1000)) = true := by decide +kernel
  exact fun es he => of_decide_eq_true (List.all_eq_true.mp h es he)
theorem Th.shows {H : Hp} {v : V} {T : String} {n : Nat} (h : Th H v T n) (hn : n ≤ 12) : ∃ z : Str, ∀ Q : VK, Q (.str z) H → rShowE [v] H Q := by
  cases h with
  | non => exact ⟨_, fun Q q => r_sh .none (by unfold Gx.IsD; rfl) (by decide +kernel) q⟩
  | bl b => exact ⟨_, fun Q q => r_shB q⟩
  | int i _ h => exact ⟨_, fun Q q => r_shI h q⟩
  | str z _ h => exact ⟨_, fun Q q => r_sh (.str z) (by unfold Gx.IsD; rfl) h q⟩
  | tup x _ ha h =>
    rw [Bool.and_eq_true] at h
    refine ⟨_, fun Q q => r_sh (.tuple [valD x]) ?_ h.2 q⟩
    unfold Gx.IsD
    exact ⟨_, _, rfl, ha, allD_flat (xs := [x]) (by simp [h.1])⟩
  | lst x j _ ha hj h =>
    unfold okL at h
    rw [Bool.and_eq_true] at h
    refine ⟨_, fun Q q => r_sh (.list ((more x j).map valD)) ?_ (List.all_eq_true.mp h.2 j (List.mem_range.mpr (by omega))) q⟩
    unfold Gx.IsD
    exact ⟨_, _, rfl, ha, allD_flat (more_flat h.1 j)⟩
  | dct es _ ha h => exact ⟨_, shown_dict ha (dicts_ok es h)⟩
theorem more_app (x : V) (j : Nat) : more x j ++ [.str "more"] = more x (j + 1) := by
  unfold more
  rw [List.cons_append, List.replicate_succ']
/-- a list, a dict, neither -/
theorem Th.kinds {K : PySem.W.Frag} {H : Hp} {v : V} {T : String} {n : Nat} (h : Th H v T n) :
    (∃ a x j, v = .ref a ∧ T = "list" ∧ H a = some (.lst (more x j)) ∧ j ≤ n ∧ okL x = true) ∨ (∃ a es, v = .ref a ∧ T = "dict" ∧ H a = some (.dK es) ∧ es ∈ dicts4) ∨ (IsI K H v "list" false ∧ IsI K H v "dict" false) := by
  cases h with
  | non => exact .inr (.inr ⟨isI_non (by decide +kernel), isI_non (by decide +kernel)⟩)
  | bl b => exact .inr (.inr ⟨isI_bl (by decide +kernel), isI_bl (by decide +kernel)⟩)
  | int i _ h => exact .inr (.inr ⟨isI_int (by decide +kernel), isI_int (by decide +kernel)⟩)
  | str z _ h => exact .inr (.inr ⟨isI_str (by decide +kernel), isI_str (by decide +kernel)⟩)
  | tup x _ ha h => exact .inr (.inr ⟨isI_tup ha (by decide +kernel), isI_tup ha (by decide +kernel)⟩)
  | lst x j _ ha hj h => exact .inl ⟨_, x, j, rfl, rfl, ha, hj, h⟩
  | dct es _ ha h => exact .inr (.inl ⟨_, es, rfl, rfl, ha, h⟩)
/-! ### what _law_same asks: found, word, thing -/
/-- all but the thing itself stays -/
def But (v : V) (H H' : Hp) : Prop := ∀ c u, v ≠ .ref c → H c = some u → H' c = some u
theorem But.trans {v : V} {H H1 H2 : Hp} (a : But v H H1) (b : But v H1 H2) : But v H H2 := fun c u n h => b c u n (a c u n h)
theorem But.of {v : V} {H H' : Hp} (s : Same H H') : But v H H' := fun c u _ h => s c u h
def spSame : Sp := fun vs H Q _ => ∃ (p : Addr) (wd : Str) (t : V) (T : String) (n : Nat), vs = [.ref p, .str wd, t] ∧ H p = some (.lst [.str wd, t]) ∧ Th H t T n ∧ n < 12 ∧ t ≠ .ref p ∧ ∀ H', But t H H' → Th H' t T (n + 1) → Q (.bl true) H'
theorem r_dset {a : Addr} {i v : V} {H : Hp} {QH : Hp → Prop} {k : Key} {es : List (Key × V)} (e : i = kV k) (h : H a = some (.dK es)) (l : es.length < 1000) (q : QH (upd H a (.dK (putK es k v)))) : rSetD (.ref a) i v H QH := by
  subst e
  exact ⟨a, _, rfl, .k h (Nat.lt_trans l (by rw [sizeLine_eq]; decide)), q⟩
end Gx
set_option linter.all false
set_option maxRecDepth 100000
set_option maxHeartbeats 4000000
namespace Gx
open PySem PySem.Spec PyProof.Rows L2
/-! ### things that grow beside each other and beside a box -/
theorem Th.at {H H' : Hp} {v : V} {T : String} {n m : Nat} (l : n ≤ m) (h : Th H v T n) (s : ∀ c u, v = .ref c → H c = some u → H' c = some u) : Th H' v T m := by
  cases h with
  | non => exact .non _
  | bl b => exact .bl b _
  | int i _ h => exact .int i _ h
  | str z _ h => exact .str z _ h
  | tup x _ ha k => exact .tup x _ (s _ _ rfl ha) k
  | lst x j _ ha hj k => exact .lst x j _ (s _ _ rfl ha) (Nat.le_trans hj l) k
  | dct es _ ha k => exact .dct es _ (s _ _ rfl ha) k
theorem Th.there {H : Hp} {v : V} {T : String} {n : Nat} (h : Th H v T n) : ∀ c, v = .ref c → H c ≠ none := by
  intro c e
  cases h with
  | tup x _ ha k => cases e; rw [ha]; exact Option.some_ne_none _
  | lst x j _ ha hj k => cases e; rw [ha]; exact Option.some_ne_none _
  | dct es _ ha k => cases e; rw [ha]; exact Option.some_ne_none _
  | _ => cases e
theorem Bx.same {n : Nat} {H H' : Hp} {b : Addr} (B : Bx n H b) (s : Same H H') : Bx n H' b := by
  obtain ⟨x, y, z, e, r⟩ := B
  exact ⟨x, y, z, s _ _ e, r⟩
theorem Bx.but {n : Nat} {H H' : Hp} {b : Addr} {v : V} (B : Bx n H b) (nb : v ≠ .ref b) (s : But v H H') : Bx n H' b := by
  obtain ⟨x, y, z, e, r⟩ := B
  exact ⟨x, y, z, s _ _ nb e, r⟩
theorem Bx.some {n : Nat} {H : Hp} {b : Addr} (B : Bx n H b) : H b ≠ none := by
  obtain ⟨x, y, z, e, r⟩ := B
  rw [e]
  exact Option.some_ne_none _
theorem Off.same {b : Addr} {H H' : Hp} (s : Same H H') : Off b H H' := fun c u _ h => s c u h
structure Keep (G0 : Hp) (b : Addr) (n : Nat) (u v : V) (S T : String) (H : Hp) (m k : Nat) : Prop where
  bx : Bx n H b
  a : Th H u S m
  c : Th H v T k
  of : Off b G0 H
section
variable {G0 : Hp} {b : Addr} {n : Nat} {u v : V} {S T : String} {H H1 H2 : Hp} {m k : Nat}
theorem Keep.fst (h : Keep G0 b n u v S T H m k) (s : Same H H1) (bt : But u H1 H2) (t : Th H2 u S (m + 1)) (nb : u ≠ .ref b) (nv : ∀ c, u = .ref c → v ≠ .ref c) (ng : ∀ c, u = .ref c → G0 c = none) : Keep G0 b n u v S T H2 (m + 1) k :=
  ⟨(h.bx.same s).but nb bt, t, h.c.at (Nat.le_refl _) fun c o e hc => bt c o (fun z => nv c z e) (s c o hc), fun c o nc hc => bt c o (fun z => by rw [ng c z] at hc; cases hc) (s c o (h.of c o nc hc))⟩
theorem Keep.snd (h : Keep G0 b n u v S T H m k) (s : Same H H1) (bt : But v H1 H2) (t : Th H2 v T (k + 1)) (nb : v ≠ .ref b) (nv : ∀ c, u = .ref c → v ≠ .ref c) (ng : ∀ c, v = .ref c → G0 c = none) : Keep G0 b n u v S T H2 m (k + 1) :=
  ⟨(h.bx.same s).but nb bt, h.a.at (Nat.le_refl _) fun c o e hc => bt c o (nv c e) (s c o hc), t, fun c o nc hc => bt c o (fun z => by rw [ng c z] at hc; cases hc) (s c o (h.of c o nc hc))⟩
end
/-- an item of a list at an open place, with what holds of all of them -/
theorem r_ixP {K : PySem.W.Frag} {H : Hp} {Q : VK} {p : Addr} {d : Int} {xs : List V} {R : V → Prop} (h : H p = some (.lst xs)) (hx : ∀ v ∈ xs, R v) (h0 : 0 ≤ d) (h1 : d < (xs.length : Int)) (q : ∀ v, R v → Q v H) : rIxL K (.ref p) (.int d) H Q := by
  have hd : d.toNat < xs.length := by omega
  exact ⟨p, xs, d, _, rfl, rfl, SqL.of h, at_pos h0 hd, q _ (hx _ (List.getElem_mem hd))⟩
theorem r_dn {σ : L2.St} {H : Hp} {Q : VK} (q : ∀ p, H p = none → Q (.ref p) (upd H p (.dK []))) : tDNewK σ H Q := q
theorem r_disp1 {σ : L2.St} {H : Hp} {Q : VK} {z : Str} {v : V} (q : ∀ p, H p = none → Q (.ref p) (upd H p (.dK [(.inr z, v)]))) : tDisp [(tC (.str z), tC v)] σ H Q := fun p hp => by
  refine ⟨upd_same, [(.inr z, v)], rfl, Nat.le_of_ble_eq_true rfl, ?_⟩
  rw [upd_upd]
  exact q p hp
end Gx
set_option linter.all false
set_option maxRecDepth 100000
set_option maxHeartbeats 4000000
namespace K3
open PySem PySem.Spec PyProof.Rows L2 Gx
local macro_rules | `(tactic| walk_at "rd1") => `(tactic| with_reducible first
  | refine r_var rfl ?_ | refine r_c ?_ | refine r_op ?_ | refine r_un ?_ | refine r_I0 ?_ | refine r_neg ?_ | refine r_test ?_ | refine r_B ?_ | refine r_bl ?_ | refine r_blx ?_
  | refine r_seq ?_ | refine r_ret ?_ | refine r_asg ?_ | refine r_name ?_ | refine r_gsub ?_ | refine r_if ?_ | refine r_next ?_ | refine r_drop ?_ | refine r_cb ?_ | refine r_nil ?_ | refine r_cons ?_
  | refine r_g ?_ | refine r_k ?_ | refine r_lst ?_ | refine r_tup ?_ | refine r_notV ?_ | refine r_ifE ?_ | refine r_and ?_ | refine r_or ?_ | refine r_not ?_ | refine r_chain ?_
  | refine r_sl ?_ | refine r_part ?_ | refine r_nop ?_ | refine r_par3 ?_ | refine r_is3 ?_ | refine r_par2 ?_ | refine r_is2 ?_ | refine r_m0 ?_ | refine r_ei ?_ | refine r_nx ?_ | refine r_rt ?_ | refine r_ct ?_ | refine r_eq rfl ?_ | refine r_ne rfl ?_ | refine iteT ?_ | refine iteF ?_ | refine iteNF ?_ | refine iteNT ?_
  | (refine r_fdivK ?hc ?_; (case hc => decide +kernel)) | (refine r_modK ?hc ?_; (case hc => decide +kernel)) | (refine r_mulL ?hc ?_; (case hc => decide +kernel)) | (refine r_mulR ?hc ?_; (case hc => decide +kernel)) | (refine r_powK ?hc ?_; (case hc => decide +kernel)) | fail "no step")
local macro_rules | `(tactic| walk_at "rd") => `(tactic| repeat' walk_at "rd1")
def tp (i : Nat) : Stmt := PySem.Challenge.pw_cordsounds_k03_tables_and_noise.main.body.getD i (.Pass ⟨0, 0, 0, 0⟩)
abbrev s_is_number : Stmt := tp 12
abbrev s_is_whole : Stmt := tp 13
abbrev s_is_table : Stmt := tp 14
abbrev s_table_worth : Stmt := tp 15
abbrev s_saw : Stmt := tp 16
abbrev s_square : Stmt := tp 17
abbrev s_tri : Stmt := tp 18
abbrev s_pulse : Stmt := tp 19
abbrev s_hump : Stmt := tp 20
abbrev s_next_noise : Stmt := tp 22
abbrev s_law_cell : Stmt := tp 24
abbrev s_law_box : Stmt := tp 25
abbrev s_take : Stmt := tp 26
abbrev s_law_due : Stmt := tp 27
abbrev s_law_tables_right : Stmt := tp 28
abbrev s_law_noise_right : Stmt := tp 29
abbrev s_law_caught : Stmt := tp 30
abbrev s_law_same : Stmt := tp 31
abbrev s_law_refused_right : Stmt := tp 32
abbrev s_law : Stmt := tp 33
abbrev s_init_NoNumber : Stmt := inClass (tp 4) 0
abbrev s_init_NoTable : Stmt := inClass (tp 5) 0
structure Txt (K : PySem.W.Frag) (mg : Str → Option Value) (w : World) (CN CT : Addr) : Prop where
  d_is_number : DefIn K mg "is_number" s_is_number
  d_is_whole : DefIn K mg "is_whole" s_is_whole
  d_is_table : DefIn K mg "is_table" s_is_table
  d_table_worth : DefIn K mg "table_worth" s_table_worth
  d_saw : DefIn K mg "_saw" s_saw
  d_square : DefIn K mg "_square" s_square
  d_tri : DefIn K mg "_tri" s_tri
  d_pulse : DefIn K mg "_pulse" s_pulse
  d_hump : DefIn K mg "_hump" s_hump
  d_next_noise : DefIn K mg "next_noise" s_next_noise
  d_cell : DefIn K mg "_law_cell" s_law_cell
  d_box : DefIn K mg "_law_box" s_law_box
  d_take : DefIn K mg "_law_take" s_take
  d_due : DefIn K mg "_law_due" s_law_due
  d_tables_right : DefIn K mg "_law_tables_right" s_law_tables_right
  d_noise_right : DefIn K mg "_law_noise_right" s_law_noise_right
  d_caught : DefIn K mg "_law_caught" s_law_caught
  d_same : DefIn K mg "_law_same" s_law_same
  d_refused_right : DefIn K mg "_law_refused_right" s_law_refused_right
  g_LEAST : ∃ u, mg "LEAST" = some u ∧ RelV (.int (-2048)) u
  g_GREATEST : ∃ u, mg "GREATEST" = some u ∧ RelV (.int (2047)) u
  g_WIDTH : ∃ u, mg "WIDTH" = some u ∧ RelV (.int (4096)) u
  g_PLACES : ∃ u, mg "PLACES" = some u ∧ RelV (.int (64)) u
  g_TABLES : ∃ a, mg "TABLES" = some (.ref a) ∧ ∀ H, SqT K H a [.str "saw", .str "square", .str "tri", .str "pulse", .str "hump"]
  n_isinstance : mg "isinstance" = none
  n_int : mg "int" = none
  n_bool : mg "bool" = none
  n_str : mg "str" = none
  n_list : mg "list" = none
  n_dict : mg "dict" = none
  n_len : mg "len" = none
  n_max : mg "max" = none
  n_min : mg "min" = none
  n_repr : mg "repr" = none
  n_range : mg "range" = none
  u_SoundError : ∃ S, UpC K mg "SoundError" S
  x_NoNumber : OwnX K mg "NoNumber" "NoNumber.__init__" s_init_NoNumber "found" CN
  x_NoTable : OwnX K mg "NoTable" "NoTable.__init__" s_init_NoTable "found" CT
  m_CT_CT : PySem.W.exmOne K (.ref CT) (.ref CT) = some true
  m_CN_CT : PySem.W.exmOne K (.ref CN) (.ref CT) = some false
  m_CN_CN : PySem.W.exmOne K (.ref CN) (.ref CN) = some true
  g_worths : ∃ D fs fq ft fp fh, mg "_TABLE_WORTHS" = some (.ref D) ∧ (mg "_saw" = some (.ref fs) ∧ KDct K w D "saw" (.ref fs)) ∧ (mg "_square" = some (.ref fq) ∧ KDct K w D "square" (.ref fq)) ∧ (mg "_tri" = some (.ref ft) ∧ KDct K w D "tri" (.ref ft)) ∧ (mg "_pulse" = some (.ref fp) ∧ KDct K w D "pulse" (.ref fp)) ∧ (mg "_hump" = some (.ref fh) ∧ KDct K w D "hump" (.ref fh))
section
variable {P : Program} {w : World} {K : PySem.W.Frag} {mg : Str → Option Value} {base : Heap} {f : Addr} {fd : FuncData} {CN CT : Addr}
theorem sc_init_NoNumber : FnScope ["self", "found"] ["self", "found"] (defScope s_init_NoNumber) := ⟨rfl, rfl, rfl, by decide +kernel, rfl, by decide +kernel, by decide +kernel⟩
theorem ok_init_NoNumber (T : Txt K mg w CN CT) {C : Addr} (F : Fun K "__init__" "NoNumber.__init__" s_init_NoNumber f fd) : FnOk P w K mg base CX0 1 f fd ["self", "found"] (spEI K C "found") := by
  obtain ⟨S, U⟩ := T.u_SoundError
  refine F.ok sc_init_NoNumber (fun vs H Q E h => ?_) (fun cdv A outer s H vs Q E hr h => ?_)
  · obtain ⟨_, _, rfl, _⟩ := h
    rfl
  · obtain ⟨a, v, rfl, O, no, ha, q⟩ := h
    refine ⟨_, (pss_cons (ps_expr (pe_upinit U (pa_cons (pv 0) (pa_cons pe_str pa_nil)))) (pss_one (ps_ost (pv 0) (pv 1)))), ?_⟩
    refine r_seq ?_
    refine r_drop ?_
    refine r_vei ?_
    walk_at "rd"
    refine ⟨a, C, _, rfl, by decide, O, ha, ?_⟩
    walk_at "rd"
    refine r_ost ?_
    walk_at "rd"
    exact ⟨a, C, rfl, O, no, .inl ⟨ha, fun d hd n => q d hd n⟩⟩
theorem b_init_NoNumber : ∀ (kV doc pm : Value) (an : Option Addr) (cdv ct : Value) (us : List Value), us.length = (["self", "found"] : List Str).length → bindArgs (PySem.W.fnOf "__init__" "NoNumber.__init__" (defArgs s_init_NoNumber) (defBody s_init_NoNumber) (defScope s_init_NoNumber) .none kV doc pm an cdv ct) ⟨us, []⟩ = pure ((["self", "found"] : List Str).zip us) :=
  fun _ _ _ _ _ _ us hl => match us, hl with | [_, _], _ => rfl
theorem sc_init_NoTable : FnScope ["self", "found"] ["self", "found"] (defScope s_init_NoTable) := ⟨rfl, rfl, rfl, by decide +kernel, rfl, by decide +kernel, by decide +kernel⟩
theorem ok_init_NoTable (T : Txt K mg w CN CT) {C : Addr} (F : Fun K "__init__" "NoTable.__init__" s_init_NoTable f fd) : FnOk P w K mg base CX0 1 f fd ["self", "found"] (spEI K C "found") := by
  obtain ⟨S, U⟩ := T.u_SoundError
  refine F.ok sc_init_NoTable (fun vs H Q E h => ?_) (fun cdv A outer s H vs Q E hr h => ?_)
  · obtain ⟨_, _, rfl, _⟩ := h
    rfl
  · obtain ⟨a, v, rfl, O, no, ha, q⟩ := h
    refine ⟨_, (pss_cons (ps_expr (pe_upinit U (pa_cons (pv 0) (pa_cons pe_str pa_nil)))) (pss_one (ps_ost (pv 0) (pv 1)))), ?_⟩
    refine r_seq ?_
    refine r_drop ?_
    refine r_vei ?_
    walk_at "rd"
    refine ⟨a, C, _, rfl, by decide, O, ha, ?_⟩
    walk_at "rd"
    refine r_ost ?_
    walk_at "rd"
    exact ⟨a, C, rfl, O, no, .inl ⟨ha, fun d hd n => q d hd n⟩⟩
theorem b_init_NoTable : ∀ (kV doc pm : Value) (an : Option Addr) (cdv ct : Value) (us : List Value), us.length = (["self", "found"] : List Str).length → bindArgs (PySem.W.fnOf "__init__" "NoTable.__init__" (defArgs s_init_NoTable) (defBody s_init_NoTable) (defScope s_init_NoTable) .none kV doc pm an cdv ct) ⟨us, []⟩ = pure ((["self", "found"] : List Str).zip us) :=
  fun _ _ _ _ _ _ us hl => match us, hl with | [_, _], _ => rfl
theorem sc_take : FnScope ["box", "size", "digit", "one", "two"] ["box", "size"] (defScope s_take) := ⟨rfl, rfl, rfl, by decide +kernel, rfl, by decide +kernel, by decide +kernel⟩
theorem ok_take (F : Fun K "_law_take" "_law_take" s_take f fd) : FnG P w K mg base (L2.CX P w) 1 f fd ["box", "size"] spTake := by
  refine fnG F sc_take (fun vs H Q E h => ?_) (fun cdv A outer s H vs Q E hG hr h => ?_)
  · obtain ⟨b, size, n, rfl, _⟩ := h
    rfl
  · obtain ⟨b, size, n, rfl, h1, h2, B, hn, k⟩ := h
    have nd := sc_take.nd
    refine ⟨_, (pss_cons (ps_if (pt_cmpR op_gt (pe_ix ix_list (pv 0) pe_int (fun _ _ => rfl)) pe_int (nomark _)) (pss_cons (ps_set (i := 2) nd rfl (Or.inl rfl) (pe_op op_mod (pe_ix ix_list (pv 0) pe_int (fun _ _ => rfl)) (pv 1)))
        (pss_cons (ps_asg (pe_op op_fdivW (pe_ix ix_list (pv 0) pe_int (fun _ _ => rfl)) (pv 1)) (pg_sub (pv 0) pe_int set_list))
        (pss_one (ps_ret (pv 2))))) pss_nil)
        (pss_cons (ps_asg (pe_op op_add (pe_ix ix_list (pv 0) pe_int (fun _ _ => rfl)) pe_int) (pg_sub (pv 0) pe_int set_list))
        (pss_cons (ps_set (i := 3) nd rfl (Or.inl rfl) (pe_op op_mod (pe_op op_pow (pe_op op_add (pe_op op_add (pe_ix ix_list (pv 0) pe_int (fun _ _ => rfl)) (pe_op op_mul pe_int (pe_ix ix_list (pv 0) pe_int (fun _ _ => rfl)))) pe_int) pe_int) pe_int))
        (pss_cons (ps_set (i := 4) nd rfl (Or.inl rfl) (pe_op op_mod (pe_op op_pow (pe_op op_add (pe_op op_add (pe_op op_fdiv (pv 3) pe_int) (pe_op op_mul pe_int (pe_ix ix_list (pv 0) pe_int (fun _ _ => rfl)))) pe_int) pe_int) pe_int))
        (pss_one (ps_ret (pe_op op_mod (pe_op op_add (pe_op op_fdiv (pv 3) pe_int) (pe_op op_mul pe_int (pe_op op_fdiv (pv 4) pe_int))) (pv 1)))))))), ?_⟩
    obtain ⟨x, y, z, hb, x0, y0, y1, z0, z1⟩ := B
    walk_at "rd"
    refine r_ixLs (j := 0) hb rfl rfl ?_
    walk_at "rd"
    refine ite2 (fun c => ?_) (fun c => ?_)
    · have c' : 0 < x := of_decide_eq_true c
      walk_at "rd"
      refine r_ixLs (j := 0) hb rfl rfl ?_
      walk_at "rd"
      refine r_I h1 ?_
      walk_at "rd"
      refine r_ixLs (j := 0) hb rfl rfl ?_
      walk_at "rd"
      refine r_I (wide_div (b := 200) h1 (by omega) (by decide) (by decide)) ?_
      walk_at "rd"
      refine r_setL hb rfl ?_
      walk_at "rd"
      exact k (x % size) _ (Int.emod_nonneg _ (by omega)) (Int.emod_lt_of_pos _ h1) ⟨x / size, y, z, upd_same, Int.ediv_nonneg x0 (by omega), y0, y1, z0, by omega⟩ Off.upd
    · walk_at "rd"
      refine r_ixLs (j := 2) hb rfl rfl ?_
      walk_at "rd"
      refine r_setL hb rfl ?_
      walk_at "rd"
      refine r_ixLs (j := 1) upd_same rfl rfl ?_
      walk_at "rd"
      refine r_ixLs (j := 2) upd_same rfl rfl ?_
      walk_at "rd"
      refine r_I ⟨by decide, by decide, by omega⟩ ?_
      walk_at "rd"
      generalize (y + 15485867 * (z + 1) + 3) ^ (5 : Int).toNat = one0
      have o1 := Int.emod_nonneg one0 (show (2147483647 : Int) ≠ 0 by decide)
      have o2 := Int.emod_lt_of_pos one0 (show (0 : Int) < 2147483647 by decide)
      revert o1 o2
      generalize one0 % 2147483647 = one
      intro o1 o2
      refine r_ixLs (j := 2) upd_same rfl rfl ?_
      walk_at "rd"
      refine r_I ⟨by decide, by decide, by omega⟩ ?_
      walk_at "rd"
      refine r_I h1 ?_
      walk_at "rd"
      exact k _ _ (Int.emod_nonneg _ (by omega)) (Int.emod_lt_of_pos _ h1) ⟨x, y, z + 1, upd_same, x0, y0, y1, by omega, by omega⟩ Off.upd
theorem c_law_take (T : Txt K mg w CN CT) : Cal P w K mg base (L2.CX P w) 1 "_law_take" ["box", "size"] spTake :=
  T.d_take.cal (fun F => ok_take F) fun _ _ _ _ _ _ us hl => match us, hl with | [_, _], _ => rfl
/-! ### _law_cell, _law_box, _law_sign -/
def spCell (K : PySem.W.Frag) : Sp := fun vs H Q _ => ∃ (a : Addr) (ns : List Int) (j : Nat), vs = [.ref a, .int (j : Int)] ∧ SqL K H a (ns.map V.int) ∧ ∀ i : Int, Q (.int i) H
theorem sc_law_cell : FnScope ["script", "k"] ["script", "k"] (defScope s_law_cell) := ⟨rfl, rfl, rfl, by decide +kernel, rfl, by decide +kernel, by decide +kernel⟩
theorem ok_law_cell (T : Txt K mg w CN CT) (F : Fun K "_law_cell" "_law_cell" s_law_cell f fd) : FnG P w K mg base (L2.CX P w) 1 f fd ["script", "k"] (spCell K) := by
  refine fnG F sc_law_cell (fun vs H Q E h => ?_) (fun cdv A outer s H vs Q E hG hr h => ?_)
  · obtain ⟨_, _, _, rfl, _⟩ := h
    rfl
  · obtain ⟨a, ns, j, rfl, hS, q⟩ := h
    refine ⟨_, (pss_cons (ps_if (pt_cmpR op_lt (pv 1) (pe_callB call_len_seq (by rfl) T.n_len PySem.boot_len (pa_cons (pv 0) pa_nil)) (nomark _)) (pss_one (ps_ret (pe_ix ix_list (pv 0) (pv 1) (fun _ _ => rfl)))) pss_nil)
        (pss_one (ps_ret (pe_op op_add (pe_op op_mul pe_int (pv 1)) pe_int)))), ?_⟩
    walk_at "rd"
    refine ⟨a, _, rfl, .inl hS, ?_⟩
    walk_at "rd"
    refine ite2 (fun c => ?_) (fun c => ?_)
    · have c' : (j : Int) < ((ns.map V.int).length : Int) := of_decide_eq_true c
      have hj : j < ns.length := by rw [List.length_map] at c'; omega
      walk_at "rd"
      refine r_ixL (j := j) (v := .int ns[j]) hS rfl (by simp [hj]) ?_
      exact q _
    · walk_at "rd"
      exact q _
theorem c_law_cell (T : Txt K mg w CN CT) : Cal P w K mg base (L2.CX P w) 1 "_law_cell" ["script", "k"] (spCell K) :=
  T.d_cell.cal (fun F => ok_law_cell T F) fun _ _ _ _ _ _ us hl => match us, hl with | [_, _], _ => rfl
def spBox : Sp := fun vs H Q _ => ∃ i : Int, vs = [.int i] ∧ ∀ b H', H b = none → Bx 0 H' b → Same H H' → Q (.ref b) H'
theorem sc_law_box : FnScope ["cell"] ["cell"] (defScope s_law_box) := ⟨rfl, rfl, rfl, by decide +kernel, rfl, by decide +kernel, by decide +kernel⟩
theorem ok_law_box (T : Txt K mg w CN CT) (F : Fun K "_law_box" "_law_box" s_law_box f fd) : FnG P w K mg base (L2.CX P w) 1 f fd ["cell"] spBox := by
  refine fnG F sc_law_box (fun vs H Q E h => ?_) (fun cdv A outer s H vs Q E hG hr h => ?_)
  · obtain ⟨_, rfl, _⟩ := h
    rfl
  · obtain ⟨i, rfl, q⟩ := h
    refine ⟨_, (pss_one (ps_ret (pe_lst (pa_cons (pe_callB (call_max2 rfl) (by rfl) T.n_max (by decide +kernel) (pa_cons pe_int (pa_cons (pe_op op_sub (pv 0) (pe_op op_pow pe_int pe_int)) pa_nil))) (pa_cons (pe_op op_mod (pv 0) pe_int) (pa_cons pe_int pa_nil)))))), ?_⟩
    walk_at "rd"
    refine ⟨_, _, rfl, ?_⟩
    walk_at "rd"
    refine r_new rfl fun b hb => ?_
    refine q b _ hb ⟨_, _, 0, upd_same, ?_, Int.emod_nonneg _ (by decide), ?_, by decide, by decide⟩ fun c o hc => by rw [upd_ne (ne_of_none hc hb)]; exact hc
    · split <;> omega
    · have := Int.emod_lt_of_pos i (show (0 : Int) < 2147483629 by decide)
      omega
theorem c_law_box (T : Txt K mg w CN CT) : Cal P w K mg base (L2.CX P w) 1 "_law_box" ["cell"] spBox :=
  T.d_box.cal (fun F => ok_law_box T F) fun _ _ _ _ _ _ us hl => match us, hl with | [_], _ => rfl
def spNumber (K : PySem.W.Frag) : Sp := fun vs H Q _ => ∃ v bi bb, vs = [v] ∧ IsI K H v "int" bi ∧ (bi = true → IsI K H v "bool" bb) ∧ Q (.bl (bi && !bb)) H
theorem sc_is_number : FnScope ["thing"] ["thing"] (defScope s_is_number) := ⟨rfl, rfl, rfl, by decide +kernel, rfl, by decide +kernel, by decide +kernel⟩
theorem ok_is_number (T : Txt K mg w CN CT) (F : Fun K "is_number" "is_number" s_is_number f fd) : FnG P w K mg base (L2.CX P w) 1 f fd ["thing"] (spNumber K) := by
  refine fnG F sc_is_number (fun vs H Q E h => ?_) (fun cdv A outer s H vs Q E hG hr h => ?_)
  · obtain ⟨_, _, _, rfl, _⟩ := h
    rfl
  · obtain ⟨v, bi, bb, rfl, h1, h2, q⟩ := h
    refine ⟨_, (pss_one (ps_ret (pe_and (pe_callB call_is2 (by rfl) T.n_isinstance (by decide +kernel) (pa_cons (pv 0) (pa_cons (pe_tyn "int" T.n_int (by decide +kernel)) pa_nil))) (pe_one (pe_not (pe_callB call_is2 (by rfl) T.n_isinstance (by decide +kernel) (pa_cons (pv 0) (pa_cons (pe_tyn "bool" T.n_bool (by decide +kernel)) pa_nil)))))))), ?_⟩
    walk_at "rd"
    refine r_andV ?_
    walk_at "rd"
    refine ⟨v, "int", bi, rfl, h1, ?_⟩
    walk_at "rd"
    cases bi with
    | false =>
      walk_at "rd"
      exact q
    | true =>
      walk_at "rd"
      refine ⟨v, "bool", bb, rfl, h2 rfl, ?_⟩
      walk_at "rd"
      exact q
theorem c_is_number (T : Txt K mg w CN CT) : Cal P w K mg base (L2.CX P w) 1 "is_number" ["thing"] (spNumber K) :=
  T.d_is_number.cal (fun F => ok_is_number T F) fun _ _ _ _ _ _ us hl => match us, hl with | [_], _ => rfl
def NoInt (K : PySem.W.Frag) (H : Hp) (v : V) : Prop := (∃ b, v = .bl b) ∨ IsI K H v "int" false
def NoStr (K : PySem.W.Frag) (H : Hp) (v : V) : Prop := IsI K H v "str" false
def spWhole (K : PySem.W.Frag) : Sp := fun vs H Q _ => ∃ v lo hi b, vs = [v, .int lo, .int hi] ∧ ((∃ i, v = .int i ∧ b = (decide (lo ≤ i) && decide (i ≤ hi))) ∨ (NoInt K H v ∧ b = false)) ∧ Q (.bl b) H
theorem sc_is_whole : FnScope ["thing", "low", "high"] ["thing", "low", "high"] (defScope s_is_whole) := ⟨rfl, rfl, rfl, by decide +kernel, rfl, by decide +kernel, by decide +kernel⟩
theorem ok_is_whole (T : Txt K mg w CN CT) (F : Fun K "is_whole" "is_whole" s_is_whole f fd) : FnG P w K mg base (L2.CX P w) 2 f fd ["thing", "low", "high"] (spWhole K) := by
  refine fnG F sc_is_whole (fun vs H Q E h => ?_) (fun cdv A outer s H vs Q E hG hr h => ?_)
  · obtain ⟨_, _, _, _, rfl, _⟩ := h
    rfl
  · obtain ⟨v, lo, hi, b, rfl, h1, q⟩ := h
    refine ⟨_, (pss_one (ps_ret (pe_and (pe_g (c_is_number T) hG (hr.mono (by decide)) (fun _ => passS) (pa_cons (pv 0) pa_nil)) (pe_one (pe_chain op_le op_le (pv 1) (pv 0) (pv 2)))))), ?_⟩
    walk_at "rd"
    refine r_andV ?_
    walk_at "rd"
    rcases h1 with ⟨i, rfl, rfl⟩ | ⟨n, rfl⟩
    · refine ⟨_, true, false, rfl, isI_int (by decide +kernel), fun _ => isI_int (by decide +kernel), ?_⟩
      walk_at "rd"
      refine iteT ?_
      walk_at "rd"
      by_cases c : lo ≤ i
      · rw [decide_eq_true c] at q ⊢
        walk_at "rd"
        exact q
      · rw [decide_eq_false c] at q ⊢
        walk_at "rd"
        exact q
    · rcases n with ⟨c, rfl⟩ | n
      · refine ⟨_, true, true, rfl, isI_bl (by decide +kernel), fun _ => isI_bl (by decide +kernel), ?_⟩
        walk_at "rd"
        exact iteF q
      · refine ⟨_, false, false, rfl, n, fun z => (by cases z), ?_⟩
        walk_at "rd"
        exact iteF q
theorem c_is_whole (T : Txt K mg w CN CT) : Cal P w K mg base (L2.CX P w) 2 "is_whole" ["thing", "low", "high"] (spWhole K) :=
  T.d_is_whole.cal (fun F => ok_is_whole T F) fun _ _ _ _ _ _ us hl => match us, hl with | [_, _, _], _ => rfl
theorem k_is_whole (T : Txt K mg w CN CT) : CalK P w K mg base (L2.CX P w) 2 "is_whole" ["thing", "low", "high"] (spWhole K) ["high", "low", "thing"] k3 :=
  T.d_is_whole.calk (fun F => ok_is_whole T F) k3 k3 (fun _ _ _ _ _ _ us ws hl => match us, ws, hl with | [], [_, _, _], _ => rfl) k3_rel
def memB (z : Str) (l : List Str) : Bool := inV (.str z) (l.map V.str)
def tables : List Str := ["saw", "square", "tri", "pulse", "hump"]
/-- whether v is a text of l -/
def spIn (K : PySem.W.Frag) (l : List Str) : Sp := fun vs H Q _ => ∃ v b, vs = [v] ∧ ((∃ z, v = .str z ∧ b = memB z l) ∨ (NoStr K H v ∧ b = false)) ∧ Q (.bl b) H
theorem sc_is_table : FnScope ["thing"] ["thing"] (defScope s_is_table) := ⟨rfl, rfl, rfl, by decide +kernel, rfl, by decide +kernel, by decide +kernel⟩
theorem ok_is_table (T : Txt K mg w CN CT) (F : Fun K "is_table" "is_table" s_is_table f fd) : FnG P w K mg base (L2.CX P w) 1 f fd ["thing"] (spIn K tables) := by
  refine fnG F sc_is_table (fun vs H Q E h => ?_) (fun cdv A outer s H vs Q E hG hr h => ?_)
  · obtain ⟨_, _, rfl, _⟩ := h
    rfl
  · obtain ⟨v, b, rfl, h1, q⟩ := h
    obtain ⟨am, g_TABLES, hm⟩ := T.g_TABLES
    refine ⟨_, (pss_one (ps_ret (pe_and (pe_callB call_is2 (by rfl) T.n_isinstance (by decide +kernel) (pa_cons (pv 0) (pa_cons (pe_tyn "str" T.n_str (by decide +kernel)) pa_nil))) (pe_one (pe_cmpR op_in_seq (pv 0) (pe_gc (v := .ref am) ⟨_, g_TABLES, rfl⟩) (by rfl)))))), ?_⟩
    walk_at "rd"
    refine r_andV ?_
    walk_at "rd"
    rcases h1 with ⟨z, rfl, rfl⟩ | ⟨n, rfl⟩
    · refine ⟨_, "str", true, rfl, isI_str (by decide +kernel), ?_⟩
      walk_at "rd"
      exact ⟨am, _, rfl, .inr (hm H), rfl, rfl, q⟩
    · refine ⟨_, "str", false, rfl, n, ?_⟩
      walk_at "rd"
      exact q
theorem c_is_table (T : Txt K mg w CN CT) : Cal P w K mg base (L2.CX P w) 1 "is_table" ["thing"] (spIn K tables) :=
  T.d_is_table.cal (fun F => ok_is_table T F) fun _ _ _ _ _ _ us hl => match us, hl with | [_], _ => rfl
end
end K3
set_option linter.all false
set_option maxRecDepth 100000
set_option maxHeartbeats 4000000
namespace K3
open PySem PySem.Spec PyProof.Rows L2 Gx
local macro_rules | `(tactic| walk_at "rd1") => `(tactic| with_reducible first
  | refine r_var rfl ?_ | refine r_c ?_ | refine r_op ?_ | refine r_un ?_ | refine r_I0 ?_ | refine r_neg ?_ | refine r_test ?_ | refine r_B ?_ | refine r_bl ?_ | refine r_blx ?_
  | refine r_seq ?_ | refine r_ret ?_ | refine r_asg ?_ | refine r_name ?_ | refine r_gsub ?_ | refine r_if ?_ | refine r_next ?_ | refine r_drop ?_ | refine r_cb ?_ | refine r_nil ?_ | refine r_cons ?_
  | refine r_g ?_ | refine r_k ?_ | refine r_lst ?_ | refine r_tup ?_ | refine r_notV ?_ | refine r_ifE ?_ | refine r_and ?_ | refine r_or ?_ | refine r_not ?_ | refine r_chain ?_
  | refine r_sl ?_ | refine r_part ?_ | refine r_nop ?_ | refine r_par3 ?_ | refine r_is3 ?_ | refine r_par2 ?_ | refine r_is2 ?_ | refine r_m0 ?_ | refine r_ei ?_ | refine r_nx ?_ | refine r_rt ?_ | refine r_ct ?_ | refine r_eq rfl ?_ | refine r_ne rfl ?_ | refine iteT ?_ | refine iteF ?_ | refine iteNF ?_ | refine iteNT ?_
  | (refine r_fdivK ?hc ?_; (case hc => decide +kernel)) | (refine r_modK ?hc ?_; (case hc => decide +kernel)) | (refine r_mulL ?hc ?_; (case hc => decide +kernel)) | (refine r_mulR ?hc ?_; (case hc => decide +kernel)) | (refine r_powK ?hc ?_; (case hc => decide +kernel)) | fail "no step")
local macro_rules | `(tactic| walk_at "rd") => `(tactic| repeat' walk_at "rd1")
section
variable {P : Program} {w : World} {K : PySem.W.Frag} {mg : Str → Option Value} {base : Heap} {f : Addr} {fd : FuncData} {CN CT : Addr}
theorem r_calv {Cl : Addr → Sp → Prop} {E : L2.St → XK} {te : TE} {ta : TA} {σ : L2.St} {H : Hp} {Q : VK} (h : te σ H fun u H1 => ∃ f sp, u = .ref f ∧ Cl f sp ∧ ta σ H1 fun vs H2 => sp vs H2 Q (E σ)) : tCalV Cl E te ta σ H Q := h
/-! ### the tables by the rule -/
def gSaw (p : Int) : Int := 64 * p - 2048
def gSquare (p : Int) : Int := if p < 32 then 2047 else -2048
def gTri (p : Int) : Int := if p < 32 then 128 * p - 2048 else 2047 - 128 * (p - 32)
def gPulse (p : Int) : Int := if p < 8 then 2047 else -2048
def gHump (p : Int) : Int := if p < 32 then min 2047 (8 * p * (32 - p)) else 0 - 8 * (p - 32) * (64 - p)
def Tab (z : Str) (g : Int → Int) : Prop := (z = "saw" ∧ g = gSaw) ∨ (z = "square" ∧ g = gSquare) ∨ (z = "tri" ∧ g = gTri) ∨ (z = "pulse" ∧ g = gPulse) ∨ (z = "hump" ∧ g = gHump)
theorem Tab.small {z : Str} {g : Int → Int} (h : Tab z g) {p : Int} (h0 : 0 ≤ p) (h1 : p < 64) : (g p).natAbs < 2 ^ 200 := by
  have all : ∀ g : Int → Int, ((List.range 64).all fun n => decide ((g n).natAbs < 2 ^ 200)) = true → (g p).natAbs < 2 ^ 200 := fun g hg => by
    have q := of_decide_eq_true (List.all_eq_true.mp hg p.toNat (List.mem_range.mpr (by omega)))
    rwa [Int.toNat_of_nonneg h0] at q
  rcases h with ⟨_, rfl⟩ | ⟨_, rfl⟩ | ⟨_, rfl⟩ | ⟨_, rfl⟩ | ⟨_, rfl⟩ <;> exact all _ (by decide +kernel)
theorem tab_in {z : Str} {g : Int → Int} (h : Tab z g) : memB z tables = true := by
  rcases h with ⟨rfl, _⟩ | ⟨rfl, _⟩ | ⟨rfl, _⟩ | ⟨rfl, _⟩ | ⟨rfl, _⟩ <;> decide +kernel
def spT (g : Int → Int) : Sp := fun vs H Q _ => ∃ p, vs = [.int p] ∧ 0 ≤ p ∧ p < 64 ∧ Q (.int (g p)) H
theorem sc_saw : FnScope ["place"] ["place"] (defScope s_saw) := ⟨rfl, rfl, rfl, by decide +kernel, rfl, by decide +kernel, by decide +kernel⟩
theorem ok_saw (T : Txt K mg w CN CT) (F : Fun K "_saw" "_saw" s_saw f fd) : FnG P w K mg base (L2.CX P w) 1 f fd ["place"] (spT gSaw) := by
  refine fnG F sc_saw (fun vs H Q E h => ?_) (fun cdv A outer s H vs Q E hG hr h => ?_)
  · obtain ⟨_, rfl, _⟩ := h
    rfl
  · obtain ⟨p, rfl, p0, p1, q⟩ := h
    refine ⟨_, (pss_one (ps_ret (pe_op op_sub (pe_op op_mul pe_int (pv 0)) pe_int))), ?_⟩
    walk_at "rd"
    exact q
theorem c_saw (T : Txt K mg w CN CT) : Cal P w K mg base (L2.CX P w) 1 "_saw" ["place"] (spT gSaw) :=
  T.d_saw.cal (fun F => ok_saw T F) fun _ _ _ _ _ _ us hl => match us, hl with | [_], _ => rfl
theorem sc_square : FnScope ["place"] ["place"] (defScope s_square) := ⟨rfl, rfl, rfl, by decide +kernel, rfl, by decide +kernel, by decide +kernel⟩
theorem ok_square (T : Txt K mg w CN CT) (F : Fun K "_square" "_square" s_square f fd) : FnG P w K mg base (L2.CX P w) 1 f fd ["place"] (spT gSquare) := by
  refine fnG F sc_square (fun vs H Q E h => ?_) (fun cdv A outer s H vs Q E hG hr h => ?_)
  · obtain ⟨_, rfl, _⟩ := h
    rfl
  · obtain ⟨p, rfl, p0, p1, q⟩ := h
    refine ⟨_, (pss_one (ps_ret (pe_ifExp (pt_cmpR op_lt (pv 0) pe_int (nomark _)) (pe_gc T.g_GREATEST) (pe_gc T.g_LEAST)))), ?_⟩
    walk_at "rd"
    unfold gSquare at q
    refine ite2 (fun c => ?_) (fun c => ?_)
    · walk_at "rd"
      rwa [if_pos (of_decide_eq_true c)] at q
    · walk_at "rd"
      rwa [if_neg fun z => c (decide_eq_true z)] at q
theorem c_square (T : Txt K mg w CN CT) : Cal P w K mg base (L2.CX P w) 1 "_square" ["place"] (spT gSquare) :=
  T.d_square.cal (fun F => ok_square T F) fun _ _ _ _ _ _ us hl => match us, hl with | [_], _ => rfl
theorem sc_tri : FnScope ["place"] ["place"] (defScope s_tri) := ⟨rfl, rfl, rfl, by decide +kernel, rfl, by decide +kernel, by decide +kernel⟩
theorem ok_tri (T : Txt K mg w CN CT) (F : Fun K "_tri" "_tri" s_tri f fd) : FnG P w K mg base (L2.CX P w) 1 f fd ["place"] (spT gTri) := by
  refine fnG F sc_tri (fun vs H Q E h => ?_) (fun cdv A outer s H vs Q E hG hr h => ?_)
  · obtain ⟨_, rfl, _⟩ := h
    rfl
  · obtain ⟨p, rfl, p0, p1, q⟩ := h
    refine ⟨_, (pss_cons (ps_if (pt_cmpR op_lt (pv 0) pe_int (nomark _)) (pss_one (ps_ret (pe_op op_sub (pe_op op_mul pe_int (pv 0)) pe_int))) pss_nil)
        (pss_one (ps_ret (pe_op op_sub pe_int (pe_op op_mul pe_int (pe_op op_sub (pv 0) pe_int)))))), ?_⟩
    walk_at "rd"
    unfold gTri at q
    refine ite2 (fun c => ?_) (fun c => ?_)
    · walk_at "rd"
      rwa [if_pos (of_decide_eq_true c)] at q
    · walk_at "rd"
      rwa [if_neg fun z => c (decide_eq_true z)] at q
theorem c_tri (T : Txt K mg w CN CT) : Cal P w K mg base (L2.CX P w) 1 "_tri" ["place"] (spT gTri) :=
  T.d_tri.cal (fun F => ok_tri T F) fun _ _ _ _ _ _ us hl => match us, hl with | [_], _ => rfl
theorem sc_pulse : FnScope ["place"] ["place"] (defScope s_pulse) := ⟨rfl, rfl, rfl, by decide +kernel, rfl, by decide +kernel, by decide +kernel⟩
theorem ok_pulse (T : Txt K mg w CN CT) (F : Fun K "_pulse" "_pulse" s_pulse f fd) : FnG P w K mg base (L2.CX P w) 1 f fd ["place"] (spT gPulse) := by
  refine fnG F sc_pulse (fun vs H Q E h => ?_) (fun cdv A outer s H vs Q E hG hr h => ?_)
  · obtain ⟨_, rfl, _⟩ := h
    rfl
  · obtain ⟨p, rfl, p0, p1, q⟩ := h
    refine ⟨_, (pss_one (ps_ret (pe_ifExp (pt_cmpR op_lt (pv 0) pe_int (nomark _)) (pe_gc T.g_GREATEST) (pe_gc T.g_LEAST)))), ?_⟩
    walk_at "rd"
    unfold gPulse at q
    refine ite2 (fun c => ?_) (fun c => ?_)
    · walk_at "rd"
      rwa [if_pos (of_decide_eq_true c)] at q
    · walk_at "rd"
      rwa [if_neg fun z => c (decide_eq_true z)] at q
theorem c_pulse (T : Txt K mg w CN CT) : Cal P w K mg base (L2.CX P w) 1 "_pulse" ["place"] (spT gPulse) :=
  T.d_pulse.cal (fun F => ok_pulse T F) fun _ _ _ _ _ _ us hl => match us, hl with | [_], _ => rfl
theorem sc_hump : FnScope ["place"] ["place"] (defScope s_hump) := ⟨rfl, rfl, rfl, by decide +kernel, rfl, by decide +kernel, by decide +kernel⟩
theorem ok_hump (T : Txt K mg w CN CT) (F : Fun K "_hump" "_hump" s_hump f fd) : FnG P w K mg base (L2.CX P w) 1 f fd ["place"] (spT gHump) := by
  refine fnG F sc_hump (fun vs H Q E h => ?_) (fun cdv A outer s H vs Q E hG hr h => ?_)
  · obtain ⟨_, rfl, _⟩ := h
    rfl
  · obtain ⟨p, rfl, p0, p1, q⟩ := h
    refine ⟨_, (pss_cons (ps_if (pt_cmpR op_lt (pv 0) pe_int (nomark _)) (pss_one (ps_ret (pe_callB (call_min2 rfl) (by rfl) T.n_min (by decide +kernel) (pa_cons pe_int (pa_cons (pe_op op_mul (pe_op op_mul pe_int (pv 0)) (pe_op op_sub pe_int (pv 0))) pa_nil))))) pss_nil)
        (pss_one (ps_ret (pe_op op_sub pe_int (pe_op op_mul (pe_op op_mul pe_int (pe_op op_sub (pv 0) pe_int)) (pe_op op_sub pe_int (pv 0))))))), ?_⟩
    walk_at "rd"
    unfold gHump at q
    refine ite2 (fun c => ?_) (fun c => ?_)
    · walk_at "rd"
      refine r_I (show CMul _ _ from .inl ⟨by omega, by omega⟩) ?_
      walk_at "rd"
      refine ⟨_, _, rfl, ?_⟩
      walk_at "rd"
      rw [if_pos (of_decide_eq_true c)] at q
      refine (congrArg (fun n => Q (.int n) H) ?_).mp q
      split <;> omega
    · walk_at "rd"
      refine r_I (show CMul _ _ from .inl ⟨by omega, by omega⟩) ?_
      walk_at "rd"
      rwa [if_neg fun z => c (decide_eq_true z)] at q
theorem c_hump (T : Txt K mg w CN CT) : Cal P w K mg base (L2.CX P w) 1 "_hump" ["place"] (spT gHump) :=
  T.d_hump.cal (fun F => ok_hump T F) fun _ _ _ _ _ _ us hl => match us, hl with | [_], _ => rfl
/-! ### table_worth, next_noise -/
/-- no whole number from lo to hi -/
def NoWhole (K : PySem.W.Frag) (H : Hp) (lo hi : Int) (v : V) : Prop := NoInt K H v ∨ ∃ i, v = .int i ∧ (decide (lo ≤ i) && decide (i ≤ hi)) = false
def NoTab (K : PySem.W.Frag) (H : Hp) (v : V) : Prop := NoStr K H v ∨ ∃ z, v = .str z ∧ memB z tables = false
def spWorthT (K : PySem.W.Frag) (CN CT : Addr) : Sp := fun vs H Q E => ∃ v m, vs = [v, m] ∧ ((∃ z g p, v = .str z ∧ m = .int p ∧ Tab z g ∧ 0 ≤ p ∧ p < 64 ∧ Q (.int (g p)) H) ∨
  (NoTab K H v ∧ ∀ d H', Same H H' → H' d = some (.xd [("found", v)]) → E (.ref CT) (some d) H') ∨ ((∃ z g, v = .str z ∧ Tab z g) ∧ NoWhole K H 0 63 m ∧ ∀ d H', Same H H' → H' d = some (.xd [("found", m)]) → E (.ref CN) (some d) H'))
theorem sc_table_worth : FnScope ["table", "place", "tell"] ["table", "place"] (defScope s_table_worth) := ⟨rfl, rfl, rfl, by decide +kernel, rfl, by decide +kernel, by decide +kernel⟩
theorem whole_of {H : Hp} {lo hi : Int} {v : V} (h : NoWhole K H lo hi v) {Q : VK} (q : Q (.bl false) H) : spWhole K [v, .int lo, .int hi] H Q E0 := by
  rcases h with h | ⟨i, rfl, h⟩
  · exact ⟨v, lo, hi, false, rfl, .inr ⟨h, rfl⟩, q⟩
  · exact ⟨_, lo, hi, false, rfl, .inl ⟨i, rfl, h.symm⟩, q⟩
theorem ok_table_worth (T : Txt K mg w CN CT) (F : Fun K "table_worth" "table_worth" s_table_worth f fd) : FnG P w K mg base (L2.CX P w) 4 f fd ["table", "place"] (spWorthT K CN CT) := by
  obtain ⟨a__TABLE_WORTHS, f1, f2, f3, f4, f5, g__TABLE_WORTHS, ⟨m1, k1⟩, ⟨m2, k2⟩, ⟨m3, k3⟩, ⟨m4, k4⟩, ⟨m5, k5⟩⟩ := T.g_worths
  refine fnG F sc_table_worth (fun vs H Q E h => ?_) (fun cdv A outer s H vs Q E hG hr h => ?_)
  · obtain ⟨_, _, rfl, _⟩ := h
    rfl
  · obtain ⟨v, m, rfl, h⟩ := h
    have nd := sc_table_worth.nd
    have at1 : ∀ {x : Str} {sp : Sp} {a : Addr}, Cal P w K mg base (L2.CX P w) 1 x ["place"] sp → mg x = some (.ref a) → ∃ fd ps, FnG P w K mg base (L2.CX P w) 1 a fd ps sp ∧ PySem.W.keepIn K (.ref a) = true ∧ Binds K fd ps [] := fun {x sp a} C hm => by
      obtain ⟨g, dg, FG, mG, kG, bG⟩ := C.ex
      have e := mG.symm.trans hm
      cases e
      exact ⟨dg, _, FG, kG, bG⟩
    have cl : ∀ a sp, (a = f1 ∧ sp = spT gSaw) ∨ (a = f2 ∧ sp = spT gSquare) ∨ (a = f3 ∧ sp = spT gTri) ∨ (a = f4 ∧ sp = spT gPulse) ∨ (a = f5 ∧ sp = spT gHump) → ∃ fd ps, FnG P w K mg base (L2.CX P w) 1 a fd ps sp ∧ PySem.W.keepIn K (.ref a) = true ∧ Binds K fd ps [] := by
      rintro a sp (⟨rfl, rfl⟩ | ⟨rfl, rfl⟩ | ⟨rfl, rfl⟩ | ⟨rfl, rfl⟩ | ⟨rfl, rfl⟩)
      · exact at1 (c_saw T) m1
      · exact at1 (c_square T) m2
      · exact at1 (c_tri T) m3
      · exact at1 (c_pulse T) m4
      · exact at1 (c_hump T) m5
    refine ⟨_, (pss_cons (ps_if (pt_not (pt_val (pe_g (c_is_table T) hG (hr.mono (by decide)) (fun _ => passS) (pa_cons (pv 0) pa_nil)))) (pss_one (ps_rs T.x_NoTable (ok_init_NoTable T) b_init_NoTable (hr.mono (by decide)) rfl (takes_of rfl rfl rfl rfl) rfl (pa_cons (pv 0) pa_nil))) pss_nil)
        (pss_cons (ps_if (pt_not (pt_val (pe_g (c_is_whole T) hG (hr.mono (by decide)) (fun _ => passS) (pa_cons (pv 1) (pa_cons pe_int (pa_cons (pe_op op_sub (pe_gc T.g_PLACES) pe_int) pa_nil)))))) (pss_one (ps_rs T.x_NoNumber (ok_init_NoNumber T) b_init_NoNumber (hr.mono (by decide)) rfl (takes_of rfl rfl rfl rfl) rfl (pa_cons (pv 1) pa_nil))) pss_nil)
        (pss_cons (ps_set (i := 2) nd rfl (Or.inl rfl) (pe_ix ix_kdict (pe_gc (v := .ref a__TABLE_WORTHS) ⟨_, g__TABLE_WORTHS, rfl⟩) (pv 0) (fun _ _ => rfl)))
        (pss_one (ps_ret (pe_calv cl hG (hr.mono (by decide)) (fun _ => passS) (pv 2) (pa_cons (pv 1) pa_nil))))))), ?_⟩
    walk_at "rd"
    rcases h with ⟨z, g, p, rfl, rfl, tb, p0, p1, q⟩ | ⟨no, e⟩ | ⟨⟨z, g, rfl, tb⟩, no, e⟩
    · refine ⟨_, true, rfl, .inl ⟨z, rfl, (tab_in tb).symm⟩, ?_⟩
      walk_at "rd"
      refine ⟨_, _, _, true, rfl, .inl ⟨p, rfl, ?_⟩, ?_⟩
      · rw [decide_eq_true p0, decide_eq_true (show p ≤ 64 - 1 by omega)]
        rfl
      walk_at "rd"
      rcases tb with ⟨rfl, rfl⟩ | ⟨rfl, rfl⟩ | ⟨rfl, rfl⟩ | ⟨rfl, rfl⟩ | ⟨rfl, rfl⟩
      · refine ⟨_, _, _, rfl, rfl, k1, ?_⟩
        walk_at "rd"
        refine r_calv ?_
        walk_at "rd"
        refine ⟨f1, _, rfl, .inl ⟨rfl, rfl⟩, ?_⟩
        walk_at "rd"
        exact ⟨p, rfl, p0, p1, q⟩
      · refine ⟨_, _, _, rfl, rfl, k2, ?_⟩
        walk_at "rd"
        refine r_calv ?_
        walk_at "rd"
        refine ⟨f2, _, rfl, .inr (.inl ⟨rfl, rfl⟩), ?_⟩
        walk_at "rd"
        exact ⟨p, rfl, p0, p1, q⟩
      · refine ⟨_, _, _, rfl, rfl, k3, ?_⟩
        walk_at "rd"
        refine r_calv ?_
        walk_at "rd"
        refine ⟨f3, _, rfl, .inr (.inr (.inl ⟨rfl, rfl⟩)), ?_⟩
        walk_at "rd"
        exact ⟨p, rfl, p0, p1, q⟩
      · refine ⟨_, _, _, rfl, rfl, k4, ?_⟩
        walk_at "rd"
        refine r_calv ?_
        walk_at "rd"
        refine ⟨f4, _, rfl, .inr (.inr (.inr (.inl ⟨rfl, rfl⟩))), ?_⟩
        walk_at "rd"
        exact ⟨p, rfl, p0, p1, q⟩
      · refine ⟨_, _, _, rfl, rfl, k5, ?_⟩
        walk_at "rd"
        refine r_calv ?_
        walk_at "rd"
        refine ⟨f5, _, rfl, .inr (.inr (.inr (.inr ⟨rfl, rfl⟩))), ?_⟩
        walk_at "rd"
        exact ⟨p, rfl, p0, p1, q⟩
    · refine ⟨v, false, rfl, ?_, ?_⟩
      · rcases no with no | ⟨z, rfl, hz⟩
        · exact .inr ⟨no, rfl⟩
        · exact .inl ⟨z, rfl, hz.symm⟩
      walk_at "rd"
      exact r_rs T.x_NoTable.oex T.x_NoTable.no rfl e
    · refine ⟨_, true, rfl, .inl ⟨z, rfl, (tab_in tb).symm⟩, ?_⟩
      walk_at "rd"
      refine whole_of (hi := 64 - 1) no ?_
      walk_at "rd"
      exact r_rs T.x_NoNumber.oex T.x_NoNumber.no rfl e
theorem c_table_worth (T : Txt K mg w CN CT) : Cal P w K mg base (L2.CX P w) 4 "table_worth" ["table", "place"] (spWorthT K CN CT) :=
  T.d_table_worth.cal (fun F => ok_table_worth T F) fun _ _ _ _ _ _ us hl => match us, hl with | [_, _], _ => rfl
theorem k_table_worth (T : Txt K mg w CN CT) : CalK P w K mg base (L2.CX P w) 4 "table_worth" ["table", "place"] (spWorthT K CN CT) ["place", "table"] k2 :=
  T.d_table_worth.calk (fun F => ok_table_worth T F) k2 k2 (fun _ _ _ _ _ _ us ws hl => match us, ws, hl with | [], [_, _], _ => rfl) k2_rel
def spNoise (K : PySem.W.Frag) (CN : Addr) : Sp := fun vs H Q E => ∃ v, vs = [v] ∧ ((∃ p, v = .int p ∧ 0 ≤ p ∧ p < 4096 ∧ Q (.int ((1229 * p + 351) % 4096)) H) ∨ (NoWhole K H 0 4095 v ∧ ∀ d H', Same H H' → H' d = some (.xd [("found", v)]) → E (.ref CN) (some d) H'))
theorem sc_next_noise : FnScope ["state"] ["state"] (defScope s_next_noise) := ⟨rfl, rfl, rfl, by decide +kernel, rfl, by decide +kernel, by decide +kernel⟩
theorem ok_next_noise (T : Txt K mg w CN CT) (F : Fun K "next_noise" "next_noise" s_next_noise f fd) : FnG P w K mg base (L2.CX P w) 4 f fd ["state"] (spNoise K CN) := by
  refine fnG F sc_next_noise (fun vs H Q E h => ?_) (fun cdv A outer s H vs Q E hG hr h => ?_)
  · obtain ⟨_, rfl, _⟩ := h
    rfl
  · obtain ⟨v, rfl, h⟩ := h
    refine ⟨_, (pss_cons (ps_if (pt_not (pt_val (pe_g (c_is_whole T) hG (hr.mono (by decide)) (fun _ => passS) (pa_cons (pv 0) (pa_cons pe_int (pa_cons (pe_op op_sub (pe_gc T.g_WIDTH) pe_int) pa_nil)))))) (pss_one (ps_rs T.x_NoNumber (ok_init_NoNumber T) b_init_NoNumber (hr.mono (by decide)) rfl (takes_of rfl rfl rfl rfl) rfl (pa_cons (pv 0) pa_nil))) pss_nil)
        (pss_one (ps_ret (pe_op op_mod (pe_op op_add (pe_op op_mul pe_int (pv 0)) pe_int) (pe_gc T.g_WIDTH))))), ?_⟩
    walk_at "rd"
    rcases h with ⟨p, rfl, p0, p1, q⟩ | ⟨no, e⟩
    · refine ⟨_, _, _, true, rfl, .inl ⟨p, rfl, ?_⟩, ?_⟩
      · rw [decide_eq_true p0, decide_eq_true (show p ≤ 4096 - 1 by omega)]
        rfl
      walk_at "rd"
      exact q
    · refine whole_of (hi := 4096 - 1) no ?_
      walk_at "rd"
      exact r_rs T.x_NoNumber.oex T.x_NoNumber.no rfl e
theorem c_next_noise (T : Txt K mg w CN CT) : Cal P w K mg base (L2.CX P w) 4 "next_noise" ["state"] (spNoise K CN) :=
  T.d_next_noise.cal (fun F => ok_next_noise T F) fun _ _ _ _ _ _ us hl => match us, hl with | [_], _ => rfl
theorem k_next_noise (T : Txt K mg w CN CT) : CalK P w K mg base (L2.CX P w) 4 "next_noise" ["state"] (spNoise K CN) ["state"] k1 :=
  T.d_next_noise.calk (fun F => ok_next_noise T F) k1 k1 (fun _ _ _ _ _ _ us ws hl => match us, ws, hl with | [], [_], _ => rfl) k1_rel
end
end K3
set_option linter.all false
set_option maxRecDepth 100000
set_option maxHeartbeats 4000000
namespace K3
open PySem PySem.Spec PyProof.Rows L2 Gx
local macro_rules | `(tactic| walk_at "rd1") => `(tactic| with_reducible first
  | refine r_var rfl ?_ | refine r_c ?_ | refine r_op ?_ | refine r_un ?_ | refine r_I0 ?_ | refine r_neg ?_ | refine r_test ?_ | refine r_B ?_ | refine r_bl ?_ | refine r_blx ?_
  | refine r_seq ?_ | refine r_ret ?_ | refine r_asg ?_ | refine r_name ?_ | refine r_gsub ?_ | refine r_if ?_ | refine r_next ?_ | refine r_drop ?_ | refine r_cb ?_ | refine r_nil ?_ | refine r_cons ?_
  | refine r_g ?_ | refine r_k ?_ | refine r_lst ?_ | refine r_tup ?_ | refine r_notV ?_ | refine r_ifE ?_ | refine r_and ?_ | refine r_or ?_ | refine r_not ?_ | refine r_chain ?_
  | refine r_sl ?_ | refine r_part ?_ | refine r_nop ?_ | refine r_par3 ?_ | refine r_is3 ?_ | refine r_par2 ?_ | refine r_is2 ?_ | refine r_m0 ?_ | refine r_ei ?_ | refine r_nx ?_ | refine r_rt ?_ | refine r_ct ?_ | refine r_eq rfl ?_ | refine r_ne rfl ?_ | refine iteT ?_ | refine iteF ?_ | refine iteNF ?_ | refine iteNT ?_
  | (refine r_fdivK ?hc ?_; (case hc => decide +kernel)) | (refine r_modK ?hc ?_; (case hc => decide +kernel)) | (refine r_mulL ?hc ?_; (case hc => decide +kernel)) | (refine r_mulR ?hc ?_; (case hc => decide +kernel)) | (refine r_powK ?hc ?_; (case hc => decide +kernel)) | fail "no step")
local macro_rules | `(tactic| walk_at "rd") => `(tactic| repeat' walk_at "rd1")
section
variable {P : Program} {w : World} {K : PySem.W.Frag} {mg : Str → Option Value} {base : Heap} {f : Addr} {fd : FuncData} {CN CT : Addr}
/-! ### _law_due, _law_tables_right, _law_noise_right -/
def spDue : Sp := fun vs H Q _ => ∃ z g p, vs = [.str z, .int p] ∧ Tab z g ∧ 0 ≤ p ∧ p < 64 ∧ Q (.int (g p)) H
theorem sc_law_due : FnScope ["form", "spot", "back"] ["form", "spot"] (defScope s_law_due) := ⟨rfl, rfl, rfl, by decide +kernel, rfl, by decide +kernel, by decide +kernel⟩
theorem ok_law_due (T : Txt K mg w CN CT) (F : Fun K "_law_due" "_law_due" s_law_due f fd) : FnG P w K mg base (L2.CX P w) 1 f fd ["form", "spot"] spDue := by
  refine fnG F sc_law_due (fun vs H Q E h => ?_) (fun cdv A outer s H vs Q E hG hr h => ?_)
  · obtain ⟨_, _, _, rfl, _⟩ := h
    rfl
  · obtain ⟨z, g, p, rfl, tb, p0, p1, q⟩ := h
    have nd := sc_law_due.nd
    refine ⟨_, (pss_cons (ps_set (i := 2) nd rfl (Or.inl rfl) (pe_op op_sub (pv 1) pe_int))
        (pss_cons (ps_if (pt_cmpR op_eq (pv 0) pe_str (nomark _)) (pss_one (ps_ret (pe_op op_sub (pe_op op_mul pe_int (pv 1)) pe_int))) pss_nil)
        (pss_cons (ps_if (pt_cmpR op_eq (pv 0) pe_str (nomark _)) (pss_one (ps_ret (pe_ifExp (pt_cmpR op_lt (pv 2) pe_int (nomark _)) pe_int (pe_un un_neg pe_int)))) pss_nil)
        (pss_cons (ps_if (pt_cmpR op_eq (pv 0) pe_str (nomark _)) (pss_one (ps_ret (pe_ifExp (pt_cmpR op_lt (pv 2) pe_int (nomark _)) (pe_op op_sub (pe_op op_mul pe_int (pv 1)) pe_int) (pe_op op_sub pe_int (pe_op op_mul pe_int (pv 2)))))) pss_nil)
        (pss_cons (ps_if (pt_cmpR op_eq (pv 0) pe_str (nomark _)) (pss_one (ps_ret (pe_ifExp (pt_cmpR op_lt (pv 1) pe_int (nomark _)) pe_int (pe_un un_neg pe_int)))) pss_nil)
        (pss_cons (ps_if (pt_cmpR op_lt (pv 2) pe_int (nomark _)) (pss_one (ps_ret (pe_callB (call_min2 rfl) (by rfl) T.n_min (by decide +kernel) (pa_cons pe_int (pa_cons (pe_op op_mul (pe_op op_mul pe_int (pv 1)) (pe_op op_sub pe_int (pv 1))) pa_nil))))) pss_nil)
        (pss_one (ps_ret (pe_op op_sub pe_int (pe_op op_mul (pe_op op_mul pe_int (pv 2)) (pe_op op_sub pe_int (pv 1)))))))))))), ?_⟩
    walk_at "rd"
    rcases tb with ⟨rfl, rfl⟩ | ⟨rfl, rfl⟩ | ⟨rfl, rfl⟩ | ⟨rfl, rfl⟩ | ⟨rfl, rfl⟩
    · refine iteTb (by decide +kernel) ?_
      walk_at "rd"
      exact q
    · refine iteFb (by decide +kernel) ?_
      walk_at "rd"
      refine iteTb (by decide +kernel) ?_
      walk_at "rd"
      unfold gSquare at q
      refine ite2 (fun c => ?_) (fun c => ?_)
      · have c : p - 32 < 0 := of_decide_eq_true c
        walk_at "rd"
        rwa [if_pos (by omega)] at q
      · have c : ¬ p - 32 < 0 := fun z => c (decide_eq_true z)
        walk_at "rd"
        rwa [if_neg (by omega)] at q
    · refine iteFb (by decide +kernel) ?_
      walk_at "rd"
      refine iteFb (by decide +kernel) ?_
      walk_at "rd"
      refine iteTb (by decide +kernel) ?_
      walk_at "rd"
      unfold gTri at q
      refine ite2 (fun c => ?_) (fun c => ?_)
      · have c : p - 32 < 0 := of_decide_eq_true c
        walk_at "rd"
        rwa [if_pos (by omega)] at q
      · have c : ¬ p - 32 < 0 := fun z => c (decide_eq_true z)
        walk_at "rd"
        rwa [if_neg (by omega)] at q
    · refine iteFb (by decide +kernel) ?_
      walk_at "rd"
      refine iteFb (by decide +kernel) ?_
      walk_at "rd"
      refine iteFb (by decide +kernel) ?_
      walk_at "rd"
      refine iteTb (by decide +kernel) ?_
      walk_at "rd"
      unfold gPulse at q
      refine ite2 (fun c => ?_) (fun c => ?_)
      · walk_at "rd"
        rwa [if_pos (of_decide_eq_true c)] at q
      · walk_at "rd"
        rwa [if_neg fun z => c (decide_eq_true z)] at q
    · refine iteFb (by decide +kernel) ?_
      walk_at "rd"
      refine iteFb (by decide +kernel) ?_
      walk_at "rd"
      refine iteFb (by decide +kernel) ?_
      walk_at "rd"
      refine iteFb (by decide +kernel) ?_
      walk_at "rd"
      unfold gHump at q
      refine ite2 (fun c => ?_) (fun c => ?_)
      · have c : p - 32 < 0 := of_decide_eq_true c
        walk_at "rd"
        refine r_I (show CMul _ _ from .inl ⟨by omega, by omega⟩) ?_
        walk_at "rd"
        refine ⟨_, _, rfl, ?_⟩
        walk_at "rd"
        rw [if_pos (by omega)] at q
        refine (congrArg (fun n => Q (.int n) H) ?_).mp q
        split <;> omega
      · have c : ¬ p - 32 < 0 := fun z => c (decide_eq_true z)
        walk_at "rd"
        refine r_I (show CMul _ _ from .inl ⟨by omega, by omega⟩) ?_
        walk_at "rd"
        rwa [if_neg (by omega)] at q
theorem c_law_due (T : Txt K mg w CN CT) : Cal P w K mg base (L2.CX P w) 1 "_law_due" ["form", "spot"] spDue :=
  T.d_due.cal (fun F => ok_law_due T F) fun _ _ _ _ _ _ us hl => match us, hl with | [_, _], _ => rfl
def spTabs : Sp := fun vs H Q _ => ∃ (p : Addr) (zs : List Str), vs = [.ref p] ∧ H p = some (.lst (zs.map V.str)) ∧ (∀ z ∈ zs, ∃ g, Tab z g) ∧ Q (.bl true) H
theorem sc_law_tables_right : FnScope ["tables", "form", "spot", "due"] ["tables"] (defScope s_law_tables_right) := ⟨rfl, rfl, rfl, by decide +kernel, rfl, by decide +kernel, by decide +kernel⟩
theorem ok_law_tables_right (T : Txt K mg w CN CT) (F : Fun K "_law_tables_right" "_law_tables_right" s_law_tables_right f fd) : FnG P w K mg base (L2.CX P w) 5 f fd ["tables"] spTabs := by
  refine fnG F sc_law_tables_right (fun vs H Q E h => ?_) (fun cdv A outer s H vs Q E hG hr h => ?_)
  · obtain ⟨_, _, rfl, _⟩ := h
    rfl
  · obtain ⟨p, zs, rfl, hp, tb, q⟩ := h
    have nd := sc_law_tables_right.nd
    refine ⟨_, (pss_cons (ps_for (passes_of rfl) rfl (pi_list (pv 0)) (pg_name (i := 1) nd rfl (Or.inl rfl)) (pss_one (ps_for (passes_of rfl) rfl (pi_range1 rfl T.n_range (pa_cons pe_int pa_nil)) (pg_name (i := 2) nd rfl (Or.inl rfl)) (pss_cons (ps_set (i := 3) nd rfl (Or.inl rfl) (pe_callB (call_showE hG hr.units) (by rfl) T.n_repr (by decide +kernel) (pa_cons (pe_g (c_law_due T) hG (hr.mono (by decide)) (fun _ => passS) (pa_cons (pv 1) (pa_cons (pv 2) pa_nil))) pa_nil)))
        (pss_one (ps_if (PW.pt (pw_or (pt_cmpR op_ne (pe_callB (call_showE hG hr.units) (by rfl) T.n_repr (by decide +kernel) (pa_cons (pe_g (c_table_worth T) hG (hr.mono (by decide)) (fun _ => passS) (pa_cons (pv 1) (pa_cons (pv 2) pa_nil))) pa_nil)) (pv 3) (nomark _)) (pw_or1 (pt_cmpR op_ne (pe_callB (call_showE hG hr.units) (by rfl) T.n_repr (by decide +kernel) (pa_cons (pe_k (k_table_worth T) hG (hr.mono (by decide)) (fun _ => passS) (pk_cons (pv 2) (pk_cons (pv 1) pk_nil))) pa_nil)) (pv 3) (nomark _))))) (pss_one (ps_ret pe_bl)) pss_nil))))))
        (pss_one (ps_ret pe_bl))), ?_⟩
    walk_at "rd"
    refine r_for ?_
    refine r_iList ?_
    walk_at "rd"
    refine ⟨p, rfl, ⟨_, SqL.of hp⟩, ?_⟩
    refine lp_list (xs := zs.map V.str) (fun _ s h => (∃ x1 x2 x3, s = [some (.ref p), x1, x2, x3]) ∧ h = H) ⟨⟨_, _, _, rfl⟩, rfl⟩ (fun _ _ _ _ q => by rw [q.2]; exact SqL.of hp) (fun l x s h hx => ?_) (fun s h q => ?_)
    · rintro ⟨⟨x1, x2, x3, rfl⟩, rfl⟩
      obtain ⟨z, hz, rfl⟩ := List.mem_map.mp (List.mem_of_getElem? hx)
      obtain ⟨g, tg⟩ := tb z hz
      walk_at "rd"
      refine r_for ?_
      refine r_rng1 ?_
      walk_at "rd"
      refine ⟨_, rfl, by decide, by decide, ?_⟩
      refine lp_range (fun _ s h2 => (∃ x2 x3, s = [some (.ref p), some (.str z), x2, x3]) ∧ h2 = h) ⟨⟨_, _, rfl⟩, rfl⟩ (fun j s h2 hj => ?_) (fun s h2 q2 => ?_)
      · rintro ⟨⟨x2, x3, rfl⟩, rfl⟩
        have hj2 : j < 64 := hj
        have j0 : (0 : Int) ≤ 0 + (j : Int) := by omega
        have j1 : (0 : Int) + (j : Int) < 64 := by omega
        have sm := tg.small j0 j1
        walk_at "rd"
        refine ⟨z, g, _, rfl, tg, j0, j1, ?_⟩
        walk_at "rd"
        refine r_shI sm ?_
        walk_at "rd"
        refine ⟨_, _, rfl, .inl ⟨z, g, _, rfl, rfl, tg, j0, j1, ?_⟩⟩
        walk_at "rd"
        refine r_shI sm ?_
        walk_at "rd"
        refine iteNE rfl ?_
        walk_at "rd"
        refine ⟨_, _, rfl, .inl ⟨z, g, _, rfl, rfl, tg, j0, j1, ?_⟩⟩
        walk_at "rd"
        refine r_shI sm ?_
        walk_at "rd"
        refine iteNE rfl ?_
        walk_at "rd"
        exact ⟨⟨_, _, rfl⟩, rfl⟩
      · obtain ⟨⟨x2, x3, rfl⟩, rfl⟩ := q2
        exact ⟨⟨_, _, _, rfl⟩, rfl⟩
    · obtain ⟨⟨x1, x2, x3, rfl⟩, rfl⟩ := q
      walk_at "rd"
      assumption
theorem c_law_tables_right (T : Txt K mg w CN CT) : Cal P w K mg base (L2.CX P w) 5 "_law_tables_right" ["tables"] spTabs :=
  T.d_tables_right.cal (fun F => ok_law_tables_right T F) fun _ _ _ _ _ _ us hl => match us, hl with | [_], _ => rfl
def spNoiseR : Sp := fun vs H Q _ => ∃ i, vs = [.int i] ∧ 0 ≤ i ∧ i < 4096 ∧ Q (.bl true) H
theorem sc_law_noise_right : FnScope ["seed_now", "turn", "told", "due"] ["seed_now"] (defScope s_law_noise_right) := ⟨rfl, rfl, rfl, by decide +kernel, rfl, by decide +kernel, by decide +kernel⟩
theorem ok_law_noise_right (T : Txt K mg w CN CT) (F : Fun K "_law_noise_right" "_law_noise_right" s_law_noise_right f fd) : FnG P w K mg base (L2.CX P w) 5 f fd ["seed_now"] spNoiseR := by
  refine fnG F sc_law_noise_right (fun vs H Q E h => ?_) (fun cdv A outer s H vs Q E hG hr h => ?_)
  · obtain ⟨_, rfl, _⟩ := h
    rfl
  · obtain ⟨i, rfl, i0, i1, q⟩ := h
    have nd := sc_law_noise_right.nd
    refine ⟨_, (pss_cons (ps_for (passes_of rfl) rfl (pi_range1 rfl T.n_range (pa_cons pe_int pa_nil)) (pg_name (i := 1) nd rfl (Or.inl rfl)) (pss_cons (ps_set (i := 2) nd rfl (Or.inl rfl) (pe_g (c_next_noise T) hG (hr.mono (by decide)) (fun _ => passS) (pa_cons (pv 0) pa_nil)))
        (pss_cons (ps_set (i := 3) nd rfl (Or.inl rfl) (pe_op op_add (pe_op op_mul pe_int (pv 0)) pe_int))
        (pss_cons (ps_if (PW.pt (pw_or (pt_cmpR op_ne (pe_callB (call_showE hG hr.units) (by rfl) T.n_repr (by decide +kernel) (pa_cons (pv 2) pa_nil)) (pe_callB (call_showE hG hr.units) (by rfl) T.n_repr (by decide +kernel) (pa_cons (pe_op op_sub (pv 3) (pe_op op_mul (pe_op op_fdiv (pv 3) pe_int) pe_int)) pa_nil)) (nomark _)) (pw_or1 (pt_cmpR op_ne (pe_k (k_next_noise T) hG (hr.mono (by decide)) (fun _ => passS) (pk_cons (pv 0) pk_nil)) (pv 2) (nomark _))))) (pss_one (ps_ret pe_bl)) pss_nil)
        (pss_one (ps_set (i := 0) nd rfl (Or.inl rfl) (pv 2)))))))
        (pss_one (ps_ret pe_bl))), ?_⟩
    walk_at "rd"
    refine r_for ?_
    refine r_rng1 ?_
    walk_at "rd"
    refine ⟨_, rfl, by decide, by decide, ?_⟩
    refine lp_range (fun _ s h => (∃ (i : Int) (x1 x2 x3 : Option V), s = [some (.int i), x1, x2, x3] ∧ 0 ≤ i ∧ i < 4096) ∧ h = H) ⟨⟨i, _, _, _, rfl, i0, i1⟩, rfl⟩ (fun j s h hj => ?_) (fun s h q2 => ?_)
    · rintro ⟨⟨i, x1, x2, x3, rfl, i0, i1⟩, rfl⟩
      have e : 1229 * i + 351 - (1229 * i + 351) / 4096 * 4096 = (1229 * i + 351) % 4096 := by omega
      have sm : ((1229 * i + 351) % 4096).natAbs < 2 ^ 200 := Nat.lt_of_lt_of_le (show _ < 4096 by omega) (by decide)
      walk_at "rd"
      refine ⟨_, rfl, .inl ⟨i, rfl, i0, i1, ?_⟩⟩
      walk_at "rd"
      refine r_shI sm ?_
      walk_at "rd"
      rw [e]
      refine r_shI sm ?_
      walk_at "rd"
      refine iteNE rfl ?_
      walk_at "rd"
      refine ⟨_, rfl, .inl ⟨i, rfl, i0, i1, ?_⟩⟩
      walk_at "rd"
      refine iteNE rfl ?_
      walk_at "rd"
      exact ⟨⟨_, _, _, _, rfl, by omega, by omega⟩, rfl⟩
    · obtain ⟨⟨i, x1, x2, x3, rfl, i0, i1⟩, rfl⟩ := q2
      walk_at "rd"
      assumption
theorem c_law_noise_right (T : Txt K mg w CN CT) : Cal P w K mg base (L2.CX P w) 5 "_law_noise_right" ["seed_now"] spNoiseR :=
  T.d_noise_right.cal (fun F => ok_law_noise_right T F) fun _ _ _ _ _ _ us hl => match us, hl with | [_], _ => rfl
/-! ### _law_same -/
theorem r_bm {T : String} {σ : L2.St} {H : Hp} {Q : VK} {r : V → List V → Hp → VK → Prop} {i : Nat} {v : V} {t : TA} (ty : tyV K T v H) (hv : σ[i]? = some (some v)) (h : t σ H fun xs H2 => r v xs H2 Q) : tBM K T r (tVar i) t σ H Q := ⟨v, hv, ty, h⟩
theorem sc_law_same : FnScope ["found", "word", "thing"] ["found", "word", "thing"] (defScope s_law_same) := ⟨rfl, rfl, rfl, by decide +kernel, rfl, by decide +kernel, by decide +kernel⟩
theorem ok_law_same (T : Txt K mg w CN CT) (F : Fun K "_law_same" "_law_same" s_law_same f fd) : FnG P w K mg base (L2.CX P w) 1 f fd ["found", "word", "thing"] spSame := by
  refine fnG F sc_law_same (fun vs H Q E h => ?_) (fun cdv A outer s H vs Q E hG hr h => ?_)
  · obtain ⟨_, _, _, _, _, rfl, _⟩ := h
    rfl
  · obtain ⟨p, wd, t, ty, n, rfl, hp, th, hn, ne, q⟩ := h
    have nd := sc_law_same.nd
    refine ⟨_, (pss_cons (ps_if (PW.pt (pw_or (pt_cmpR op_ne (pe_ix ix_list (pv 0) pe_int (fun _ _ => rfl)) (pv 1) (nomark _)) (pw_or1 (pt_cmpR op_ne (pe_callB (call_showE hG hr.units) (by rfl) T.n_repr (by decide +kernel) (pa_cons (pe_ix ix_list (pv 0) pe_int (fun _ _ => rfl)) pa_nil)) (pe_callB (call_showE hG hr.units) (by rfl) T.n_repr (by decide +kernel) (pa_cons (pv 2) pa_nil)) (nomark _))))) (pss_one (ps_ret pe_bl)) pss_nil)
        (pss_cons (ps_if (pt_val (pe_callB call_is2 (by rfl) T.n_isinstance (by decide +kernel) (pa_cons (pv 2) (pa_cons (pe_tyn "list" T.n_list (by decide +kernel)) pa_nil)))) (pss_one (ps_expr (pe_bm PySem.F.plainAttrs_list PySem.F.slot_list_append PySem.F.type_list_append mt_append (pv 2) (pa_cons pe_str pa_nil)))) pss_nil)
        (pss_cons (ps_if (pt_val (pe_callB call_is2 (by rfl) T.n_isinstance (by decide +kernel) (pa_cons (pv 2) (pa_cons (pe_tyn "dict" T.n_dict (by decide +kernel)) pa_nil)))) (pss_one (ps_asg pe_int (pg_sub (pv 2) pe_str (set_dict (Nat.lt_of_le_of_lt (Nat.add_le_add_left (by decide : 1 ≤ 64) _) hr.units))))) pss_nil)
        (pss_one (ps_ret (pe_cmpR op_eq (pe_callB (call_showE hG hr.units) (by rfl) T.n_repr (by decide +kernel) (pa_cons (pe_ix ix_list (pv 0) pe_int (fun _ _ => rfl)) pa_nil)) (pe_callB (call_showE hG hr.units) (by rfl) T.n_repr (by decide +kernel) (pa_cons (pv 2) pa_nil)) (nomark _))))))), ?_⟩
    obtain ⟨z, sh⟩ := th.shows (by omega)
    walk_at "rd"
    refine r_ixLs (j := 0) hp rfl rfl ?_
    walk_at "rd"
    refine iteNE rfl ?_
    walk_at "rd"
    refine r_ixLs (j := 1) hp rfl rfl ?_
    walk_at "rd"
    refine sh _ ?_
    walk_at "rd"
    refine sh _ ?_
    walk_at "rd"
    refine iteNE rfl ?_
    walk_at "rd"
    rcases th.kinds (K := K) with ⟨a, x, j, rfl, rfl, ha, hj, ok⟩ | ⟨a, es, rfl, rfl, ha, he⟩ | ⟨nl, nd⟩
    · have pa : p ≠ a := fun z => ne (by rw [z])
      refine ⟨_, "list", true, rfl, isI_lst ha (by decide +kernel), ?_⟩
      walk_at "rd"
      refine r_bm (show tyV _ "list" (.ref a) H from .inl ⟨rfl, _, SqL.of ha⟩) rfl ?_
      walk_at "rd"
      refine ⟨a, _, _, rfl, rfl, ha, ?_, ?_⟩
      · unfold more
        rw [List.length_cons, List.length_replicate, sizeLine_eq]
        omega
      rw [more_app]
      have hp2 : upd H a (.lst (more x (j + 1))) p = some (.lst [.str wd, .ref a]) := by rw [upd_ne pa]; exact hp
      have ha2 : upd H a (.lst (more x (j + 1))) a = some (.lst (more x (j + 1))) := upd_same
      have th2 : Th (upd H a (.lst (more x (j + 1)))) (.ref a) "list" (n + 1) := .lst x (j + 1) _ ha2 (by omega) ok
      have bt : But (.ref a) H (upd H a (.lst (more x (j + 1)))) := fun c u nc hc => by rw [upd_ne fun z => nc (by rw [z])]; exact hc
      obtain ⟨z2, sh2⟩ := th2.shows (by omega)
      walk_at "rd"
      refine ⟨_, "dict", false, rfl, isI_lst ha2 (by decide +kernel), ?_⟩
      walk_at "rd"
      refine r_ixLs (j := 1) hp2 rfl rfl ?_
      walk_at "rd"
      refine sh2 _ ?_
      walk_at "rd"
      refine sh2 _ ?_
      walk_at "rd"
      rw [decide_eq_true rfl]
      exact q _ bt th2
    · have pa : p ≠ a := fun z => ne (by rw [z])
      refine ⟨_, "list", false, rfl, isI_dct ha (by decide +kernel), ?_⟩
      walk_at "rd"
      refine ⟨_, "dict", true, rfl, isI_dct ha (by decide +kernel), ?_⟩
      walk_at "rd"
      refine r_dset (k := .inr "more") rfl ha (dicts_len es he) ?_
      generalize hg : putK es (.inr "more") (.int 1) = es2
      have he2 : es2 ∈ dicts4 := by rw [← hg]; exact dicts_grow es he
      have hp2 : upd H a (.dK es2) p = some (.lst [.str wd, .ref a]) := by rw [upd_ne pa]; exact hp
      have ha2 : upd H a (.dK es2) a = some (.dK es2) := upd_same
      have th2 : Th (upd H a (.dK es2)) (.ref a) "dict" (n + 1) := .dct es2 _ ha2 he2
      have bt : But (.ref a) H (upd H a (.dK es2)) := fun c u nc hc => by rw [upd_ne fun z => nc (by rw [z])]; exact hc
      obtain ⟨z2, sh2⟩ := th2.shows (by omega)
      walk_at "rd"
      refine r_ixLs (j := 1) hp2 rfl rfl ?_
      walk_at "rd"
      refine sh2 _ ?_
      walk_at "rd"
      refine sh2 _ ?_
      walk_at "rd"
      rw [decide_eq_true rfl]
      exact q _ bt th2
    · refine ⟨_, "list", false, rfl, nl, ?_⟩
      walk_at "rd"
      refine ⟨_, "dict", false, rfl, nd, ?_⟩
      walk_at "rd"
      refine r_ixLs (j := 1) hp rfl rfl ?_
      walk_at "rd"
      refine sh _ ?_
      walk_at "rd"
      refine sh _ ?_
      walk_at "rd"
      rw [decide_eq_true rfl]
      exact q H (fun _ _ _ h => h) (th.mono (fun _ _ h => h) (by omega))
theorem c_law_same (T : Txt K mg w CN CT) : Cal P w K mg base (L2.CX P w) 1 "_law_same" ["found", "word", "thing"] spSame :=
  T.d_same.cal (fun F => ok_law_same T F) fun _ _ _ _ _ _ us hl => match us, hl with | [_, _, _], _ => rfl
end
end K3
set_option linter.all false
set_option maxRecDepth 100000
set_option maxHeartbeats 4000000
namespace K3
open PySem PySem.Spec PyProof.Rows L2 Gx
local macro_rules | `(tactic| walk_at "rd1") => `(tactic| with_reducible first
  | refine r_var rfl ?_ | refine r_c ?_ | refine r_op ?_ | refine r_un ?_ | refine r_I0 ?_ | refine r_neg ?_ | refine r_test ?_ | refine r_B ?_ | refine r_bl ?_ | refine r_blx ?_
  | refine r_seq ?_ | refine r_ret ?_ | refine r_asg ?_ | refine r_name ?_ | refine r_gsub ?_ | refine r_if ?_ | refine r_next ?_ | refine r_drop ?_ | refine r_cb ?_ | refine r_nil ?_ | refine r_cons ?_
  | refine r_g ?_ | refine r_k ?_ | refine r_lst ?_ | refine r_tup ?_ | refine r_notV ?_ | refine r_ifE ?_ | refine r_and ?_ | refine r_or ?_ | refine r_not ?_ | refine r_chain ?_
  | refine r_sl ?_ | refine r_part ?_ | refine r_nop ?_ | refine r_par3 ?_ | refine r_is3 ?_ | refine r_par2 ?_ | refine r_is2 ?_ | refine r_m0 ?_ | refine r_ei ?_ | refine r_nx ?_ | refine r_rt ?_ | refine r_ct ?_ | refine r_eq rfl ?_ | refine r_ne rfl ?_ | refine iteT ?_ | refine iteF ?_ | refine iteNF ?_ | refine iteNT ?_
  | (refine r_fdivK ?hc ?_; (case hc => decide +kernel)) | (refine r_modK ?hc ?_; (case hc => decide +kernel)) | (refine r_mulL ?hc ?_; (case hc => decide +kernel)) | (refine r_mulR ?hc ?_; (case hc => decide +kernel)) | (refine r_powK ?hc ?_; (case hc => decide +kernel)) | fail "no step")
local macro_rules | `(tactic| walk_at "rd") => `(tactic| repeat' walk_at "rd1")
section
variable {P : Program} {w : World} {K : PySem.W.Frag} {mg : Str → Option Value} {base : Heap} {f : Addr} {fd : FuncData} {CN CT : Addr}
/-! ### _law_caught -/
def NoTabT (H : Hp) (v : V) : Prop := ∃ T, TyAt H v T ∧ (T ≠ "str" ∨ ∃ z, v = .str z ∧ memB z tables = false)
def NoWholeT (H : Hp) (hi : Int) (v : V) : Prop := ∃ T, TyAt H v T ∧ (T ≠ "int" ∨ ∃ i, v = .int i ∧ (decide (0 ≤ i) && decide (i ≤ hi)) = false)
theorem NoTabT.no {H : Hp} {v : V} (h : NoTabT H v) : NoTab K H v := by
  obtain ⟨T, h, n | n⟩ := h
  · exact .inl (h.str_no n)
  · exact .inr n
theorem NoWholeT.no {H : Hp} {hi : Int} {v : V} (h : NoWholeT H hi v) : NoWhole K H 0 hi v := by
  obtain ⟨T, h, n | n⟩ := h
  · exact .inl (h.int_no n)
  · exact .inr n
def BadT (H : Hp) (way : Int) (v m t : V) (wd : Str) : Prop := (way = 0 ∧ NoTabT H v ∧ t = v ∧ wd = "table") ∨ (way = 0 ∧ (∃ z g, v = .str z ∧ Tab z g) ∧ NoWholeT H 63 m ∧ t = m ∧ wd = "number") ∨ (way = 1 ∧ NoWholeT H 4095 m ∧ t = m ∧ wd = "number")
def spCaught : Sp := fun vs H Q _ => ∃ (way : Int) (v m t : V) (wd : Str), vs = [.int way, v, m] ∧ BadT H way v m t wd ∧ ∀ p H', H p = none → Same H H' → H' p = some (.lst [.str wd, t]) → Q (.ref p) H'
theorem r_xf {a : Addr} {cls : Value} {d : Option Addr} {C : Addr} {g : Str} {te : TE} {σ : L2.St} {H : Hp} {Q : VK} (h : te σ H fun x H1 => x = .ref a ∧ cls = .ref C ∧ ∃ (dd : Addr) (fs : List (Str × V)) (v : V), d = some dd ∧ H1 dd = some (.xd fs) ∧ fs.lookup g = some v ∧ Q v H1) : tXf a cls d C g te σ H Q := h
theorem sc_law_caught : FnScope ["way", "one", "other", "e"] ["way", "one", "other"] (defScope s_law_caught) := ⟨rfl, rfl, rfl, by decide +kernel, rfl, by decide +kernel, by decide +kernel⟩
theorem ok_law_caught (T : Txt K mg w CN CT) (F : Fun K "_law_caught" "_law_caught" s_law_caught f fd) : FnG P w K mg base (L2.CX P w) 5 f fd ["way", "one", "other"] spCaught := by
  refine fnG F sc_law_caught (fun vs H Q E h => ?_) (fun cdv A outer s H vs Q E hG hr h => ?_)
  · obtain ⟨_, _, _, _, _, rfl, _⟩ := h
    rfl
  · obtain ⟨way, v, m, t, wd, rfl, bad, q⟩ := h
    have nd := sc_law_caught.nd
    refine ⟨_, pss_one (ps_try_cl (l := [(.ref CT, 3, fun ex cls d => tRet (tLst (tCons (tC (.str "table")) (tCons (tXf ex cls d CT "found" (tVar 3)) tNil)))), (.ref CN, 3, fun ex cls d => tRet (tLst (tCons (tC (.str "number")) (tCons (tXf ex cls d CN "found" (tVar 3)) tNil))))])
      (tb := fun W => tRet (tLst (tCons (tC (.str "told")) (tCons (tIf (tTest (tOp rEq (tVar 0) (tC (.int 0)))) (tG (spWorthT K CN CT) (fun σ => WE W σ) (tCons (tVar 1) (tCons (tVar 2) tNil))) (tG (spNoise K CN) (fun σ => WE W σ) (tCons (tVar 2) tNil))) tNil)))) rfl rfl nd
      (fun W pn xe tk _ => pss_one (ps_ret (pe_lst (pa_cons pe_str (pa_cons (pe_ifExp (pt_cmpR op_eq (pv 0) pe_int (nomark _)) (pe_g (c_table_worth T) hG (hr.mono (by decide)) (fun σ => passAt tk σ) (pa_cons (pv 1) (pa_cons (pv 2) pa_nil))) (pe_g (c_next_noise T) hG (hr.mono (by decide)) (fun σ => passAt tk σ) (pa_cons (pv 2) pa_nil))) pa_nil)))))
      (.cons ⟨rfl, by decide, .inl T.x_NoTable.gl⟩ rfl rfl (fun ex oe cls d pn hz hf => pss_one (ps_ret (pe_lst (pa_cons pe_str (pa_cons (pe_xf T.x_NoTable.xf T.x_NoTable.no hz hf (pv 3)) pa_nil)))))
      (.cons ⟨rfl, by decide, .inl T.x_NoNumber.gl⟩ rfl rfl (fun ex oe cls d pn hz hf => pss_one (ps_ret (pe_lst (pa_cons pe_str (pa_cons (pe_xf T.x_NoNumber.xf T.x_NoNumber.no hz hf (pv 3)) pa_nil))))) .rest))), ?_⟩
    walk_at "rd"
    rcases bad with ⟨rfl, no, rfl, rfl⟩ | ⟨rfl, ⟨z, g, rfl, tb⟩, no, rfl, rfl⟩ | ⟨rfl, no, rfl, rfl⟩
    · refine iteTb (by decide +kernel) ?_
      walk_at "rd"
      refine ⟨_, _, rfl, .inr (.inl ⟨no.no, fun d H' s' hd => ?_⟩)⟩
      refine ⟨true, T.m_CT_CT, fun _ ex hex => ?_, fun z => nomatch z⟩
      walk_at "rd"
      refine r_xf ?_
      walk_at "rd"
      refine ⟨rfl, rfl, d, _, t, rfl, hd, rfl, ?_⟩
      walk_at "rd"
      refine r_new rfl fun r hr2 => ?_
      exact q r _ (none_of s' hr2) (s'.trans (same_new hr2)) upd_same
    · refine iteTb (by decide +kernel) ?_
      walk_at "rd"
      refine ⟨_, _, rfl, .inr (.inr ⟨⟨z, g, rfl, tb⟩, no.no, fun d H' s' hd => ?_⟩)⟩
      refine ⟨false, T.m_CN_CT, (fun z => nomatch z), fun _ => ⟨true, T.m_CN_CN, fun _ ex hex => ?_, fun z => nomatch z⟩⟩
      walk_at "rd"
      refine r_xf ?_
      walk_at "rd"
      refine ⟨rfl, rfl, d, _, t, rfl, hd, rfl, ?_⟩
      walk_at "rd"
      refine r_new rfl fun r hr2 => ?_
      exact q r _ (none_of s' hr2) (s'.trans (same_new hr2)) upd_same
    · refine iteFb (by decide +kernel) ?_
      walk_at "rd"
      refine ⟨_, rfl, .inr ⟨no.no, fun d H' s' hd => ?_⟩⟩
      refine ⟨false, T.m_CN_CT, (fun z => nomatch z), fun _ => ⟨true, T.m_CN_CN, fun _ ex hex => ?_, fun z => nomatch z⟩⟩
      walk_at "rd"
      refine r_xf ?_
      walk_at "rd"
      refine ⟨rfl, rfl, d, _, t, rfl, hd, rfl, ?_⟩
      walk_at "rd"
      refine r_new rfl fun r hr2 => ?_
      exact q r _ (none_of s' hr2) (s'.trans (same_new hr2)) upd_same
theorem c_law_caught (T : Txt K mg w CN CT) : Cal P w K mg base (L2.CX P w) 5 "_law_caught" ["way", "one", "other"] spCaught :=
  T.d_caught.cal (fun F => ok_law_caught T F) fun _ _ _ _ _ _ us hl => match us, hl with | [_, _, _], _ => rfl
/-! ### _law_refused_right -/
theorem big_int {d : Int} (h0 : 0 ≤ d) (h1 : d < 10 ^ 30) {k : Int} (k0 : 0 ≤ k) (k1 : k < 5000) : (k + d).natAbs < 2 ^ 200 := Nat.lt_of_lt_of_le (show (k + d).natAbs < 10 ^ 31 by omega) (by decide)
theorem not_in {i hi : Int} (h : hi < i) : (decide (0 ≤ i) && decide (i ≤ hi)) = false := by
  rw [decide_eq_false (show ¬ i ≤ hi by omega), Bool.and_false]
def spRef : Sp := fun vs H Q _ => ∃ (b : Addr) (n : Nat) (z : Str) (g : Int → Int), vs = [.ref b, .str z] ∧ Bx n H b ∧ n < 90000 ∧ Tab z g ∧ ∀ H', Bx (n + 10) H' b → Off b H H' → Q (.bl true) H'
theorem sc_law_refused_right : FnScope ["box", "form", "odd", "bad", "seed_now"] ["box", "form"] (defScope s_law_refused_right) := ⟨rfl, rfl, rfl, by decide +kernel, rfl, by decide +kernel, by decide +kernel⟩
theorem ok_law_refused_right (T : Txt K mg w CN CT) (F : Fun K "_law_refused_right" "_law_refused_right" s_law_refused_right f fd) : FnG P w K mg base (L2.CX P w) 6 f fd ["box", "form"] spRef := by
  refine fnG F sc_law_refused_right (fun vs H Q E h => ?_) (fun cdv A outer s G0 vs Q E hG hr h => ?_)
  · obtain ⟨_, _, _, _, rfl, _⟩ := h
    rfl
  · obtain ⟨b, n, z, g, rfl, B, hn, tb, q⟩ := h
    have nd := sc_law_refused_right.nd
    refine ⟨_, (pss_cons (ps_set (i := 2) nd rfl (Or.inl rfl) (pe_ix ix_list (pe_lst (pa_cons pe_non (pa_cons pe_int (pa_cons pe_str (pa_cons pe_str (pa_cons pe_str (pa_cons pe_str (pa_cons (pe_lst (pa_cons pe_str pa_nil)) (pa_cons (pe_disp (pps_cons pe_str pe_int pps_nil) (by rfl) (by rfl) (by simp) (by decide)) (pa_cons (pe_tup (pa_cons pe_str pa_nil)) (pa_cons pe_bl pa_nil))))))))))) (pe_g (c_law_take T) hG (hr.mono (by decide)) (fun _ => passS) (pa_cons (pv 0) (pa_cons pe_int pa_nil))) (fun _ _ => rfl)))
        (pss_cons (ps_set (i := 3) nd rfl (Or.inl rfl) (pe_ix ix_list (pe_lst (pa_cons pe_non (pa_cons pe_bl (pa_cons pe_str (pa_cons (pe_lst (pa_cons pe_int pa_nil)) (pa_cons (pe_tup (pa_cons pe_int pa_nil)) (pa_cons pe_dnewK (pa_cons (pe_un un_neg pe_int) (pa_cons pe_int (pa_cons pe_int (pa_cons (pe_op op_add pe_int (pe_g (c_law_take T) hG (hr.mono (by decide)) (fun _ => passS) (pa_cons (pv 0) (pa_cons (pe_op op_sub (pe_op op_pow pe_int pe_int) pe_int) pa_nil)))) pa_nil))))))))))) (pe_g (c_law_take T) hG (hr.mono (by decide)) (fun _ => passS) (pa_cons (pv 0) (pa_cons pe_int pa_nil))) (fun _ _ => rfl)))
        (pss_cons (ps_if (PW.pt (pw_or (pt_not (pt_val (pe_g (c_law_same T) hG (hr.mono (by decide)) (fun _ => passS) (pa_cons (pe_g (c_law_caught T) hG (hr.mono (by decide)) (fun _ => passS) (pa_cons pe_int (pa_cons (pv 2) (pa_cons (pv 3) pa_nil)))) (pa_cons pe_str (pa_cons (pv 2) pa_nil)))))) (pw_or1 (pt_not (pt_val (pe_g (c_law_same T) hG (hr.mono (by decide)) (fun _ => passS) (pa_cons (pe_g (c_law_caught T) hG (hr.mono (by decide)) (fun _ => passS) (pa_cons pe_int (pa_cons (pv 2) (pa_cons pe_int pa_nil)))) (pa_cons pe_str (pa_cons (pv 2) pa_nil))))))))) (pss_one (ps_ret pe_bl)) pss_nil)
        (pss_cons (ps_if (pt_not (pt_val (pe_g (c_law_same T) hG (hr.mono (by decide)) (fun _ => passS) (pa_cons (pe_g (c_law_caught T) hG (hr.mono (by decide)) (fun _ => passS) (pa_cons pe_int (pa_cons (pv 1) (pa_cons (pv 3) pa_nil)))) (pa_cons pe_str (pa_cons (pv 3) pa_nil)))))) (pss_one (ps_ret pe_bl)) pss_nil)
        (pss_cons (ps_set (i := 4) nd rfl (Or.inl rfl) (pe_ix ix_list (pe_lst (pa_cons pe_non (pa_cons pe_bl (pa_cons pe_str (pa_cons (pe_lst (pa_cons pe_int pa_nil)) (pa_cons (pe_tup (pa_cons pe_int pa_nil)) (pa_cons pe_dnewK (pa_cons (pe_un un_neg pe_int) (pa_cons pe_int (pa_cons (pe_op op_add pe_int (pe_g (c_law_take T) hG (hr.mono (by decide)) (fun _ => passS) (pa_cons (pv 0) (pa_cons (pe_op op_sub (pe_op op_pow pe_int pe_int) pe_int) pa_nil)))) pa_nil)))))))))) (pe_g (c_law_take T) hG (hr.mono (by decide)) (fun _ => passS) (pa_cons (pv 0) (pa_cons pe_int pa_nil))) (fun _ _ => rfl)))
        (pss_one (ps_ret (pe_g (c_law_same T) hG (hr.mono (by decide)) (fun _ => passS) (pa_cons (pe_g (c_law_caught T) hG (hr.mono (by decide)) (fun _ => passS) (pa_cons pe_int (pa_cons pe_non (pa_cons (pv 4) pa_nil)))) (pa_cons pe_str (pa_cons (pv 4) pa_nil))))))))))), ?_⟩
    walk_at "rd"
    refine r_new rfl fun a1 h1 => ?_
    have e1 : upd G0 a1 (.lst [.str "saw"]) a1 = some (.lst [.str "saw"]) := upd_same
    have t1 : Same G0 (upd G0 a1 (.lst [.str "saw"])) := same_new h1
    generalize upd G0 a1 (.lst [.str "saw"]) = G1 at e1 t1 ⊢
    walk_at "rd"
    refine r_disp1 fun a2 h2 => ?_
    have e2 : upd G1 a2 (.dK [(.inr "a", .int 1)]) a2 = some (.dK [(.inr "a", .int 1)]) := upd_same
    have t2 : Same G1 (upd G1 a2 (.dK [(.inr "a", .int 1)])) := same_new h2
    generalize upd G1 a2 (.dK [(.inr "a", .int 1)]) = G2 at e2 t2 ⊢
    walk_at "rd"
    refine r_new rfl fun a3 h3 => ?_
    have e3 : upd G2 a3 (.tup [.str "tri"]) a3 = some (.tup [.str "tri"]) := upd_same
    have t3 : Same G2 (upd G2 a3 (.tup [.str "tri"])) := same_new h3
    generalize upd G2 a3 (.tup [.str "tri"]) = G3 at e3 t3 ⊢
    walk_at "rd"
    refine r_new rfl fun a4 h4 => ?_
    have e4 : upd G3 a4 (.lst [.non, .int 7, .str "", .str "Saw", .str "sa", .str "clip", .ref a1, .ref a2, .ref a3, .bl true]) a4 = some (.lst [.non, .int 7, .str "", .str "Saw", .str "sa", .str "clip", .ref a1, .ref a2, .ref a3, .bl true]) := upd_same
    have t4 : Same G3 (upd G3 a4 (.lst [.non, .int 7, .str "", .str "Saw", .str "sa", .str "clip", .ref a1, .ref a2, .ref a3, .bl true])) := same_new h4
    generalize upd G3 a4 (.lst [.non, .int 7, .str "", .str "Saw", .str "sa", .str "clip", .ref a1, .ref a2, .ref a3, .bl true]) = G4 at e4 t4 ⊢
    walk_at "rd"
    have T3 := t4
    have T2 := t3.trans T3
    have T1 := t2.trans T2
    have T0 := t1.trans T1
    have al : ∀ v ∈ ([.non, .int 7, .str "", .str "Saw", .str "sa", .str "clip", .ref a1, .ref a2, .ref a3, .bl true] : List V), ∃ T, Th G4 v T 0 ∧ (T ≠ "str" ∨ ∃ z, v = .str z ∧ memB z tables = false) ∧ ∀ c, v = .ref c → G0 c = none := by
      refine List.forall_mem_cons.mpr ⟨⟨_, .non _, .inl (by decide), fun c z => nomatch z⟩, ?_⟩
      refine List.forall_mem_cons.mpr ⟨⟨_, .int _ _ (by decide +kernel), .inl (by decide), fun c z => nomatch z⟩, ?_⟩
      refine List.forall_mem_cons.mpr ⟨⟨_, .str _ _ (by decide +kernel), .inr ⟨_, rfl, by decide +kernel⟩, fun c z => nomatch z⟩, ?_⟩
      refine List.forall_mem_cons.mpr ⟨⟨_, .str _ _ (by decide +kernel), .inr ⟨_, rfl, by decide +kernel⟩, fun c z => nomatch z⟩, ?_⟩
      refine List.forall_mem_cons.mpr ⟨⟨_, .str _ _ (by decide +kernel), .inr ⟨_, rfl, by decide +kernel⟩, fun c z => nomatch z⟩, ?_⟩
      refine List.forall_mem_cons.mpr ⟨⟨_, .str _ _ (by decide +kernel), .inr ⟨_, rfl, by decide +kernel⟩, fun c z => nomatch z⟩, ?_⟩
      refine List.forall_mem_cons.mpr ⟨⟨_, .lst (.str "saw") 0 _ (T1 _ _ e1) (Nat.le_refl _) (by decide +kernel), .inl (by decide), fun c z => by cases z; exact h1⟩, ?_⟩
      refine List.forall_mem_cons.mpr ⟨⟨_, .dct _ _ (T2 _ _ e2) (.tail _ (.head _)), .inl (by decide), fun c z => by cases z; exact none_of t1 h2⟩, ?_⟩
      refine List.forall_mem_cons.mpr ⟨⟨_, .tup (.str "tri") _ (T3 _ _ e3) (by decide +kernel), .inl (by decide), fun c z => by cases z; exact none_of (t1.trans t2) h3⟩, ?_⟩
      refine List.forall_mem_cons.mpr ⟨⟨_, .bl _ _, .inl (by decide), fun c z => nomatch z⟩, ?_⟩
      exact fun _ h => absurd h List.not_mem_nil
    have a4b : a4 ≠ b := fun z => B.some (by rw [← z]; exact none_of ((t1.trans t2).trans t3) h4)
    refine ⟨b, _, n, rfl, by decide, by decide, B.same T0, by omega, fun d1 G5 l0 l1 B5 o5 => ?_⟩
    refine r_ixP (o5 a4 _ a4b e4) al l0 l1 ?_
    rintro odd ⟨S, th5, no, ng⟩
    have nb : odd ≠ .ref b := fun z => B.some (ng b z)
    have th5 : Th G5 odd S 0 := th5.at (Nat.le_refl _) fun c u z hc => o5 c u (fun y => nb (by rw [z, y])) hc
    walk_at "rd"
    refine r_new rfl fun a6 h6 => ?_
    have e6 : upd G5 a6 (.lst [.int 7]) a6 = some (.lst [.int 7]) := upd_same
    have t6 : Same G5 (upd G5 a6 (.lst [.int 7])) := same_new h6
    generalize upd G5 a6 (.lst [.int 7]) = G6 at e6 t6 ⊢
    walk_at "rd"
    refine r_new rfl fun a7 h7 => ?_
    have e7 : upd G6 a7 (.tup [.int 7]) a7 = some (.tup [.int 7]) := upd_same
    have t7 : Same G6 (upd G6 a7 (.tup [.int 7])) := same_new h7
    generalize upd G6 a7 (.tup [.int 7]) = G7 at e7 t7 ⊢
    walk_at "rd"
    refine r_dn fun a8 h8 => ?_
    have e8 : upd G7 a8 (.dK []) a8 = some (.dK []) := upd_same
    have t8 : Same G7 (upd G7 a8 (.dK [])) := same_new h8
    generalize upd G7 a8 (.dK []) = G8 at e8 t8 ⊢
    walk_at "rd"
    refine ⟨b, _, _, rfl, by decide, by decide, B5.same ((t6.trans t7).trans t8), by omega, fun d9 G9 y0 y1 B9 o9 => ?_⟩
    walk_at "rd"
    refine r_new rfl fun a10 h10 => ?_
    have e10 : upd G9 a10 (.lst [.non, .bl true, .str "7", .ref a6, .ref a7, .ref a8, .int (-1), .int 64, .int 4095, .int (64 + d9)]) a10 = some (.lst [.non, .bl true, .str "7", .ref a6, .ref a7, .ref a8, .int (-1), .int 64, .int 4095, .int (64 + d9)]) := upd_same
    have t10 : Same G9 (upd G9 a10 (.lst [.non, .bl true, .str "7", .ref a6, .ref a7, .ref a8, .int (-1), .int 64, .int 4095, .int (64 + d9)])) := same_new h10
    generalize upd G9 a10 (.lst [.non, .bl true, .str "7", .ref a6, .ref a7, .ref a8, .int (-1), .int 64, .int 4095, .int (64 + d9)]) = G10 at e10 t10 ⊢
    walk_at "rd"
    have ne6 : a6 ≠ b := fun z => B5.some (by rw [← z]; exact h6)
    have ne7 : a7 ≠ b := fun z => B5.some (by rw [← z]; exact none_of t6 h7)
    have ne8 : a8 ≠ b := fun z => B5.some (by rw [← z]; exact none_of (t6.trans t7) h8)
    have f6 := t10 _ _ (o9 _ _ ne6 (t8 _ _ (t7 _ _ e6)))
    have f7 := t10 _ _ (o9 _ _ ne7 (t8 _ _ e7))
    have f8 := t10 _ _ (o9 _ _ ne8 e8)
    have al2 : ∀ v ∈ ([.non, .bl true, .str "7", .ref a6, .ref a7, .ref a8, .int (-1), .int 64, .int 4095, .int (64 + d9)] : List V), ∃ T, Th G10 v T 0 ∧ (T ≠ "int" ∨ ∃ i, v = .int i ∧ (decide (0 ≤ i) && decide (i ≤ 63)) = false) ∧ ∀ c, v = .ref c → G5 c = none := by
      refine List.forall_mem_cons.mpr ⟨⟨_, .non _, .inl (by decide), fun c z => nomatch z⟩, ?_⟩
      refine List.forall_mem_cons.mpr ⟨⟨_, .bl _ _, .inl (by decide), fun c z => nomatch z⟩, ?_⟩
      refine List.forall_mem_cons.mpr ⟨⟨_, .str _ _ (by decide +kernel), .inl (by decide), fun c z => nomatch z⟩, ?_⟩
      refine List.forall_mem_cons.mpr ⟨⟨_, .lst (.int 7) 0 _ f6 (Nat.le_refl _) (by decide +kernel), .inl (by decide), fun c z => by cases z; exact h6⟩, ?_⟩
      refine List.forall_mem_cons.mpr ⟨⟨_, .tup (.int 7) _ f7 (by decide +kernel), .inl (by decide), fun c z => by cases z; exact none_of t6 h7⟩, ?_⟩
      refine List.forall_mem_cons.mpr ⟨⟨_, .dct [] _ f8 (.head _), .inl (by decide), fun c z => by cases z; exact none_of (t6.trans t7) h8⟩, ?_⟩
      refine List.forall_mem_cons.mpr ⟨⟨_, .int _ _ (by decide +kernel), .inr ⟨_, rfl, by decide +kernel⟩, fun c z => nomatch z⟩, ?_⟩
      refine List.forall_mem_cons.mpr ⟨⟨_, .int _ _ (by decide +kernel), .inr ⟨_, rfl, by decide +kernel⟩, fun c z => nomatch z⟩, ?_⟩
      refine List.forall_mem_cons.mpr ⟨⟨_, .int _ _ (by decide +kernel), .inr ⟨_, rfl, by decide +kernel⟩, fun c z => nomatch z⟩, ?_⟩
      refine List.forall_mem_cons.mpr ⟨⟨_, .int _ _ (big_int y0 (Int.lt_trans y1 (by decide +kernel)) (by decide) (by decide)), .inr ⟨_, rfl, not_in (by omega)⟩, fun c z => nomatch z⟩, ?_⟩
      exact fun _ h => absurd h List.not_mem_nil
    have a10b : a10 ≠ b := fun z => B9.some (by rw [← z]; exact h10)
    refine ⟨b, _, _, rfl, by decide, by decide, B9.same t10, by omega, fun d2 G11 l0 l1 B11 o11 => ?_⟩
    refine r_ixP (o11 a10 _ a10b e10) al2 l0 l1 ?_
    rintro bad ⟨R, thO, no2, ngO⟩
    have nbO : bad ≠ .ref b := fun z => B5.some (ngO b z)
    have nv : ∀ c, odd = .ref c → bad ≠ .ref c := fun c y z => th5.there c y (ngO c z)
    have o5_11 : Gx.Off b G5 G11 := (Off.same ((t6.trans t7).trans t8)).trans (o9.trans ((Off.same t10).trans o11))
    have oG : Gx.Off b G0 G11 := ((Off.same T0).trans o5).trans o5_11
    have ng0 : ∀ c, bad = .ref c → G0 c = none := fun c z => by
      cases e : G0 c with
      | none => rfl
      | some u =>
        have cb : c ≠ b := fun y => nbO (by rw [z, y])
        have := ((Off.same T0).trans o5) c u cb e
        rw [ngO c z] at this
        cases this
    have k0 : Keep G0 b (n + 3) odd bad S R G11 0 0 := ⟨B11.up (by omega), th5.at (Nat.le_refl _) fun c u z hc => o5_11 c u (fun y => nb (by rw [z, y])) hc, thO.at (Nat.le_refl _) fun c u z hc => o11 c u (fun y => nbO (by rw [z, y])) hc, oG⟩
    walk_at "rd"
    refine ⟨0, odd, bad, odd, "table", rfl, .inl ⟨rfl, ⟨S, k0.a.ty, no⟩, rfl, rfl⟩, fun r H2 hr2 s2 hl => ?_⟩
    walk_at "rd"
    refine ⟨r, "table", odd, S, 0, rfl, hl, k0.a.mono s2 (Nat.le_refl _), by decide, fun z => k0.a.there r z hr2, fun H3 bt th3 => ?_⟩
    have k1 := k0.fst s2 bt th3 nb nv ng
    walk_at "rd"
    refine ⟨0, odd, .int 5, odd, "table", rfl, .inl ⟨rfl, ⟨S, k1.a.ty, no⟩, rfl, rfl⟩, fun r H4 hr4 s4 hl => ?_⟩
    walk_at "rd"
    refine ⟨r, "table", odd, S, 1, rfl, hl, k1.a.mono s4 (Nat.le_refl _), by decide, fun z => k1.a.there r z hr4, fun H5 bt th5 => ?_⟩
    have k2 := k1.fst s4 bt th5 nb nv ng
    walk_at "rd"
    refine ⟨0, .str z, bad, bad, "number", rfl, .inr (.inl ⟨rfl, ⟨z, g, rfl, tb⟩, ⟨R, k2.c.ty, no2⟩, rfl, rfl⟩), fun r H6 hr6 s6 hl => ?_⟩
    walk_at "rd"
    refine ⟨r, "number", bad, R, 0, rfl, hl, k2.c.mono s6 (Nat.le_refl _), by decide, fun z => k2.c.there r z hr6, fun G15 bt th7 => ?_⟩
    have k3 := k2.snd s6 bt th7 nbO nv ng0
    walk_at "rd"
    refine r_new rfl fun a16 h16 => ?_
    have e16 : upd G15 a16 (.lst [.int 7]) a16 = some (.lst [.int 7]) := upd_same
    have t16 : Same G15 (upd G15 a16 (.lst [.int 7])) := same_new h16
    generalize upd G15 a16 (.lst [.int 7]) = G16 at e16 t16 ⊢
    walk_at "rd"
    refine r_new rfl fun a17 h17 => ?_
    have e17 : upd G16 a17 (.tup [.int 7]) a17 = some (.tup [.int 7]) := upd_same
    have t17 : Same G16 (upd G16 a17 (.tup [.int 7])) := same_new h17
    generalize upd G16 a17 (.tup [.int 7]) = G17 at e17 t17 ⊢
    walk_at "rd"
    refine r_dn fun a18 h18 => ?_
    have e18 : upd G17 a18 (.dK []) a18 = some (.dK []) := upd_same
    have t18 : Same G17 (upd G17 a18 (.dK [])) := same_new h18
    generalize upd G17 a18 (.dK []) = G18 at e18 t18 ⊢
    walk_at "rd"
    refine ⟨b, _, _, rfl, by decide, by decide, k3.bx.same ((t16.trans t17).trans t18), by omega, fun d19 G19 y0 y1 B19 o19 => ?_⟩
    walk_at "rd"
    refine r_new rfl fun a20 h20 => ?_
    have e20 : upd G19 a20 (.lst [.non, .bl false, .str "7", .ref a16, .ref a17, .ref a18, .int (-1), .int 4096, .int (4096 + d19)]) a20 = some (.lst [.non, .bl false, .str "7", .ref a16, .ref a17, .ref a18, .int (-1), .int 4096, .int (4096 + d19)]) := upd_same
    have t20 : Same G19 (upd G19 a20 (.lst [.non, .bl false, .str "7", .ref a16, .ref a17, .ref a18, .int (-1), .int 4096, .int (4096 + d19)])) := same_new h20
    generalize upd G19 a20 (.lst [.non, .bl false, .str "7", .ref a16, .ref a17, .ref a18, .int (-1), .int 4096, .int (4096 + d19)]) = G20 at e20 t20 ⊢
    walk_at "rd"
    have ne16 : a16 ≠ b := fun z => k3.bx.some (by rw [← z]; exact h16)
    have ne17 : a17 ≠ b := fun z => k3.bx.some (by rw [← z]; exact none_of t16 h17)
    have ne18 : a18 ≠ b := fun z => k3.bx.some (by rw [← z]; exact none_of (t16.trans t17) h18)
    have f16 := t20 _ _ (o19 _ _ ne16 (t18 _ _ (t17 _ _ e16)))
    have f17 := t20 _ _ (o19 _ _ ne17 (t18 _ _ e17))
    have f18 := t20 _ _ (o19 _ _ ne18 e18)
    have al3 : ∀ v ∈ ([.non, .bl false, .str "7", .ref a16, .ref a17, .ref a18, .int (-1), .int 4096, .int (4096 + d19)] : List V), ∃ T, Th G20 v T 0 ∧ (T ≠ "int" ∨ ∃ i, v = .int i ∧ (decide (0 ≤ i) && decide (i ≤ 4095)) = false) ∧ ∀ c, v = .ref c → G15 c = none := by
      refine List.forall_mem_cons.mpr ⟨⟨_, .non _, .inl (by decide), fun c z => nomatch z⟩, ?_⟩
      refine List.forall_mem_cons.mpr ⟨⟨_, .bl _ _, .inl (by decide), fun c z => nomatch z⟩, ?_⟩
      refine List.forall_mem_cons.mpr ⟨⟨_, .str _ _ (by decide +kernel), .inl (by decide), fun c z => nomatch z⟩, ?_⟩
      refine List.forall_mem_cons.mpr ⟨⟨_, .lst (.int 7) 0 _ f16 (Nat.le_refl _) (by decide +kernel), .inl (by decide), fun c z => by cases z; exact h16⟩, ?_⟩
      refine List.forall_mem_cons.mpr ⟨⟨_, .tup (.int 7) _ f17 (by decide +kernel), .inl (by decide), fun c z => by cases z; exact none_of t16 h17⟩, ?_⟩
      refine List.forall_mem_cons.mpr ⟨⟨_, .dct [] _ f18 (.head _), .inl (by decide), fun c z => by cases z; exact none_of (t16.trans t17) h18⟩, ?_⟩
      refine List.forall_mem_cons.mpr ⟨⟨_, .int _ _ (by decide +kernel), .inr ⟨_, rfl, by decide +kernel⟩, fun c z => nomatch z⟩, ?_⟩
      refine List.forall_mem_cons.mpr ⟨⟨_, .int _ _ (by decide +kernel), .inr ⟨_, rfl, by decide +kernel⟩, fun c z => nomatch z⟩, ?_⟩
      refine List.forall_mem_cons.mpr ⟨⟨_, .int _ _ (big_int y0 (Int.lt_trans y1 (by decide +kernel)) (by decide) (by decide)), .inr ⟨_, rfl, not_in (by omega)⟩, fun c z => nomatch z⟩, ?_⟩
      exact fun _ h => absurd h List.not_mem_nil
    have a20b : a20 ≠ b := fun z => B19.some (by rw [← z]; exact h20)
    refine ⟨b, _, _, rfl, by decide, by decide, B19.same t20, by omega, fun d3 G21 l0 l1 B21 o21 => ?_⟩
    refine r_ixP (o21 a20 _ a20b e20) al3 l0 l1 ?_
    rintro seed ⟨U, thS, no3, ngS⟩
    have nbS : seed ≠ .ref b := fun z => k3.bx.some (ngS b z)
    have o15_21 : Gx.Off b G15 G21 := (Off.same ((t16.trans t17).trans t18)).trans (o19.trans ((Off.same t20).trans o21))
    have thS : Th G21 seed U 0 := thS.at (Nat.le_refl _) fun c u z hc => o21 c u (fun y => nbS (by rw [z, y])) hc
    walk_at "rd"
    refine ⟨1, .non, seed, seed, "number", rfl, .inr (.inr ⟨rfl, ⟨U, thS.ty, no3⟩, rfl, rfl⟩), fun r H6 hr6 s6 hl => ?_⟩
    walk_at "rd"
    refine ⟨r, "number", seed, U, 0, rfl, hl, thS.mono s6 (Nat.le_refl _), by decide, fun z => thS.there r z hr6, fun H7 bt _ => ?_⟩
    walk_at "rd"
    refine q H7 ((((B21.same s6).but nbS bt)).up (by omega)) fun c u cb hc => bt c u (fun z => ?_) (s6 c u ((k3.of.trans o15_21) c u cb hc))
    have := k3.of c u cb hc
    rw [ngS c z] at this
    cases this
theorem c_law_refused_right (T : Txt K mg w CN CT) : Cal P w K mg base (L2.CX P w) 6 "_law_refused_right" ["box", "form"] spRef :=
  T.d_refused_right.cal (fun F => ok_law_refused_right T F) fun _ _ _ _ _ _ us hl => match us, hl with | [_, _], _ => rfl
end
end K3
set_option linter.all false
set_option maxRecDepth 100000
set_option maxHeartbeats 4000000
namespace K3
open PySem PySem.Spec PyProof.Rows L2 Gx
local macro_rules | `(tactic| walk_at "rd1") => `(tactic| with_reducible first
  | refine r_var rfl ?_ | refine r_c ?_ | refine r_op ?_ | refine r_un ?_ | refine r_I0 ?_ | refine r_neg ?_ | refine r_test ?_ | refine r_B ?_ | refine r_bl ?_ | refine r_blx ?_
  | refine r_seq ?_ | refine r_ret ?_ | refine r_asg ?_ | refine r_name ?_ | refine r_gsub ?_ | refine r_if ?_ | refine r_next ?_ | refine r_drop ?_ | refine r_cb ?_ | refine r_nil ?_ | refine r_cons ?_
  | refine r_g ?_ | refine r_k ?_ | refine r_lst ?_ | refine r_tup ?_ | refine r_notV ?_ | refine r_ifE ?_ | refine r_and ?_ | refine r_or ?_ | refine r_not ?_ | refine r_chain ?_
  | refine r_sl ?_ | refine r_part ?_ | refine r_nop ?_ | refine r_par3 ?_ | refine r_is3 ?_ | refine r_par2 ?_ | refine r_is2 ?_ | refine r_m0 ?_ | refine r_ei ?_ | refine r_nx ?_ | refine r_rt ?_ | refine r_ct ?_ | refine r_eq rfl ?_ | refine r_ne rfl ?_ | refine iteT ?_ | refine iteF ?_ | refine iteNF ?_ | refine iteNT ?_
  | (refine r_fdivK ?hc ?_; (case hc => decide +kernel)) | (refine r_modK ?hc ?_; (case hc => decide +kernel)) | (refine r_mulL ?hc ?_; (case hc => decide +kernel)) | (refine r_mulR ?hc ?_; (case hc => decide +kernel)) | (refine r_powK ?hc ?_; (case hc => decide +kernel)) | fail "no step")
local macro_rules | `(tactic| walk_at "rd") => `(tactic| repeat' walk_at "rd1")
section
variable {P : Program} {w : World} {K : PySem.W.Frag} {mg : Str → Option Value} {base : Heap} {f : Addr} {fd : FuncData} {CN CT : Addr}
/-! ### the law -/
def spLaw (K : PySem.W.Frag) : Sp := fun vs H Q _ => ∃ (a : Addr) (ns : List Int), vs = [.ref a] ∧ SqL K H a (ns.map V.int) ∧ ns.length ≤ 1000 ∧ ∀ H', Q (.bl true) H'
theorem same_off {b : Addr} {H0 H1 H2 : Hp} (n : H0 b = none) (s : Same H0 H1) (o : Gx.Off b H1 H2) : Same H0 H2 := fun c u h => o c u (fun z => by subst z; rw [n] at h; cases h) (s c u h)
def five : List Str := ["saw", "square", "tri", "pulse", "hump"]
theorem five_tab : ∀ z ∈ five, ∃ g, Tab z g := by
  intro z hz
  unfold five at hz
  rcases List.mem_cons.mp hz with rfl | hz
  · exact ⟨_, .inl ⟨rfl, rfl⟩⟩
  rcases List.mem_cons.mp hz with rfl | hz
  · exact ⟨_, .inr (.inl ⟨rfl, rfl⟩)⟩
  rcases List.mem_cons.mp hz with rfl | hz
  · exact ⟨_, .inr (.inr (.inl ⟨rfl, rfl⟩))⟩
  rcases List.mem_cons.mp hz with rfl | hz
  · exact ⟨_, .inr (.inr (.inr (.inl ⟨rfl, rfl⟩)))⟩
  obtain rfl := List.mem_singleton.mp hz
  exact ⟨_, .inr (.inr (.inr (.inr ⟨rfl, rfl⟩)))⟩
theorem five_v : ∀ v ∈ five.map V.str, ∃ z g, v = .str z ∧ Tab z g := by
  intro v hv
  obtain ⟨z, hz, rfl⟩ := List.mem_map.mp hv
  obtain ⟨g, hg⟩ := five_tab z hz
  exact ⟨z, g, rfl, hg⟩
theorem cut_map {zs : List Str} (lo hi : Option Int) : ∃ ys : List Str, cutV (zs.map V.str) lo hi = ys.map V.str ∧ (∀ y ∈ ys, y ∈ zs) ∧ ys.length ≤ zs.length := by
  refine ⟨(zs.drop (HT.sIx (zs.map V.str).length 0 lo)).take (HT.sIx (zs.map V.str).length (zs.map V.str).length hi - HT.sIx (zs.map V.str).length 0 lo), ?_, fun y h => List.mem_of_mem_drop (List.mem_of_mem_take h), ?_⟩
  · unfold cutV
    rw [List.map_take, List.map_drop]
  · rw [List.length_take, List.length_drop]
    omega
theorem sc_law : FnScope ["script", "k", "box", "tables", "first", "seed_now", "turn"] ["script"] (defScope s_law) := ⟨rfl, rfl, rfl, by decide +kernel, rfl, by decide +kernel, by decide +kernel⟩
theorem ok_law (T : Txt K mg w CN CT) (F : Fun K "law" "law" s_law f fd) : FnG P w K mg base (L2.CX P w) 7 f fd ["script"] (spLaw K) := by
  refine fnG F sc_law (fun vs H Q E h => ?_) (fun cdv A outer s H vs Q E hG hr h => ?_)
  · obtain ⟨_, _, rfl, _⟩ := h
    rfl
  · obtain ⟨a, ns, rfl, hS, hn, q⟩ := h
    have nd := sc_law.nd
    refine ⟨_, (pss_cons (ps_for (passes_of rfl) rfl (pi_range1 rfl T.n_range (pa_cons (pe_callB (call_max2 rfl) (by rfl) T.n_max (by decide +kernel) (pa_cons pe_int (pa_cons (pe_callB (call_min2 rfl) (by rfl) T.n_min (by decide +kernel) (pa_cons pe_int (pa_cons (pe_callB call_len_seq (by rfl) T.n_len PySem.boot_len (pa_cons (pv 0) pa_nil)) pa_nil))) pa_nil))) pa_nil)) (pg_name (i := 1) nd rfl (Or.inl rfl)) (pss_cons (ps_set (i := 2) nd rfl (Or.inl rfl) (pe_g (c_law_box T) hG (hr.mono (by decide)) (fun _ => passS) (pa_cons (pe_g (c_law_cell T) hG (hr.mono (by decide)) (fun _ => passS) (pa_cons (pv 0) (pa_cons (pv 1) pa_nil))) pa_nil)))
        (pss_cons (ps_par (i := 3) (j := 4) rfl nd rfl rfl (by decide) rfl rfl (pa_cons (pe_lst (pa_cons pe_str (pa_cons pe_str (pa_cons pe_str (pa_cons pe_str (pa_cons pe_str pa_nil)))))) (pa_cons (pe_g (c_law_take T) hG (hr.mono (by decide)) (fun _ => passS) (pa_cons (pv 2) (pa_cons pe_int pa_nil))) pa_nil)) rfl)
        (pss_cons (ps_if (pt_not (pt_val (pe_g (c_law_tables_right T) hG (hr.mono (by decide)) (fun _ => passS) (pa_cons (pe_op op_cat (pe_slice sl_list (pv 3) (po_some (pv 4)) po_none) (pe_slice sl_list (pv 3) po_none (po_some (pv 4)))) pa_nil)))) (pss_one (ps_ret pe_bl)) pss_nil)
        (pss_cons (ps_for (passes_of rfl) rfl (pi_list (pe_lst (pa_cons pe_int (pa_cons pe_int (pa_cons (pe_g (c_law_take T) hG (hr.mono (by decide)) (fun _ => passS) (pa_cons (pv 2) (pa_cons pe_int pa_nil))) (pa_cons (pe_g (c_law_take T) hG (hr.mono (by decide)) (fun _ => passS) (pa_cons (pv 2) (pa_cons pe_int pa_nil))) pa_nil)))))) (pg_name (i := 5) nd rfl (Or.inl rfl)) (pss_one (ps_if (pt_not (pt_val (pe_g (c_law_noise_right T) hG (hr.mono (by decide)) (fun _ => passS) (pa_cons (pv 5) pa_nil)))) (pss_one (ps_ret pe_bl)) pss_nil)))
        (pss_one (ps_for (passes_of rfl) rfl (pi_range1 rfl T.n_range (pa_cons pe_int pa_nil)) (pg_name (i := 6) nd rfl (Or.inl rfl)) (pss_one (ps_if (pt_not (pt_val (pe_g (c_law_refused_right T) hG (hr.mono (by decide)) (fun _ => passS) (pa_cons (pv 2) (pa_cons (pe_ix ix_list (pv 3) (pe_g (c_law_take T) hG (hr.mono (by decide)) (fun _ => passS) (pa_cons (pv 2) (pa_cons pe_int pa_nil))) (fun _ _ => rfl)) pa_nil))))) (pss_one (ps_ret pe_bl)) pss_nil)))))))))
        (pss_one (ps_ret pe_bl))), ?_⟩
    walk_at "rd"
    refine r_for ?_
    refine r_rng1 ?_
    walk_at "rd"
    refine ⟨a, _, rfl, .inl hS, ?_⟩
    walk_at "rd"
    refine ⟨_, _, rfl, ?_⟩
    walk_at "rd"
    refine ⟨_, _, rfl, ?_⟩
    walk_at "rd"
    refine ⟨_, rfl, by split <;> split <;> omega, by split <;> split <;> omega, ?_⟩
    refine lp_range (fun _ s h => (∃ x1 x2 x3 x4 x5 x6, s = [some (.ref a), x1, x2, x3, x4, x5, x6]) ∧ Same H h) ⟨⟨_, _, _, _, _, _, rfl⟩, fun _ _ h => h⟩ (fun i s H2 hi => ?_) ?_
    · rintro ⟨⟨x1, x2, x3, x4, x5, x6, rfl⟩, s2⟩
      rw [Int.zero_add]
      walk_at "rd"
      refine ⟨a, ns, i, rfl, sql_same hS s2, fun cell => ?_⟩
      walk_at "rd"
      refine ⟨cell, rfl, fun b H3 hb B s3 => ?_⟩
      walk_at "rd"
      refine r_new rfl fun p hp => ?_
      have pb := B.ne hp
      have ep : upd H3 p (.lst (five.map V.str)) p = some (.lst (five.map V.str)) := upd_same
      have tp := same_new (o := .lst (five.map V.str)) hp
      have B := B.new (o := .lst (five.map V.str)) hp
      show tCons _ _ _ (upd H3 p (.lst (five.map V.str))) _
      generalize upd H3 p (.lst (five.map V.str)) = H4 at ep tp B ⊢
      walk_at "rd"
      refine ⟨b, 5, _, rfl, by decide, by decide, B, by decide, fun first H5 f0 f1 B5 o5 => ?_⟩
      have e5 := o5 p _ pb ep
      walk_at "rd"
      obtain ⟨ys, ey, my, ly⟩ := cut_map (zs := five) (some first) none
      obtain ⟨us, eu, mu, lu⟩ := cut_map (zs := five) none (some first)
      refine ⟨p, _, rfl, SqL.of e5, fun r1 hr1 => ?_⟩
      rw [ey]
      have er1 : upd H5 r1 (.lst (ys.map V.str)) r1 = some (.lst (ys.map V.str)) := upd_same
      have tr1 := same_new (o := .lst (ys.map V.str)) hr1
      generalize upd H5 r1 (.lst (ys.map V.str)) = H6 at er1 tr1 ⊢
      walk_at "rd"
      refine ⟨p, _, rfl, SqL.of (tr1 _ _ e5), fun r2 hr2 => ?_⟩
      rw [eu]
      have er2 : upd H6 r2 (.lst (us.map V.str)) r2 = some (.lst (us.map V.str)) := upd_same
      have tr2 := same_new (o := .lst (us.map V.str)) hr2
      generalize upd H6 r2 (.lst (us.map V.str)) = H7 at er2 tr2 ⊢
      have l5 : five.length = 5 := rfl
      refine ⟨r1, r2, _, _, rfl, rfl, tr2 _ _ er1, er2, by rw [List.length_map, List.length_map, sizeLine_eq]; omega, fun r3 hr3 => ?_⟩
      rw [← List.map_append]
      have er3 : upd H7 r3 (.lst ((ys ++ us).map V.str)) r3 = some (.lst ((ys ++ us).map V.str)) := upd_same
      have tr3 := same_new (o := .lst ((ys ++ us).map V.str)) hr3
      generalize upd H7 r3 (.lst ((ys ++ us).map V.str)) = H8 at er3 tr3 ⊢
      have t58 := tr1.trans (tr2.trans tr3)
      walk_at "rd"
      refine ⟨r3, ys ++ us, rfl, er3, fun z hz => ?_, ?_⟩
      · rcases List.mem_append.mp hz with hz | hz
        · exact five_tab z (my z hz)
        · exact five_tab z (mu z hz)
      have s8 : Same H2 H8 := (same_off hb ((s3.trans tp)) o5).trans t58
      have e8 := t58 _ _ e5
      have B8 := B5.same t58
      walk_at "rd"
      refine r_for ?_
      refine r_iList ?_
      walk_at "rd"
      refine ⟨b, 4096, _, rfl, by decide, by decide, B8, by decide, fun n1 H9 n10 n11 B9 o9 => ?_⟩
      walk_at "rd"
      refine ⟨b, 4096, _, rfl, by decide, by decide, B9, by decide, fun n2 H10 n20 n21 B10 o10 => ?_⟩
      walk_at "rd"
      refine r_new rfl fun r4 hr4 => ?_
      have s10 : Same H2 H10 := same_off hb s8 (o9.trans o10)
      have e10 := o10 p _ pb (o9 p _ pb e8)
      have tr4 := same_new (o := .lst [.int 0, .int 4095, .int n1, .int n2]) hr4
      have er4 : upd H10 r4 (.lst [.int 0, .int 4095, .int n1, .int n2]) r4 = some (.lst [.int 0, .int 4095, .int n1, .int n2]) := upd_same
      generalize upd H10 r4 (.lst [.int 0, .int 4095, .int n1, .int n2]) = H11 at er4 tr4 ⊢
      refine ⟨r4, rfl, ⟨_, SqL.of er4⟩, ?_⟩
      refine lp_list (xs := [.int 0, .int 4095, .int n1, .int n2]) (fun _ s h => (∃ x5 x6, s = [some (.ref a), some (.int i), some (.ref b), some (.ref p), some (.int first), x5, x6]) ∧ h = H11) ⟨⟨_, _, rfl⟩, rfl⟩ (fun _ _ _ _ q => by rw [q.2]; exact SqL.of er4) (fun l x s h hx => ?_) (fun s h q2 => ?_)
      · rintro ⟨⟨x5, x6, rfl⟩, rfl⟩
        obtain ⟨m, rfl, m0, m1⟩ : ∃ m : Int, x = .int m ∧ 0 ≤ m ∧ m < 4096 := by
          rcases List.mem_cons.mp (List.mem_of_getElem? hx) with rfl | hx
          · exact ⟨0, rfl, by decide, by decide⟩
          rcases List.mem_cons.mp hx with rfl | hx
          · exact ⟨4095, rfl, by decide, by decide⟩
          rcases List.mem_cons.mp hx with rfl | hx
          · exact ⟨n1, rfl, n10, n11⟩
          obtain rfl := List.mem_singleton.mp hx
          exact ⟨n2, rfl, n20, n21⟩
        walk_at "rd"
        refine ⟨m, rfl, m0, m1, ?_⟩
        walk_at "rd"
        exact ⟨⟨_, _, rfl⟩, rfl⟩
      · obtain ⟨⟨x5, x6, rfl⟩, rfl⟩ := q2
        walk_at "rd"
        refine r_for ?_
        refine r_rng1 ?_
        walk_at "rd"
        refine ⟨_, rfl, by decide, by decide, ?_⟩
        refine lp_range (fun j s h2 => (∃ x6, s = [some (.ref a), some (.int i), some (.ref b), some (.ref p), some (.int first), x5, x6]) ∧ Bx (3 + j * 20) h2 b ∧ Same H2 h2 ∧ h2 p = some (.lst (five.map V.str))) ⟨⟨_, rfl⟩, (B10.same tr4).up (by decide), s10.trans tr4, tr4 _ _ e10⟩ (fun j s h2 hj => ?_) (fun s h2 q2 => ?_)
        · rintro ⟨⟨x6, rfl⟩, Bj, sj, ej⟩
          have hj3 : j < 3 := hj
          walk_at "rd"
          refine ⟨b, 5, _, rfl, by decide, by decide, Bj, by omega, fun d H12 d0 d1 B12 o12 => ?_⟩
          refine r_ixP (o12 p _ pb ej) five_v d0 d1 ?_
          rintro v ⟨z, g, rfl, tg⟩
          walk_at "rd"
          refine ⟨b, _, z, g, rfl, B12, by omega, tg, fun H13 B13 o13 => ?_⟩
          walk_at "rd"
          exact ⟨⟨_, rfl⟩, B13.up (by omega), same_off hb sj (o12.trans o13), o13 p _ pb (o12 p _ pb ej)⟩
        · obtain ⟨⟨x6, rfl⟩, Bj, sj, ej⟩ := q2
          exact ⟨⟨_, _, _, _, _, _, rfl⟩, s2.trans sj⟩
    · rintro s H2 ⟨⟨x1, x2, x3, x4, x5, x6, rfl⟩, s2⟩
      walk_at "rd"
      exact q _
end
end K3
set_option linter.all false
set_option maxRecDepth 100000
set_option maxHeartbeats 4000000
namespace K3
open PySem PySem.Spec PyProof.Rows L2 Gx
theorem all_mk {P : Program} {w : World} {K : PySem.W.Frag} {h : Heap} {mg : Str → Option Value} {fa : Addr} (X : K.In h) (G : h.Ns mainGlobals mg) (hfa : mg "law" = some (.ref fa))
    {f0 : Addr} {oc0 kV0 dc0 pm0 cd0 ct0 : Value} {od0 an0 : Option Addr} {sl0 : Array (Option Value)}
    {f1 : Addr} {oc1 kV1 dc1 pm1 cd1 ct1 : Value} {od1 an1 : Option Addr} {sl1 : Array (Option Value)}
    {f2 : Addr} {oc2 kV2 dc2 pm2 cd2 ct2 : Value} {od2 an2 : Option Addr} {sl2 : Array (Option Value)}
    {f3 : Addr} {oc3 kV3 dc3 pm3 cd3 ct3 : Value} {od3 an3 : Option Addr} {sl3 : Array (Option Value)}
    {f4 : Addr} {oc4 kV4 dc4 pm4 cd4 ct4 : Value} {od4 an4 : Option Addr} {sl4 : Array (Option Value)}
    {f5 : Addr} {oc5 kV5 dc5 pm5 cd5 ct5 : Value} {od5 an5 : Option Addr} {sl5 : Array (Option Value)}
    {f6 : Addr} {oc6 kV6 dc6 pm6 cd6 ct6 : Value} {od6 an6 : Option Addr} {sl6 : Array (Option Value)}
    {f7 : Addr} {oc7 kV7 dc7 pm7 cd7 ct7 : Value} {od7 an7 : Option Addr} {sl7 : Array (Option Value)}
    {f8 : Addr} {oc8 kV8 dc8 pm8 cd8 ct8 : Value} {od8 an8 : Option Addr} {sl8 : Array (Option Value)}
    {f9 : Addr} {oc9 kV9 dc9 pm9 cd9 ct9 : Value} {od9 an9 : Option Addr} {sl9 : Array (Option Value)}
    {f10 : Addr} {oc10 kV10 dc10 pm10 cd10 ct10 : Value} {od10 an10 : Option Addr} {sl10 : Array (Option Value)}
    {f11 : Addr} {oc11 kV11 dc11 pm11 cd11 ct11 : Value} {od11 an11 : Option Addr} {sl11 : Array (Option Value)}
    {f12 : Addr} {oc12 kV12 dc12 pm12 cd12 ct12 : Value} {od12 an12 : Option Addr} {sl12 : Array (Option Value)}
    {f13 : Addr} {oc13 kV13 dc13 pm13 cd13 ct13 : Value} {od13 an13 : Option Addr} {sl13 : Array (Option Value)}
    {f14 : Addr} {oc14 kV14 dc14 pm14 cd14 ct14 : Value} {od14 an14 : Option Addr} {sl14 : Array (Option Value)}
    {f15 : Addr} {oc15 kV15 dc15 pm15 cd15 ct15 : Value} {od15 an15 : Option Addr} {sl15 : Array (Option Value)}
    {f16 : Addr} {oc16 kV16 dc16 pm16 cd16 ct16 : Value} {od16 an16 : Option Addr} {sl16 : Array (Option Value)}
    {f17 : Addr} {oc17 kV17 dc17 pm17 cd17 ct17 : Value} {od17 an17 : Option Addr} {sl17 : Array (Option Value)}
    {f18 : Addr} {oc18 kV18 dc18 pm18 cd18 ct18 : Value} {od18 an18 : Option Addr} {sl18 : Array (Option Value)}
    {f19 : Addr} {oc19 kV19 dc19 pm19 cd19 ct19 : Value} {od19 an19 : Option Addr} {sl19 : Array (Option Value)}
    {t0 : Nat}
    {t1 : Nat}
    {t2 : Nat}
    {t3 : Nat}
    {b0 : Addr} {z00 z01 z02 z03 z04 : Nat} {bd0 : Option Addr} {bs0 : Array (Option Value)} {bn0 : Nat}
    {S0 : Addr}
    {CN ICN NCN : Addr} {nmCN qnCN : Str} {bsCN bmCN : List Value} {snCN : List Str} {subCN : List Value} {abCN : Bool} {colCN : Option Bool} {ddCN : Option Addr} {q0CN q1CN q2CN q3CN q5CN : Option Value} {ocCN kVCN dcCN pmCN cdCN ctCN : Value} {odCN anCN : Option Addr} {slCN : Array (Option Value)}
    {CT ICT NCT : Addr} {nmCT qnCT : Str} {bsCT bmCT : List Value} {snCT : List Str} {subCT : List Value} {abCT : Bool} {colCT : Option Bool} {ddCT : Option Addr} {q0CT q1CT q2CT q3CT q5CT : Option Value} {ocCT kVCT dcCT pmCT cdCT ctCT : Value} {odCT anCT : Option Addr} {slCT : Array (Option Value)}
    (a0 : PySem.W.nsIn K mainGlobals "is_number" = some (some (.ref f0))) (l0 : K.lookup f0 = some ⟨oc0, od0, .func (PySem.W.fnOf "is_number" "is_number" (defArgs s_is_number) (defBody s_is_number) (defScope s_is_number) .none kV0 dc0 pm0 an0 cd0 ct0), sl0⟩) (c0 : PySem.W.codeIn K cd0 "is_number" = true) (k0 : PySem.W.keepIn K (.ref f0) = true)
    (a1 : PySem.W.nsIn K mainGlobals "is_whole" = some (some (.ref f1))) (l1 : K.lookup f1 = some ⟨oc1, od1, .func (PySem.W.fnOf "is_whole" "is_whole" (defArgs s_is_whole) (defBody s_is_whole) (defScope s_is_whole) .none kV1 dc1 pm1 an1 cd1 ct1), sl1⟩) (c1 : PySem.W.codeIn K cd1 "is_whole" = true) (k1 : PySem.W.keepIn K (.ref f1) = true)
    (a2 : PySem.W.nsIn K mainGlobals "is_table" = some (some (.ref f2))) (l2 : K.lookup f2 = some ⟨oc2, od2, .func (PySem.W.fnOf "is_table" "is_table" (defArgs s_is_table) (defBody s_is_table) (defScope s_is_table) .none kV2 dc2 pm2 an2 cd2 ct2), sl2⟩) (c2 : PySem.W.codeIn K cd2 "is_table" = true) (k2 : PySem.W.keepIn K (.ref f2) = true)
    (a3 : PySem.W.nsIn K mainGlobals "table_worth" = some (some (.ref f3))) (l3 : K.lookup f3 = some ⟨oc3, od3, .func (PySem.W.fnOf "table_worth" "table_worth" (defArgs s_table_worth) (defBody s_table_worth) (defScope s_table_worth) .none kV3 dc3 pm3 an3 cd3 ct3), sl3⟩) (c3 : PySem.W.codeIn K cd3 "table_worth" = true) (k3 : PySem.W.keepIn K (.ref f3) = true)
    (a4 : PySem.W.nsIn K mainGlobals "_saw" = some (some (.ref f4))) (l4 : K.lookup f4 = some ⟨oc4, od4, .func (PySem.W.fnOf "_saw" "_saw" (defArgs s_saw) (defBody s_saw) (defScope s_saw) .none kV4 dc4 pm4 an4 cd4 ct4), sl4⟩) (c4 : PySem.W.codeIn K cd4 "_saw" = true) (k4 : PySem.W.keepIn K (.ref f4) = true)
    (a5 : PySem.W.nsIn K mainGlobals "_square" = some (some (.ref f5))) (l5 : K.lookup f5 = some ⟨oc5, od5, .func (PySem.W.fnOf "_square" "_square" (defArgs s_square) (defBody s_square) (defScope s_square) .none kV5 dc5 pm5 an5 cd5 ct5), sl5⟩) (c5 : PySem.W.codeIn K cd5 "_square" = true) (k5 : PySem.W.keepIn K (.ref f5) = true)
    (a6 : PySem.W.nsIn K mainGlobals "_tri" = some (some (.ref f6))) (l6 : K.lookup f6 = some ⟨oc6, od6, .func (PySem.W.fnOf "_tri" "_tri" (defArgs s_tri) (defBody s_tri) (defScope s_tri) .none kV6 dc6 pm6 an6 cd6 ct6), sl6⟩) (c6 : PySem.W.codeIn K cd6 "_tri" = true) (k6 : PySem.W.keepIn K (.ref f6) = true)
    (a7 : PySem.W.nsIn K mainGlobals "_pulse" = some (some (.ref f7))) (l7 : K.lookup f7 = some ⟨oc7, od7, .func (PySem.W.fnOf "_pulse" "_pulse" (defArgs s_pulse) (defBody s_pulse) (defScope s_pulse) .none kV7 dc7 pm7 an7 cd7 ct7), sl7⟩) (c7 : PySem.W.codeIn K cd7 "_pulse" = true) (k7 : PySem.W.keepIn K (.ref f7) = true)
    (a8 : PySem.W.nsIn K mainGlobals "_hump" = some (some (.ref f8))) (l8 : K.lookup f8 = some ⟨oc8, od8, .func (PySem.W.fnOf "_hump" "_hump" (defArgs s_hump) (defBody s_hump) (defScope s_hump) .none kV8 dc8 pm8 an8 cd8 ct8), sl8⟩) (c8 : PySem.W.codeIn K cd8 "_hump" = true) (k8 : PySem.W.keepIn K (.ref f8) = true)
    (a9 : PySem.W.nsIn K mainGlobals "next_noise" = some (some (.ref f9))) (l9 : K.lookup f9 = some ⟨oc9, od9, .func (PySem.W.fnOf "next_noise" "next_noise" (defArgs s_next_noise) (defBody s_next_noise) (defScope s_next_noise) .none kV9 dc9 pm9 an9 cd9 ct9), sl9⟩) (c9 : PySem.W.codeIn K cd9 "next_noise" = true) (k9 : PySem.W.keepIn K (.ref f9) = true)
    (a10 : PySem.W.nsIn K mainGlobals "_law_cell" = some (some (.ref f10))) (l10 : K.lookup f10 = some ⟨oc10, od10, .func (PySem.W.fnOf "_law_cell" "_law_cell" (defArgs s_law_cell) (defBody s_law_cell) (defScope s_law_cell) .none kV10 dc10 pm10 an10 cd10 ct10), sl10⟩) (c10 : PySem.W.codeIn K cd10 "_law_cell" = true) (k10 : PySem.W.keepIn K (.ref f10) = true)
    (a11 : PySem.W.nsIn K mainGlobals "_law_box" = some (some (.ref f11))) (l11 : K.lookup f11 = some ⟨oc11, od11, .func (PySem.W.fnOf "_law_box" "_law_box" (defArgs s_law_box) (defBody s_law_box) (defScope s_law_box) .none kV11 dc11 pm11 an11 cd11 ct11), sl11⟩) (c11 : PySem.W.codeIn K cd11 "_law_box" = true) (k11 : PySem.W.keepIn K (.ref f11) = true)
    (a12 : PySem.W.nsIn K mainGlobals "_law_take" = some (some (.ref f12))) (l12 : K.lookup f12 = some ⟨oc12, od12, .func (PySem.W.fnOf "_law_take" "_law_take" (defArgs s_take) (defBody s_take) (defScope s_take) .none kV12 dc12 pm12 an12 cd12 ct12), sl12⟩) (c12 : PySem.W.codeIn K cd12 "_law_take" = true) (k12 : PySem.W.keepIn K (.ref f12) = true)
    (a13 : PySem.W.nsIn K mainGlobals "_law_due" = some (some (.ref f13))) (l13 : K.lookup f13 = some ⟨oc13, od13, .func (PySem.W.fnOf "_law_due" "_law_due" (defArgs s_law_due) (defBody s_law_due) (defScope s_law_due) .none kV13 dc13 pm13 an13 cd13 ct13), sl13⟩) (c13 : PySem.W.codeIn K cd13 "_law_due" = true) (k13 : PySem.W.keepIn K (.ref f13) = true)
    (a14 : PySem.W.nsIn K mainGlobals "_law_tables_right" = some (some (.ref f14))) (l14 : K.lookup f14 = some ⟨oc14, od14, .func (PySem.W.fnOf "_law_tables_right" "_law_tables_right" (defArgs s_law_tables_right) (defBody s_law_tables_right) (defScope s_law_tables_right) .none kV14 dc14 pm14 an14 cd14 ct14), sl14⟩) (c14 : PySem.W.codeIn K cd14 "_law_tables_right" = true) (k14 : PySem.W.keepIn K (.ref f14) = true)
    (a15 : PySem.W.nsIn K mainGlobals "_law_noise_right" = some (some (.ref f15))) (l15 : K.lookup f15 = some ⟨oc15, od15, .func (PySem.W.fnOf "_law_noise_right" "_law_noise_right" (defArgs s_law_noise_right) (defBody s_law_noise_right) (defScope s_law_noise_right) .none kV15 dc15 pm15 an15 cd15 ct15), sl15⟩) (c15 : PySem.W.codeIn K cd15 "_law_noise_right" = true) (k15 : PySem.W.keepIn K (.ref f15) = true)
    (a16 : PySem.W.nsIn K mainGlobals "_law_caught" = some (some (.ref f16))) (l16 : K.lookup f16 = some ⟨oc16, od16, .func (PySem.W.fnOf "_law_caught" "_law_caught" (defArgs s_law_caught) (defBody s_law_caught) (defScope s_law_caught) .none kV16 dc16 pm16 an16 cd16 ct16), sl16⟩) (c16 : PySem.W.codeIn K cd16 "_law_caught" = true) (k16 : PySem.W.keepIn K (.ref f16) = true)
    (a17 : PySem.W.nsIn K mainGlobals "_law_same" = some (some (.ref f17))) (l17 : K.lookup f17 = some ⟨oc17, od17, .func (PySem.W.fnOf "_law_same" "_law_same" (defArgs s_law_same) (defBody s_law_same) (defScope s_law_same) .none kV17 dc17 pm17 an17 cd17 ct17), sl17⟩) (c17 : PySem.W.codeIn K cd17 "_law_same" = true) (k17 : PySem.W.keepIn K (.ref f17) = true)
    (a18 : PySem.W.nsIn K mainGlobals "_law_refused_right" = some (some (.ref f18))) (l18 : K.lookup f18 = some ⟨oc18, od18, .func (PySem.W.fnOf "_law_refused_right" "_law_refused_right" (defArgs s_law_refused_right) (defBody s_law_refused_right) (defScope s_law_refused_right) .none kV18 dc18 pm18 an18 cd18 ct18), sl18⟩) (c18 : PySem.W.codeIn K cd18 "_law_refused_right" = true) (k18 : PySem.W.keepIn K (.ref f18) = true)
    (a19 : PySem.W.nsIn K mainGlobals "law" = some (some (.ref f19))) (l19 : K.lookup f19 = some ⟨oc19, od19, .func (PySem.W.fnOf "law" "law" (defArgs s_law) (defBody s_law) (defScope s_law) .none kV19 dc19 pm19 an19 cd19 ct19), sl19⟩) (c19 : PySem.W.codeIn K cd19 "law" = true) (k19 : PySem.W.keepIn K (.ref f19) = true)
    (i0 : PySem.W.nsIn K mainGlobals "LEAST" = some (some (.int (-2048) t0)))
    (i1 : PySem.W.nsIn K mainGlobals "GREATEST" = some (some (.int (2047) t1)))
    (i2 : PySem.W.nsIn K mainGlobals "WIDTH" = some (some (.int (4096) t2)))
    (i3 : PySem.W.nsIn K mainGlobals "PLACES" = some (some (.int (64) t3)))
    (u0 : PySem.W.nsIn K mainGlobals "TABLES" = some (some (.ref b0))) (w0 : K.lookup b0 = some ⟨.type "tuple", bd0, .seq #[.str "saw" z00, .str "square" z01, .str "tri" z02, .str "pulse" z03, .str "hump" z04] bn0, bs0⟩)
    (n0 : PySem.W.nsIn K mainGlobals "isinstance" = some none)
    (n1 : PySem.W.nsIn K mainGlobals "int" = some none)
    (n2 : PySem.W.nsIn K mainGlobals "bool" = some none)
    (n3 : PySem.W.nsIn K mainGlobals "str" = some none)
    (n4 : PySem.W.nsIn K mainGlobals "list" = some none)
    (n5 : PySem.W.nsIn K mainGlobals "dict" = some none)
    (n6 : PySem.W.nsIn K mainGlobals "len" = some none)
    (n7 : PySem.W.nsIn K mainGlobals "max" = some none)
    (n8 : PySem.W.nsIn K mainGlobals "min" = some none)
    (n9 : PySem.W.nsIn K mainGlobals "repr" = some none)
    (n10 : PySem.W.nsIn K mainGlobals "range" = some none)
    (s00 : PySem.W.nsIn K mainGlobals "SoundError" = some (some (.ref S0))) (s10 : PySem.W.specialIn K (.ref S0) "__getattribute__" = some (some (.builtin "type.__getattribute__"))) (s20 : PySem.W.readsIn K S0 (.type "type") = true) (s30 : PySem.W.findCls K (.ref S0) (.type "type") "__init__" = some (.val (.builtin "ValueError.__init__")))
    (e0CN : PySem.W.nsIn K mainGlobals "NoNumber" = some (some (.ref CN))) (e1CN : K.lookup CN = some (excClassObj nmCN qnCN CN NCN bsCN bmCN true snCN subCN abCN colCN ddCN q0CN q1CN q2CN q3CN q5CN "ValueError.__new__")) (e1bCN : PySem.HandSPX.refsVE bmCN = true)
    (e2CN : PySem.W.findIn K (.ref CN) "__setattr__" = some (some (.builtin "object.__setattr__"))) (e3CN : PySem.W.subIn K (.ref CN) (.type "BaseException") = some true) (e4CN : PySem.W.typeIn K (.ref CN) = some (.type "type")) (e5CN : PySem.W.keepIn K (.ref CN) = true)
    (e6CN : PySem.W.findIn K (.ref CN) "found" = some none) (e7CN : PySem.W.findIn K (.ref CN) "__init__" = some (some (.ref ICN))) (e8CN : PySem.W.typeIn K (.ref ICN) = some (.type "function"))
    (e9CN : K.lookup ICN = some ⟨ocCN, odCN, .func (PySem.W.fnOf "__init__" "NoNumber.__init__" (defArgs s_init_NoNumber) (defBody s_init_NoNumber) (defScope s_init_NoNumber) .none kVCN dcCN pmCN anCN cdCN ctCN), slCN⟩) (e10CN : PySem.W.codeIn K cdCN "NoNumber.__init__" = true) (e11CN : PySem.W.keepIn K (.ref ICN) = true)
    (x1CN : PySem.W.findIn K (.ref CN) "__getattribute__" = some (some (.builtin "BaseException.__getattribute__"))) (x2CN : PySem.W.findIn K (.ref CN) "__getattr__" = some none) (x3CN : PySem.W.hasDictIn K CN = true) (y1CN : PySem.W.isClsIn K CN = true)
    (e0CT : PySem.W.nsIn K mainGlobals "NoTable" = some (some (.ref CT))) (e1CT : K.lookup CT = some (excClassObj nmCT qnCT CT NCT bsCT bmCT true snCT subCT abCT colCT ddCT q0CT q1CT q2CT q3CT q5CT "ValueError.__new__")) (e1bCT : PySem.HandSPX.refsVE bmCT = true)
    (e2CT : PySem.W.findIn K (.ref CT) "__setattr__" = some (some (.builtin "object.__setattr__"))) (e3CT : PySem.W.subIn K (.ref CT) (.type "BaseException") = some true) (e4CT : PySem.W.typeIn K (.ref CT) = some (.type "type")) (e5CT : PySem.W.keepIn K (.ref CT) = true)
    (e6CT : PySem.W.findIn K (.ref CT) "found" = some none) (e7CT : PySem.W.findIn K (.ref CT) "__init__" = some (some (.ref ICT))) (e8CT : PySem.W.typeIn K (.ref ICT) = some (.type "function"))
    (e9CT : K.lookup ICT = some ⟨ocCT, odCT, .func (PySem.W.fnOf "__init__" "NoTable.__init__" (defArgs s_init_NoTable) (defBody s_init_NoTable) (defScope s_init_NoTable) .none kVCT dcCT pmCT anCT cdCT ctCT), slCT⟩) (e10CT : PySem.W.codeIn K cdCT "NoTable.__init__" = true) (e11CT : PySem.W.keepIn K (.ref ICT) = true)
    (x1CT : PySem.W.findIn K (.ref CT) "__getattribute__" = some (some (.builtin "BaseException.__getattribute__"))) (x2CT : PySem.W.findIn K (.ref CT) "__getattr__" = some none) (x3CT : PySem.W.hasDictIn K CT = true) (y1CT : PySem.W.isClsIn K CT = true)
    (mCTCT : PySem.W.subIn K (.ref CT) (.ref CT) = some true)
    (mCNCT : PySem.W.subIn K (.ref CN) (.ref CT) = some false)
    (mCNCN : PySem.W.subIn K (.ref CN) (.ref CN) = some true)
    {D : Addr} {es : Array DictEntry} {en : Nat}
    (g0 : PySem.W.nsIn K mainGlobals "_TABLE_WORTHS" = some (some (.ref D))) (g1 : K.lookup D = some ⟨.type "dict", none, .dict es en, #[]⟩) (g2 : PySem.W.KeysLit w.params es.toList) (g3 : PySem.W.nsIn K D "saw" = some (some (.ref f4))) (g4 : PySem.W.nsIn K D "square" = some (some (.ref f5))) (g5 : PySem.W.nsIn K D "tri" = some (some (.ref f6))) (g6 : PySem.W.nsIn K D "pulse" = some (some (.ref f7))) (g7 : PySem.W.nsIn K D "hump" = some (some (.ref f8))) :
    ∃ fd : FuncData, (∀ (s : Shared) (u : Value), BindsTo s fd ⟨[u], []⟩ [("script", u)]) ∧ ∀ base : Heap, K.In base → base.Ns mainGlobals mg → FnG P w K mg base (L2.CX P w) 7 fa fd ["script"] (spLaw K) := by
  have e := hfa.symm.trans (PySem.W.mg_of X G a19)
  cases e
  have T : Txt K mg w CN CT := {
    d_is_number := defIn X G a0 l0 c0 k0
    d_is_whole := defIn X G a1 l1 c1 k1
    d_is_table := defIn X G a2 l2 c2 k2
    d_table_worth := defIn X G a3 l3 c3 k3
    d_saw := defIn X G a4 l4 c4 k4
    d_square := defIn X G a5 l5 c5 k5
    d_tri := defIn X G a6 l6 c6 k6
    d_pulse := defIn X G a7 l7 c7 k7
    d_hump := defIn X G a8 l8 c8 k8
    d_next_noise := defIn X G a9 l9 c9 k9
    d_cell := defIn X G a10 l10 c10 k10
    d_box := defIn X G a11 l11 c11 k11
    d_take := defIn X G a12 l12 c12 k12
    d_due := defIn X G a13 l13 c13 k13
    d_tables_right := defIn X G a14 l14 c14 k14
    d_noise_right := defIn X G a15 l15 c15 k15
    d_caught := defIn X G a16 l16 c16 k16
    d_same := defIn X G a17 l17 c17 k17
    d_refused_right := defIn X G a18 l18 c18 k18
    g_LEAST := ⟨_, PySem.W.mg_of X G i0, _, rfl⟩
    g_GREATEST := ⟨_, PySem.W.mg_of X G i1, _, rfl⟩
    g_WIDTH := ⟨_, PySem.W.mg_of X G i2, _, rfl⟩
    g_PLACES := ⟨_, PySem.W.mg_of X G i3, _, rfl⟩
    g_TABLES := ⟨b0, PySem.W.mg_of X G u0, fun _ => .inr ⟨_, _, _, w0, rfl, rfl, Nat.le_of_ble_eq_true rfl, .cons ⟨_, rfl⟩ (.cons ⟨_, rfl⟩ (.cons ⟨_, rfl⟩ (.cons ⟨_, rfl⟩ (.cons ⟨_, rfl⟩ (.nil)))))⟩⟩
    n_isinstance := PySem.W.mg_none_of X G n0
    n_int := PySem.W.mg_none_of X G n1
    n_bool := PySem.W.mg_none_of X G n2
    n_str := PySem.W.mg_none_of X G n3
    n_list := PySem.W.mg_none_of X G n4
    n_dict := PySem.W.mg_none_of X G n5
    n_len := PySem.W.mg_none_of X G n6
    n_max := PySem.W.mg_none_of X G n7
    n_min := PySem.W.mg_none_of X G n8
    n_repr := PySem.W.mg_none_of X G n9
    n_range := PySem.W.mg_none_of X G n10
    u_SoundError := ⟨S0, PySem.W.mg_of X G s00, s10, s20, s30⟩
    x_NoNumber := ownX X G e0CN e1CN e1bCN e2CN e3CN e4CN e5CN e6CN e7CN e8CN e9CN e10CN e11CN x1CN x2CN x3CN
    x_NoTable := ownX X G e0CT e1CT e1bCT e2CT e3CT e4CT e5CT e6CT e7CT e8CT e9CT e10CT e11CT x1CT x2CT x3CT
    m_CT_CT := exm_sub e3CT y1CT e4CT mCTCT
    m_CN_CT := exm_sub e3CT y1CT e4CT mCNCT
    m_CN_CN := exm_sub e3CN y1CN e4CN mCNCN
    g_worths := ⟨D, f4, f5, f6, f7, f8, PySem.W.mg_of X G g0, ⟨PySem.W.mg_of X G a4, ⟨es, en, _, g1, g2, g3, rfl⟩⟩, ⟨PySem.W.mg_of X G a5, ⟨es, en, _, g1, g2, g4, rfl⟩⟩, ⟨PySem.W.mg_of X G a6, ⟨es, en, _, g1, g2, g5, rfl⟩⟩, ⟨PySem.W.mg_of X G a7, ⟨es, en, _, g1, g2, g6, rfl⟩⟩, ⟨PySem.W.mg_of X G a8, ⟨es, en, _, g1, g2, g7, rfl⟩⟩⟩ }
  have F := fun_mk (st := s_law) l19 c19 k19
  exact ⟨_, fun s u => .of_eq rfl, fun base _ _ => ok_law T F⟩
end K3
open PySem PySem.W PyProof.Rows
set_option maxRecDepth 100000 in
set_option maxHeartbeats 8000000 in
theorem PySem.Challenge.cw_cordsounds_k03_tables_and_noise_holds : PySem.Challenge.rw_cordsounds_k03_tables_and_noise.Holds := by
  w_on; o_law; k_head; (case hw => w_witness2)
  k_fill
  refine Gx.walk_gk (l := PySem.Challenge.rw_cordsounds_k03_tables_and_noise) (n := 63) (k := 7) (x := "script") (sp := K3.spLaw) rfl (by decide) rfl ⟨rfl, by decide, by decide⟩ (fun w h Y => PySem.W.kIn_of Y) ?F ?S
  case F =>
    intro w mg fa h KX G hmg
    refine' K3.all_mk KX G hmg ?a0 ?l0 ?c0 ?k0 ?a1 ?l1 ?c1 ?k1 ?a2 ?l2 ?c2 ?k2 ?a3 ?l3 ?c3 ?k3 ?a4 ?l4 ?c4 ?k4 ?a5 ?l5 ?c5 ?k5 ?a6 ?l6 ?c6 ?k6 ?a7 ?l7 ?c7 ?k7 ?a8 ?l8 ?c8 ?k8 ?a9 ?l9 ?c9 ?k9 ?a10 ?l10 ?c10 ?k10 ?a11 ?l11 ?c11 ?k11 ?a12 ?l12 ?c12 ?k12 ?a13 ?l13 ?c13 ?k13 ?a14 ?l14 ?c14 ?k14 ?a15 ?l15 ?c15 ?k15 ?a16 ?l16 ?c16 ?k16 ?a17 ?l17 ?c17 ?k17 ?a18 ?l18 ?c18 ?k18 ?a19 ?l19 ?c19 ?k19 ?i0 ?i1 ?i2 ?i3 ?u0 ?w0 ?n0 ?n1 ?n2 ?n3 ?n4 ?n5 ?n6 ?n7 ?n8 ?n9 ?n10 ?s00 ?s10 ?s20 ?s30 ?e0CN ?e1CN ?e1bCN ?e2CN ?e3CN ?e4CN ?e5CN ?e6CN ?e7CN ?e8CN ?e9CN ?e10CN ?e11CN ?x1CN ?x2CN ?x3CN ?y1CN ?e0CT ?e1CT ?e1bCT ?e2CT ?e3CT ?e4CT ?e5CT ?e6CT ?e7CT ?e8CT ?e9CT ?e10CT ?e11CT ?x1CT ?x2CT ?x3CT ?y1CT ?mCTCT ?mCNCT ?mCNCN ?tb0 ?tb1 ?tb2 ?tb3 ?tb4 ?tb5 ?tb6 ?tb7
    (case a0 => k_is)
    (case l0 => k_is)
    (case c0 => k_is)
    (case k0 => k_is)
    (case a1 => k_is)
    (case l1 => k_is)
    (case c1 => k_is)
    (case k1 => k_is)
    (case a2 => k_is)
    (case l2 => k_is)
    (case c2 => k_is)
    (case k2 => k_is)
    (case a3 => k_is)
    (case l3 => k_is)
    (case c3 => k_is)
    (case k3 => k_is)
    (case a4 => k_is)
    (case l4 => k_is)
    (case c4 => k_is)
    (case k4 => k_is)
    (case a5 => k_is)
    (case l5 => k_is)
    (case c5 => k_is)
    (case k5 => k_is)
    (case a6 => k_is)
    (case l6 => k_is)
    (case c6 => k_is)
    (case k6 => k_is)
    (case a7 => k_is)
    (case l7 => k_is)
    (case c7 => k_is)
    (case k7 => k_is)
    (case a8 => k_is)
    (case l8 => k_is)
    (case c8 => k_is)
    (case k8 => k_is)
    (case a9 => k_is)
    (case l9 => k_is)
    (case c9 => k_is)
    (case k9 => k_is)
    (case a10 => k_is)
    (case l10 => k_is)
    (case c10 => k_is)
    (case k10 => k_is)
    (case a11 => k_is)
    (case l11 => k_is)
    (case c11 => k_is)
    (case k11 => k_is)
    (case a12 => k_is)
    (case l12 => k_is)
    (case c12 => k_is)
    (case k12 => k_is)
    (case a13 => k_is)
    (case l13 => k_is)
    (case c13 => k_is)
    (case k13 => k_is)
    (case a14 => k_is)
    (case l14 => k_is)
    (case c14 => k_is)
    (case k14 => k_is)
    (case a15 => k_is)
    (case l15 => k_is)
    (case c15 => k_is)
    (case k15 => k_is)
    (case a16 => k_is)
    (case l16 => k_is)
    (case c16 => k_is)
    (case k16 => k_is)
    (case a17 => k_is)
    (case l17 => k_is)
    (case c17 => k_is)
    (case k17 => k_is)
    (case a18 => k_is)
    (case l18 => k_is)
    (case c18 => k_is)
    (case k18 => k_is)
    (case a19 => k_is)
    (case l19 => k_is)
    (case c19 => k_is)
    (case k19 => k_is)
    (case i0 => k_is)
    (case i1 => k_is)
    (case i2 => k_is)
    (case i3 => k_is)
    (case u0 => k_is)
    (case w0 => k_is)
    (case n0 => k_is)
    (case n1 => k_is)
    (case n2 => k_is)
    (case n3 => k_is)
    (case n4 => k_is)
    (case n5 => k_is)
    (case n6 => k_is)
    (case n7 => k_is)
    (case n8 => k_is)
    (case n9 => k_is)
    (case n10 => k_is)
    (case s00 => k_is)
    (case s10 => k_is)
    (case s20 => k_is)
    (case s30 => k_is)
    (case e0CN => k_is)
    (case e1CN => k_is)
    (case e1bCN => decide +kernel)
    (case e2CN => k_is)
    (case e3CN => k_is)
    (case e4CN => k_is)
    (case e5CN => k_is)
    (case e6CN => k_is)
    (case e7CN => k_is)
    (case e8CN => k_is)
    (case e9CN => k_is)
    (case e10CN => k_is)
    (case e11CN => k_is)
    (case x1CN => k_is)
    (case x2CN => k_is)
    (case x3CN => k_is)
    (case y1CN => k_is)
    (case e0CT => k_is)
    (case e1CT => k_is)
    (case e1bCT => decide +kernel)
    (case e2CT => k_is)
    (case e3CT => k_is)
    (case e4CT => k_is)
    (case e5CT => k_is)
    (case e6CT => k_is)
    (case e7CT => k_is)
    (case e8CT => k_is)
    (case e9CT => k_is)
    (case e10CT => k_is)
    (case e11CT => k_is)
    (case x1CT => k_is)
    (case x2CT => k_is)
    (case x3CT => k_is)
    (case y1CT => k_is)
    (case mCTCT => k_is)
    (case mCNCT => k_is)
    (case mCNCN => k_is)
    (case tb0 => k_is)
    (case tb1 => k_is)
    (case tb2 => k_keys)
    (case tb3 => k_is)
    (case tb4 => k_is)
    (case tb5 => k_is)
    (case tb6 => k_is)
    (case tb7 => k_is)
  case S =>
    intro K H a ns hl hS
    exact ⟨a, ns, rfl, hS, Nat.le_trans hl (by decide), fun _ => rfl⟩
