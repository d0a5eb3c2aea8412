import PyProof.Rows.All
import Wide.All
import OpenK.AllK
import Wide.FinOn
import PyProof.EqAt
import PyProof.EqKinds
import PyProof.TupleCall
import HandS.ForMost
import HandS.ForExc
import HandS.Evl
import HandS.Steps
import HandS.Wide
import HandS.WideBits
import HandS.IsInst
import HandS.Defaults
import HandS.TryMany
import HandS.ExcField
import HandS.ExcIs
import HandS.ExcInit
import HandS.RaiseMore
import HandS.TupAny
import HandS.TupLe
import HandS.Style
import HandS.Flow
import HandS.ClsMeth
import KE.KExcIs
import HandS.Walk
import HandS.Dict
import HandS.Small
import HandS.Ends
import HandS.ExcOwn
import HandS.WordsDict
import HandS.Iter
import HandS.TupMul
import KE.GoesEnum
import KE.GoesZip
import HandS.Flt
import HandS.NoneIn
import HandS.More
import HandS.Codes
import HandS.OwnEq
import HandS.DictComp
import PySem.Challenge.RW_cordsounds_k07_whole_all_kinds_at_work
set_option Elab.async false
set_option linter.all false
set_option maxRecDepth 100000
set_option maxHeartbeats 4000000
namespace Gx
open PySem PySem.Spec PyProof.Rows L2

/-! ### defs that are called where no repr is under way -/
structure FnG (P : Program) (w : World) (K : PySem.W.Frag) (mg : Str → Option Value) (base : Heap) (CX : CXT) (k : Nat) (f : Addr) (fd : FuncData) (ps : List Str) (sp : Sp) : Prop where
  len : ∀ vs H Q E, sp vs H Q E → vs.length = ps.length
  go : ∀ (A : Around) (outer : List Env) (s : Shared) (H : Hp) (args : Args) (us : List Value) (vs : List V) (Q : VK) (E : XK),
    A.guards = some [] → Room k A → Env0 P w K mg base A outer s H → BindsTo s fd args (ps.zip us) →
    Vals vs us → sp vs H Q E → codeAny (model P w) A (.call (.ref f) args) (CR CX outer P w H s Q E) s
section
variable {P : Program} {w : World} {K : PySem.W.Frag} {mg : Str → Option Value} {base : Heap} {CX : CXT} {k : Nat} {f : Addr}
  {fd : FuncData} {ps : List Str} {sp : Sp}
theorem FnG.of (F : FnOk P w K mg base CX k f fd ps sp) : FnG P w K mg base CX k f fd ps sp :=
  ⟨F.len, fun A o s H args us vs Q E _ => F.run A o s H args us vs Q E⟩
theorem FnG.up (F : FnG P w K mg base CX k f fd ps sp) {j : Nat} (h : k ≤ j) : FnG P w K mg base CX j f fd ps sp :=
  ⟨F.len, fun A o s H args us vs Q E g hr => F.go A o s H args us vs Q E g (hr.mono h)⟩
/-- a def of the text by its body's reading -/
theorem fnG {x qual : Str} {st : Stmt} {N : List Str} (F : Fun K x qual st f fd) (S : FnScope N ps (defScope st)) (len : ∀ vs H Q E, sp vs H Q E → vs.length = ps.length)
    (body : ∀ (cdv : Value) (A : Around) (outer : List Env) (s : Shared) (H : Hp) (vs : List V) (Q : VK) (E : XK),
      A.guards = some [] → Room k (A.deeper (envOfC qual (defScope st) s.heap.objs.size f cdv)) → sp vs H Q E →
      ∃ t, PSs (cxOf CX P w K mg base N qual (defScope st) f cdv A outer s H E) (defBody st) t ∧
        t { nx := fun _ H' => Q .non H', rt := Q } (start N vs) H) :
    FnG P w K mg base CX (k + 1) f fd ps sp := by
  obtain ⟨oc, od, kV, doc, pm, an, cdv, ct, osl, rfl, lk, hcd⟩ := F.ex
  refine ⟨len, fun A outer s H args us vs Q E hg hr e0 hb r hsp => ?_⟩
  have keep := fun b o e => (e0.bs b o e).1
  refine Att.call_fn (e0.mod.kin.keeps keep) (e0.mod.nolimit.keeps keep) lk hcd hr.depth hb ?_ (fun s1 x => ?_) S.co S.gen S.kind
  · rw [List.all_eq_true]
    rintro ⟨n, v⟩ hy
    rcases S.par n (List.of_mem_zip hy).1 with q | q <;> simp [q]
  · obtain ⟨t, ht, hq⟩ := body cdv A outer s H vs Q E hg (hr.deeper _) hsp
    have I := inv_start (CX := CX) (E := E) S hr.hd e0 (len _ _ _ _ hsp) r x
    refine wpAny_mono (ht.run [] s1 (start N vs) H _ I hq) ?_ (fun e s' z => z)
    intro fl s' hs
    cases fl with
    | ret u =>
      obtain ⟨v, _, H', J, rv, q⟩ := hs
      exact ⟨v, H', J.os, J.bare, J.base, J.hok, rv, q⟩
    | next =>
      obtain ⟨_, H', J, q⟩ := hs
      exact ⟨.non, H', J.os, J.bare, J.base, J.hok, rfl, q⟩
    | brk => exact hs.elim fun _ z => z.elim fun _ z => z.2.elim
    | cont => exact hs.elim fun _ z => z.elim fun _ z => z.2.elim
end

/-! ### calls of module functions -/
/-- a def of the module as its callers see it -/
structure Cal (P : Program) (w : World) (K : PySem.W.Frag) (mg : Str → Option Value) (base : Heap) (CX : CXT) (k : Nat) (x : Str) (ps : List Str) (sp : Sp) : Prop where
  ex : ∃ f fd, FnG P w K mg base CX k f fd ps sp ∧ mg x = some (.ref f) ∧ PySem.W.keepIn K (.ref f) = true ∧ Binds K fd ps []
/-- the same with keywords: ks the names as they are written, g puts their values into the parameters' order -/
structure CalK (P : Program) (w : World) (K : PySem.W.Frag) (mg : Str → Option Value) (base : Heap) (CX : CXT) (k : Nat) (x : Str) (ps : List Str) (sp : Sp) (ks : List Str) (gV : List V → List V → List V) : Prop where
  ex : ∃ f fd g, FnG P w K mg base CX k f fd ps sp ∧ mg x = some (.ref f) ∧ PySem.W.keepIn K (.ref f) = true ∧ KBinds K fd ps ks g gV
def tG (sp : Sp) (E : L2.St → XK) (t : TA) : TE := fun σ H Q => t σ H fun vs H1 => sp vs H1 Q (E σ)
def tK (sp : Sp) (gV : List V → List V → List V) (E : L2.St → XK) (t : TA) : TE := fun σ H Q => t σ H fun zs H1 => sp (gV [] zs) H1 Q (E σ)
section
variable {X : Cx} {CX : CXT} {k : Nat} {ps ks : List Str} {sp : Sp} {x : Str} {p pos : Pos} {e : Expr} {es : List Expr} {kws : List Keyword} {t : TA} {E : L2.St → XK}
theorem pe_g (C : Cal X.prog X.w X.K X.mg X.base CX k x ps sp) (hG : X.A.guards = some []) (hr : Room k X.A) (hx : ∀ σ, PassesAt CX X σ (E σ)) (ha : PA X (e :: es) t)
    (hg : Gl X x := by rfl) (hdb : (x == ("__debug__" : Str)) = false := by decide)
    (he : starEach (e :: es) X.env = (false, eval e X.env) :: starEach es X.env := by rfl)
    (hpl : (backTo pos (starEach es X.env)).any (·.1) = false := by rfl) : PE X (.Call (.Name x p) (e :: es) [] pos) (tG sp E t) := by
  obtain ⟨f, fd, F, hm, hk, hb⟩ := C.ex
  refine ⟨fun pins s σ H Q I h => wpAny_Call_Name_kw (ld_glob I hg hm ?_ hdb)⟩
  refine PySem.W.callWith_K (h₀ := X.base) I.ok.mod.kin hk ?_ he hpl
  refine thn (ha.run pos pins s σ H _ I h) ?_
  rintro us s1 ⟨vs, H1, I1, r, q⟩
  refine ⟨I1.kIn, ?_⟩
  have hl : us.length = ps.length := r.length.symm.trans (F.len _ _ _ _ q)
  have b := hb s1 us I1.kIn (by simpa using hl)
  rw [List.append_nil] at b
  refine wpAny_call (codeAny_mono (F.go X.A X.stack s1 H1 ⟨us, []⟩ us vs Q (E σ) hG hr I1.env0 b r q) ?_)
  intro r s' hq
  match r, hq with
  | .error e, hq => exact hx σ pins H1 s1 e s' I1 hq
  | .ok (.ret u), hq => exact I1.after hq
  | .ok .next, hq => exact hq.elim
  | .ok .brk, hq => exact hq.elim
  | .ok .cont, hq => exact hq.elim
theorem pe_k {gV : List V → List V → List V} (C : CalK X.prog X.w X.K X.mg X.base CX k x ps sp ks gV) (hG : X.A.guards = some []) (hr : Room k X.A) (hx : ∀ σ, PassesAt CX X σ (E σ)) (hkw : PK X kws t)
    (hg : Gl X x := by rfl) (hall : (backToKw pos (keywordEach kws X.env)).all (·.1.isSome) = true := by rfl)
    (hks : (backToKw pos (keywordEach kws X.env)).filterMap (·.1) = ks := by rfl) (hdb : (x == ("__debug__" : Str)) = false := by decide)
    (hpl : ((backTo pos (starEach [] X.env)).any (·.1) || (backToKw pos (keywordEach kws X.env)).any (·.1.isNone)) = false := by rfl) :
    PE X (.Call (.Name x p) [] kws pos) (tK sp gV E t) := by
  obtain ⟨f, fd, g, F, hm, hk, hb⟩ := C.ex
  refine ⟨fun pins s σ H Q I h => wpAny_Call_Name_kw (ld_glob I hg hm ?_ hdb)⟩
  refine PySem.W.callWith_KW0 (h₀ := X.base) I.ok.mod.kin hk hall ?_ hpl
  refine thn (hkw.run pos pins s σ H _ I h) ?_
  rintro ws s1 ⟨zs, H1, I1, rz, q⟩
  refine ⟨I1.kIn, ?_⟩
  rw [hks]
  have r2 := hb.rel (vs := []) (us := []) .nil rz
  have hl : (g [] ws).length = ps.length := r2.length.symm.trans (F.len _ _ _ _ q)
  refine wpAny_call (codeAny_mono (F.go X.A X.stack s1 H1 ⟨[], ks.zip ws⟩ (g [] ws) _ Q (E σ) hG hr I1.env0 (hb.to s1 [] ws I1.kIn hl) r2 q) ?_)
  intro r s' hq
  match r, hq with
  | .error e, hq => exact hx σ pins H1 s1 e s' I1 hq
  | .ok (.ret u), hq => exact I1.after hq
  | .ok .next, hq => exact hq.elim
  | .ok .brk, hq => exact hq.elim
  | .ok .cont, hq => exact hq.elim
theorem passS {σ : L2.St} : PassesAt (L2.CX X.prog X.w) X σ E0 := fun pins H s e s' I c => passL pins σ H s e s' I c
end

/-! ### what a value shows: repr -/
mutual
/-- v is the datum, over the tracked heap -/
def IsD (H : Hp) : PyData → V → Prop
  | .none, v => v = .non
  | .bool b, v => v = .bl b
  | .int i, v => v = .int i
  | .str x, v => v = .str x
  | .list ds, v => ∃ a xs, v = .ref a ∧ H a = some (.lst xs) ∧ AllD H ds xs
  | .tuple ds, v => ∃ a xs, v = .ref a ∧ H a = some (.tup xs) ∧ AllD H ds xs
  | .dict kvs, v => ∃ a es, v = .ref a ∧ H a = some (.dK es) ∧ DctD H kvs es
def AllD (H : Hp) : List PyData → List V → Prop
  | [], xs => xs = []
  | d :: ds, xs => ∃ x r, xs = x :: r ∧ IsD H d x ∧ AllD H ds r
def DctD (H : Hp) : List (PyData × PyData) → List (Key × V) → Prop
  | [], es => es = []
  | (k, d) :: r, es => ∃ y z es', es = (y, z) :: es' ∧ IsD H k (kV y) ∧ IsD H d z ∧ DctD H r es'
end
section
variable {P : Program} {w : World} {H : Hp} {h : Heap}
mutual
theorem reads_of (ok : HOk P w H h) : ∀ (d : PyData) (v : V) (u : Value), d.hasDict = false → IsD H d v → RelV v u → ∃ as, Reads h u d as
  | .none, v, u, _, i, r => by
    unfold IsD at i
    subst i
    obtain rfl : u = Value.none := r
    exact ⟨_, .none⟩
  | .bool b, v, u, _, i, r => by
    unfold IsD at i
    subst i
    obtain rfl : u = Value.bool b := r
    exact ⟨_, .bool b⟩
  | .int n, v, u, _, i, r => by
    unfold IsD at i
    subst i
    obtain ⟨t, rfl⟩ : ∃ t, u = Value.int n t := r
    exact ⟨_, .int n t⟩
  | .str x, v, u, _, i, r => by
    unfold IsD at i
    subst i
    obtain ⟨t, rfl⟩ : ∃ t, u = Value.str x t := r
    exact ⟨_, .str x t⟩
  | .list ds, v, u, hd, i, r => by
    unfold IsD at i
    obtain ⟨a, xs, rfl, ha, hs⟩ := i
    obtain rfl : u = Value.ref a := r
    obtain ⟨_, its, n, rv, ho⟩ : ObjOk P w H h a (.lst xs) := ok a _ ha
    obtain ⟨as, q⟩ := readsAll_of ok ds xs its (by simpa [PyData.hasDict] using hd) hs rv
    exact ⟨_, .list ho rfl rfl q⟩
  | .tuple ds, v, u, hd, i, r => by
    unfold IsD at i
    obtain ⟨a, xs, rfl, ha, hs⟩ := i
    obtain rfl : u = Value.ref a := r
    obtain ⟨_, its, rv, o, ho, hc, n, hdt⟩ : ObjOk P w H h a (.tup xs) := ok a _ ha
    obtain ⟨as, q⟩ := readsAll_of ok ds xs its (by simpa [PyData.hasDict] using hd) hs rv
    exact ⟨_, .tuple ho hc hdt q⟩
  | .dict kvs, v, u, hd, i, r => by simp [PyData.hasDict] at hd
theorem readsAll_of (ok : HOk P w H h) : ∀ (ds : List PyData) (xs : List V) (us : List Value), PyData.hasDictAll ds = false → AllD H ds xs → Vals xs us → ∃ as, ReadsAll h us ds as
  | [], xs, us, _, i, r => by
    unfold AllD at i
    subst i
    cases r
    exact ⟨_, .nil⟩
  | d :: ds, xs, us, hd, i, r => by
    unfold AllD at i
    obtain ⟨x, t, rfl, i1, i2⟩ := i
    cases r with
    | cons r1 r2 =>
      have hd' : d.hasDict = false ∧ PyData.hasDictAll ds = false := by simpa [PyData.hasDictAll] using hd
      obtain ⟨as, q1⟩ := reads_of ok d x _ hd'.1 i1 r1
      obtain ⟨bs, q2⟩ := readsAll_of ok ds t _ hd'.2 i2 r2
      exact ⟨_, .cons q1 q2⟩
end
end
end Gx
set_option linter.all false
set_option maxRecDepth 100000
set_option maxHeartbeats 4000000
namespace Gx
open PySem PySem.Spec PyProof.Rows L2
section
variable {X : Cx}
/-- what repr asks: the one value as a datum without dicts -/
def rShow : List V → Hp → VK → Prop := fun xs H Q => ∃ v d, xs = [v] ∧ IsD H d v ∧ d.hasDict = false ∧ d.showable = true ∧ d.depth ≤ 20 ∧ d.shown.length ≤ sizeLine ∧ Q (.str d.shown) H
theorem call_show (hG : X.A.guards = some []) (hu : X.A.units + 64 < cLine) : CallR X (.builtin "repr") rShow := by
  intro pins s σ H xs us Q I r h
  obtain ⟨v, d, rfl, hd, hn, hs, hp, hl, q⟩ := h
  obtain ⟨u, rfl, ru⟩ : ∃ u, us = [u] ∧ RelV v u := by
    cases r with
    | cons r1 r2 => cases r2; exact ⟨_, rfl, r1⟩
  have big : ∀ a, u = Value.ref a → wpAny (model X.prog X.w) X.A (call (.builtin "repr") [u]) (EP X pins σ Q) X.xe s := by
    rintro a rfl
    obtain ⟨as, rd⟩ := reads_of I.hok d v _ hn hd ru
    refine repr_of_reads' rd hs (PyData.noDict_hsm hn) hG (by omega) (fun _ _ z => z) ?_ hl
    intro h' t tk keep
    exact ⟨.str d.shown, H, I.kept (t' := tk) keep, ⟨t, rfl⟩, q⟩
  cases d with
  | none =>
    unfold IsD at hd
    subst hd
    obtain rfl : u = Value.none := ru
    exact PySem.P.repr_of_none ⟨.str _, H, I.tok _, ⟨_, rfl⟩, by simpa only [PyData.shown] using q⟩
  | bool b =>
    unfold IsD at hd
    subst hd
    obtain rfl : u = Value.bool b := ru
    refine PySem.P.repr_of_bool ⟨.str _, H, I.tok _, ⟨_, rfl⟩, ?_⟩
    simpa only [PyData.shown] using q
  | int i =>
    unfold IsD at hd
    subst hd
    obtain ⟨t, rfl⟩ : ∃ t, u = Value.int i t := ru
    have hz : i.natAbs.log2 < 1920 := by simpa [PyData.showable] using hs
    refine PySem.P.repr_of_int hz ⟨.str _, H, I.tok _, ⟨_, rfl⟩, ?_⟩
    simpa only [PyData.shown] using q
  | str x =>
    unfold IsD at hd
    subst hd
    obtain ⟨t, rfl⟩ : ∃ t, u = Value.str x t := ru
    have hl' : (reprText x).length ≤ sizeLine := by simpa only [PyData.shown] using hl
    refine PySem.P.repr_of_str ⟨.str _, H, I.tok _, ⟨_, rfl⟩, ?_⟩ hl'
    simpa only [PyData.shown] using q
  | list ds =>
    unfold IsD at hd
    obtain ⟨a, ys, rfl, _⟩ := hd
    exact big a ru
  | tuple ds =>
    unfold IsD at hd
    obtain ⟨a, ys, rfl, _⟩ := hd
    exact big a ru
  | dict kvs => simp [PyData.hasDict] at hn
end

/-! ### exceptions whose __init__ calls that of an own class above -/
/-- S.__init__ is ValueError's, S an own class -/
structure UpC (K : PySem.W.Frag) (mg : Str → Option Value) (x : Str) (S : Addr) : Prop where
  gl : mg x = some (.ref S)
  ga : PySem.W.specialIn K (.ref S) "__getattribute__" = some (some (.builtin "type.__getattribute__"))
  rd : PySem.W.readsIn K S (.type "type") = true
  vl : PySem.W.findCls K (.ref S) (.type "type") "__init__" = some (.val (.builtin "ValueError.__init__"))
section
variable {X : Cx} {x : Str} {S : Addr} {e : Expr} {es : List Expr} {ta : TA} {p1 p2 pos : Pos}
theorem pe_upinit {pl : Sem Bool} (U : UpC X.K X.mg x S) (ha : PA X (e :: es) ta) (hg : Gl X x := by rfl)
    (hc : eval (.Call (.Attribute (.Name x p1) "__init__" p2) (e :: es) [] pos) X.env = (do
      let o ← eval (.Name x p1) X.env
      standAt p2.atName
      let (f, first) ← holding [o] (getMethod o "__init__" pl)
      callWith pos f first (backTo pos (starEach (e :: es) X.env)) (backToKw pos (keywordEach [] X.env))) := by rfl)
    (hdb : (x == ("__debug__" : Str)) = false := by decide)
    (he : starEach (e :: es) X.env = (false, eval e X.env) :: starEach es X.env := by rfl)
    (hpl : (backTo pos (starEach es X.env)).any (·.1) = false := by rfl) :
    PE X (.Call (.Attribute (.Name x p1) "__init__" p2) (e :: es) [] pos) (tVeI X.K ta) := by
  refine ⟨fun pins s σ H Q I h => PySem.W.methodCall_KW (ld_glob I hg U.gl ?_ hdb) hc⟩
  refine PySem.W.method_cls I.kIn U.ga (PySem.W.cls_value I.kIn U.rd U.vl (by decide +kernel) ?_)
  show wpAny _ _ (callWith pos (Value.builtin "ValueError.__init__") [] (backTo pos (starEach (e :: es) X.env)) []) _ _ _
  refine PyProof.Rows.callWith_method1 (thn (ha.run pos pins _ σ H _ (I.tok _) h) ?_) he hpl
  rintro us s1 ⟨vs, H1, I1, r1, a, C, ws, rfl, hl, T, ea, q⟩
  cases r1 with
  | @cons _ u0 _ ur ra rest =>
    obtain rfl : u0 = Value.ref a := ra
    refine oinit_ok T I1 ea ?_ fun s' J => ⟨.non, H1, J, rfl, q⟩
    have := Paired.length rest
    rw [sizeLine_eq]
    omega
end
end Gx
set_option linter.all false
set_option maxRecDepth 100000
set_option maxHeartbeats 4000000
namespace Gx
open PySem PySem.Spec PyProof.Rows L2
/-! ### readings, step by step -/
section
variable {K : PySem.W.Frag} {σ : L2.St} {H : Hp} {Q : VK} {D : Ends} {ta tb tc te to ti : TE} {tt tu : TT} {t u : TS} {g : TG} {r r' : R2} {v x y : V} {i : Nat} {al : TA} {QB : Bool → Hp → Prop} {QL : List V → Hp → Prop} {QS : L2.St → Hp → Prop}
theorem r_var (h : σ[i]? = some (some v)) (q : Q v H) : tVar i σ H Q := ⟨v, h, q⟩
theorem r_c (q : Q v H) : tC v σ H Q := q
theorem r_op (h : ta σ H fun x H1 => tb σ H1 fun y H2 => r x y H2 Q) : tOp r ta tb σ H Q := h
theorem r_un {f : V → Hp → VK → Prop} (h : ta σ H fun x H1 => f x H1 Q) : tUn f ta σ H Q := h
theorem r_I0 {f : Int → Int → V} {a b : Int} (q : Q (f a b) H) : rI0 f (.int a) (.int b) H Q := ⟨a, b, rfl, rfl, q⟩
theorem r_I {C : Int → Int → Prop} {f : Int → Int → V} {a b : Int} (hc : C a b) (q : Q (f a b) H) : rI C f (.int a) (.int b) H Q := ⟨a, b, rfl, rfl, hc, q⟩
theorem r_fdivK {f : Int → Int → V} {a b : Int} (hc : decide (0 < b ∧ b < 1073741824) = true) (q : Q (f a b) H) : rI CDiv f (.int a) (.int b) H Q := ⟨a, b, rfl, rfl, (of_decide_eq_true hc : 0 < b ∧ b < 1073741824), q⟩
theorem r_modK {f : Int → Int → V} {a b : Int} (hc : decide (0 < b) = true) (q : Q (f a b) H) : rI (fun _ j => 0 < j) f (.int a) (.int b) H Q := ⟨a, b, rfl, rfl, of_decide_eq_true hc, q⟩
theorem r_mulL {f : Int → Int → V} {a b : Int} (hc : decide (-(2 ^ 64) < a ∧ a < 2 ^ 64) = true) (q : Q (f a b) H) : rI CMul f (.int a) (.int b) H Q := ⟨a, b, rfl, rfl, .inl (of_decide_eq_true hc), q⟩
theorem r_mulR {f : Int → Int → V} {a b : Int} (hc : decide (-(2 ^ 64) < b ∧ b < 2 ^ 64) = true) (q : Q (f a b) H) : rI CMul f (.int a) (.int b) H Q := ⟨a, b, rfl, rfl, .inr (of_decide_eq_true hc), q⟩
theorem r_powK {f : Int → Int → V} {a b : Int} (hc : decide (0 ≤ b ∧ b ≤ 1000000 ∧ a.natAbs < 2 ^ 64) = true) (q : Q (f a b) H) : rI CPow f (.int a) (.int b) H Q := ⟨a, b, rfl, rfl, (of_decide_eq_true hc : 0 ≤ b ∧ b ≤ 1000000 ∧ a.natAbs < 2 ^ 64), q⟩
theorem r_neg {f : Int → V} {a : Int} (q : Q (f a) H) : rU f (.int a) H Q := ⟨a, rfl, q⟩
theorem r_eq (hs : scal x y = true) (q : Q (.bl (decide (x = y))) H) : rEq x y H Q := ⟨hs, q⟩
theorem r_ne (hs : scal x y = true) (q : Q (.bl (!decide (x = y))) H) : rNe x y H Q := ⟨hs, q⟩
theorem r_test (h : ta σ H fun x H' => ∃ k, x = .bl k ∧ QB k H') : tTest ta σ H QB := h
theorem r_B (h : ta σ H fun x H' => ∃ k, x = .bl k ∧ QB k H') : L2.tB ta σ H QB := h
theorem r_bl {b : Bool} (q : QB b H) : ∃ k, V.bl b = V.bl k ∧ QB k H := ⟨b, rfl, q⟩
theorem r_blx {b : Bool} {X : Bool → Prop} (q : X b) : ∃ k, V.bl b = V.bl k ∧ X k := ⟨b, rfl, q⟩
theorem r_seq (h : t { D with nx := u D } σ H) : tSeq t u D σ H := h
theorem r_ret (h : te σ H D.rt) : tRet te D σ H := h
theorem r_asg (h : te σ H fun x H1 => g x σ H1 D.nx) : tAsg te g D σ H := h
theorem r_name (q : QS (σ.set i (some v)) H) : gName i v σ H QS := q
theorem r_gsub {ts : TSet} (h : to σ H fun o H1 => ti σ H1 fun j H2 => ts o j v H2 fun H3 => QS σ H3) : gSub to ti ts v σ H QS := h
theorem r_setL {p : Addr} {xs : List V} {j : Nat} {k : Int} {QH : Hp → Prop} (h : H p = some (.lst xs)) (hj : ixN xs.length k = some j) (q : QH (upd H p (.lst (xs.set j v)))) : rSetL (.ref p) (.int k) v H QH :=
  ⟨p, xs, k, j, rfl, rfl, h, hj, q⟩
theorem r_if (h : tt σ H fun b H1 => if b = true then t D σ H1 else u D σ H1) : tIfS tt t u D σ H := h
theorem r_next (q : D.nx σ H) : tNext D σ H := q
theorem r_drop (h : te σ H fun _ H1 => D.nx σ H1) : tDrop te D σ H := h
theorem r_cb {f : List V → Hp → VK → Prop} (h : al σ H fun vs H1 => f vs H1 Q) : tCB f al σ H Q := h
theorem r_nil (q : QL [] H) : tNil σ H QL := q
theorem r_cons (h : te σ H fun x H1 => al σ H1 fun xs H2 => QL (x :: xs) H2) : tCons te al σ H QL := h
theorem r_g {sp : Sp} {E : L2.St → XK} (h : al σ H fun vs H1 => sp vs H1 Q (E σ)) : tG sp E al σ H Q := h
theorem r_k {sp : Sp} {gV : List V → List V → List V} {E : L2.St → XK} (h : al σ H fun zs H1 => sp (gV [] zs) H1 Q (E σ)) : tK sp gV E al σ H Q := h
theorem r_lst (h : al σ H fun xs H1 => xs.length ≤ sizeLine ∧ ∀ p, H1 p = none → Q (.ref p) (upd H1 p (.lst xs))) : tLst al σ H Q := h
theorem r_tup (h : al σ H fun xs H1 => xs.length ≤ sizeLine ∧ ∀ p, H1 p = none → Q (.ref p) (upd H1 p (.tup xs))) : tTup al σ H Q := h
theorem r_new {xs : List V} {C : Addr → Prop} (hz : Nat.ble xs.length 1000 = true) (q : ∀ p, H p = none → C p) : xs.length ≤ sizeLine ∧ ∀ p, H p = none → C p := ⟨Nat.le_trans (Nat.le_of_ble_eq_true hz) (by decide), q⟩
theorem at_pos {α : Type} {xs : List α} {d : Int} (h0 : 0 ≤ d) (h : d.toNat < xs.length) : atI xs d = some xs[d.toNat] := by
  have q := atI_nat (xs := xs) (j := d.toNat) (v := xs[d.toNat]) (List.getElem?_eq_getElem h)
  rwa [Int.toNat_of_nonneg h0] at q
theorem r_ixL {p : Addr} {xs : List V} {a : Int} {j : Nat} (h : SqL K H p xs) (ha : a = (j : Int)) (hx : xs[j]? = some v) (q : Q v H) : rIxL K (.ref p) (.int a) H Q := ⟨p, xs, a, v, rfl, rfl, h, at_of ha hx, q⟩
theorem r_ixLs {p : Addr} {xs : List V} {a : Int} {j : Nat} (h : H p = some (.lst xs)) (ha : a = (j : Int)) (hx : xs[j]? = some v) (q : Q v H) : rIxL K (.ref p) (.int a) H Q := r_ixL (SqL.of h) ha hx q
theorem r_andV (h : ta σ H fun x H1 => ∃ c, x = .bl c ∧ if c = true then tb σ H1 Q else Q (.bl false) H1) : tAndV ta tb σ H Q := h
theorem r_orV (h : ta σ H fun x H1 => ∃ c, x = .bl c ∧ if c = true then Q (.bl true) H1 else tb σ H1 Q) : tOrV ta tb σ H Q := h
theorem r_notV (h : ta σ H fun x H1 => ∃ c, x = .bl c ∧ Q (.bl (!c)) H1) : tNotV ta σ H Q := h
theorem r_ifE (h : tt σ H fun c H1 => if c = true then ta σ H1 Q else tb σ H1 Q) : tIf tt ta tb σ H Q := h
theorem r_and (h : tt σ H fun b H1 => if b = true then tu σ H1 QB else QB false H1) : tAnd tt tu σ H QB := h
theorem r_or (h : tt σ H fun b H1 => if b = true then QB true H1 else tu σ H1 QB) : tOr tt tu σ H QB := h
theorem r_not (h : tt σ H fun b H1 => QB (!b) H1) : tNot tt σ H QB := h
theorem r_chain (h : ta σ H fun x H1 => tb σ H1 fun y H2 => r x y H2 fun z H3 => ∃ k, z = .bl k ∧ (if k = true then tc σ H3 fun w H4 => r' y w H4 Q else Q (.bl false) H3)) : tChain r r' ta tb tc σ H Q := h
theorem r_sl {f : V → Option Int → Option Int → Hp → VK → Prop} {tl th : TO} (h : te σ H fun x H1 => tl σ H1 fun l H2 => th σ H2 fun u H3 => f x l u H3 Q) : tSl f te tl th σ H Q := h
theorem r_part {QO : Option Int → Hp → Prop} (h : te σ H fun x H1 => ∃ i, x = .int i ∧ QO (some i) H1) : tPart te σ H QO := h
theorem r_nop {QO : Option Int → Hp → Prop} (h : QO none H) : tNoPart σ H QO := h
theorem r_nx {a b c : L2.St → Hp → Prop} {d : VK} (q : a σ H) : (Ends.mk a d b c).nx σ H := q
theorem r_rt {a b c : L2.St → Hp → Prop} {d : VK} (q : d v H) : (Ends.mk a d b c).rt v H := q
theorem r_ct {a b c : L2.St → Hp → Prop} {d : VK} (q : c σ H) : (Ends.mk a d b c).ct σ H := q
theorem r_ei {b : Int} {X : Int → Prop} (q : X b) : ∃ k, V.int b = V.int k ∧ X k := ⟨b, rfl, q⟩
end
/-! ### the box -/
/-- a box that was drawn from n times at most stands at b -/
def Bx (n : Nat) (H : Hp) (b : Addr) : Prop := ∃ x y z : Int, H b = some (.lst [.int x, .int y, .int z]) ∧ 0 ≤ x ∧ 0 ≤ y ∧ y < 2147483648 ∧ 0 ≤ z ∧ z ≤ (n : Int)
/-- all but b stands as it stood -/
def Off (b : Addr) (H H' : Hp) : Prop := ∀ c o, c ≠ b → H c = some o → H' c = some o
theorem Off.refl {b : Addr} {H : Hp} : Off b H H := fun _ _ _ h => h
theorem Off.trans {b : Addr} {H H1 H2 : Hp} (p : Off b H H1) (q : Off b H1 H2) : Off b H H2 := fun c o n h => q c o n (p c o n h)
theorem Off.upd {b : Addr} {H : Hp} {o : HO} : Off b H (upd H b o) := fun c u n h => by rw [upd_ne n]; exact h
theorem Off.new {b p : Addr} {H : Hp} {o : HO} (h : H p = none) : Off b H (L2.upd H p o) := fun c u n hc => by
  rw [upd_ne (ne_of_none hc h)]
  exact hc
theorem Bx.new {n : Nat} {b p : Addr} {H : Hp} {o : HO} (B : Bx n H b) (h : H p = none) : Bx n (upd H p o) b := by
  obtain ⟨x, y, z, hb, r⟩ := B
  exact ⟨x, y, z, by rw [upd_ne (ne_of_none hb h)]; exact hb, r⟩
theorem Bx.ne {n : Nat} {H : Hp} {b p : Addr} (B : Bx n H b) (h : H p = none) : p ≠ b := fun z => by
  obtain ⟨_, _, _, hb, _⟩ := B
  rw [z, hb] at h
  cases h
theorem Bx.up {n m : Nat} {b : Addr} {H : Hp} (B : Bx n H b) (h : n ≤ m) : Bx m H b := by
  obtain ⟨x, y, z, hb, r1, r2, r3, r4, r5⟩ := B
  exact ⟨x, y, z, hb, r1, r2, r3, r4, by omega⟩
/-- a draw: a number below size, the box drawn from once more -/
def spTake : Sp := fun vs H Q _ => ∃ (b : Addr) (size : Int) (n : Nat), vs = [.ref b, .int size] ∧ 0 < size ∧ size < 2 ^ 200 ∧ Bx n H b ∧ n < 100000 ∧
  ∀ (d : Int) (H' : Hp), 0 ≤ d → d < size → Bx (n + 1) H' b → Off b H H' → Q (.int d) H'
end Gx
set_option linter.all false
set_option maxRecDepth 100000
set_option maxHeartbeats 4000000
namespace Gx
open PySem PySem.Spec PyProof.Rows L2
/-! ### a constant of the module; a built-in name -/
theorem pe_gc {X : Cx} {x : Str} {v : V} {pos : Pos} (h : ∃ u, X.mg x = some u ∧ RelV v u) (hg : Gl X x := by rfl) (hd : (x == ("__debug__" : Str)) = false := by decide) : PE X (.Name x pos) (tC v) := by
  obtain ⟨u, hm, r⟩ := h
  exact pe_glob hg hm r hd
theorem pe_tyn {X : Cx} {x : Str} {pos : Pos} (T : String) (hm : X.mg x = none) (hv : bootBuiltins x = some (.type T)) (hg : Gl X x := by rfl) (hn : x ≠ "__name__" := by decide) (hd : (x == ("__debug__" : Str)) = false := by decide) : PE X (.Name x pos) (tC (.ty T)) :=
  pe_bltn hg hm hv rfl hn hd
/-! ### isinstance, exceptions of own classes among the values -/
/-- at a an exception of the class C, made, with its own dict -/
def XAt (K : PySem.W.Frag) (H : Hp) (a C : Addr) : Prop := ∃ d fs, H a = some (exo a C (some d)) ∧ H d = some (exd d fs) ∧ ExcC K C
/-- whether v is an instance of the built-in type T -/
def IsI (K : PySem.W.Frag) (H : Hp) (v : V) (T : String) (b : Bool) : Prop :=
  (∃ t, TyX K H v t ∧ PySem.W.kitOne K t (.type T) = some b) ∨ ∃ a C, v = .ref a ∧ XAt K H a C ∧ PySem.W.kitOne K (.ref C) (.type T) = some b
def rIs2 (K : PySem.W.Frag) : List V → Hp → VK → Prop := fun xs H Q => ∃ v T b, xs = [v, .ty T] ∧ IsI K H v T b ∧ Q (.bl b) H
theorem call_is2 {X : Cx} : CallR X (.builtin "isinstance") (rIs2 X.K) := by
  intro pins s σ H xs us Q I r h
  obtain ⟨v, T, b, rfl, hi, q⟩ := h
  rcases hi with ⟨t, ty, e⟩ | ⟨a, C, rfl, ⟨d, fs, ha, hd, ec⟩, e⟩
  · exact call_isi pins s σ H _ us Q I r ⟨v, .ty T, t, .type T, b, rfl, .ty T, ty, e, q⟩
  · cases r with
    | cons r1 r2 =>
      cases r2 with
      | cons r2 r3 =>
        cases r3
        rename_i u1 u2
        obtain rfl : u1 = Value.ref a := r1
        obtain rfl : u2 = Value.type T := r2
        obtain ⟨t0, ho⟩ := exo_at I.hok ha
        obtain ⟨mA, hns, _⟩ := exd_at I.hok hd
        obtain ⟨od, es, ep, hod, _⟩ := hns
        have J : PySem.W.InstAt s.heap a _ C (some od) := ⟨ho, rfl, rfl, hod⟩
        exact PySem.W.kia_one (PySem.W.kitx_exc (od := some od) (by obtain ⟨cd, hc, _⟩ := PySem.W.any_some ec.hd; rw [hc]; rfl) ec.hg ec.hk ec.hs ec.ha ec.hn ec.ht ec.hm)
          I.kIn J e (fun z => nomatch z) fun tk => ⟨.bl b, H, I.tok tk, rfl, q⟩
/-- of the built-in kinds -/
theorem isI_ty {K : PySem.W.Frag} {H : Hp} {v : V} {t T : String} {b : Bool} (h : TyX K H v (.type t)) (e : kitB t T = some b) : IsI K H v T b := .inl ⟨_, h, kit_ty e⟩
theorem isI_int {K : PySem.W.Frag} {H : Hp} {i : Int} {T : String} {b : Bool} (e : kitB "int" T = some b) : IsI K H (.int i) T b := isI_ty (.base (.int i)) e
theorem isI_bl {K : PySem.W.Frag} {H : Hp} {i : Bool} {T : String} {b : Bool} (e : kitB "bool" T = some b) : IsI K H (.bl i) T b := isI_ty (.base (.bl i)) e
theorem isI_str {K : PySem.W.Frag} {H : Hp} {i : Str} {T : String} {b : Bool} (e : kitB "str" T = some b) : IsI K H (.str i) T b := isI_ty (.base (.str i)) e
theorem isI_non {K : PySem.W.Frag} {H : Hp} {T : String} {b : Bool} (e : kitB "NoneType" T = some b) : IsI K H .non T b := isI_ty (.base .non) e
theorem isI_lst {K : PySem.W.Frag} {H : Hp} {a : Addr} {xs : List V} {T : String} {b : Bool} (h : H a = some (.lst xs)) (e : kitB "list" T = some b) : IsI K H (.ref a) T b := isI_ty (.base (.lst h)) e
theorem isI_tup {K : PySem.W.Frag} {H : Hp} {a : Addr} {xs : List V} {T : String} {b : Bool} (h : H a = some (.tup xs)) (e : kitB "tuple" T = some b) : IsI K H (.ref a) T b := isI_ty (.base (.tup h)) e
theorem isI_dct {K : PySem.W.Frag} {H : Hp} {a : Addr} {xs : List (Key × V)} {T : String} {b : Bool} (h : H a = some (.dK xs)) (e : kitB "dict" T = some b) : IsI K H (.ref a) T b := isI_ty (.base (.dK h)) e
/-! ### an exception of an own class, its __init__ a def of the text -/
/-- self, found: what __init__ leaves -/
def spEI (K : PySem.W.Frag) (C : Addr) (fld : Str) : Sp := fun vs H Q _ => ∃ a v, vs = [.ref a, v] ∧ OexC K C ∧ PySem.W.findIn K (.ref C) fld = some none ∧ H a = some (exo a C none) ∧
  ∀ d, H d = none → d ≠ a → Q .non (upd (upd H d (exd d [(fld, v)])) a (exo a C (some d)))
/-- C(e) as a value -/
def tMkV (C : Addr) (sp : Sp) (ta : TA) : TE := fun σ H Q => ta σ H fun vs H1 => vs.length ≤ 1000 ∧ ∀ a, H1 a = none → sp (.ref a :: vs) (upd H1 a (exo a C none)) (fun v H2 => v = .non ∧ Q (.ref a) H2) E0
/-- a class of exceptions with its own __init__ as its makers see it -/
structure MkX (P : Program) (w : World) (K : PySem.W.Frag) (mg : Str → Option Value) (base : Heap) (k : Nat) (x : Str) (C : Addr) (fld : Str) : Prop where
  oex : OexC K C
  gl : mg x = some (.ref C)
  no : PySem.W.findIn K (.ref C) fld = some none
  ex : ∃ fI fd, PySem.W.findIn K (.ref C) "__init__" = some (some (.ref fI)) ∧ PySem.W.typeIn K (.ref fI) = some (.type "function") ∧ FnOk P w K mg base CX0 k fI fd ["self", fld] (spEI K C fld) ∧ Binds K fd ["self", fld] []
section
variable {X : Cx} {k : Nat} {x : Str} {C : Addr} {fld : Str} {e : Expr} {es : List Expr} {ta : TA} {p pos : Pos}
theorem pe_mkV (M : MkX X.prog X.w X.K X.mg X.base k x C fld) (hr : Room (k + 1) X.A) (ha : PA X (e :: es) ta) (hg : Gl X x := by rfl)
    (hdb : (x == ("__debug__" : Str)) = false := by decide) (he : starEach (e :: es) X.env = (false, eval e X.env) :: starEach es X.env := by rfl) (hpl : (backTo pos (starEach es X.env)).any (·.1) = false := by rfl) :
    PE X (.Call (.Name x p) (e :: es) [] pos) (tMkV C (spEI X.K C fld) ta) := by
  obtain ⟨fI, fd, iC, tI, F1, hb⟩ := M.ex
  obtain ⟨nm, q, N, bs, bm, sn, sub, ab, col, dd, k0, k1, k2, k3, k5, hC, hbm⟩ := M.oex.cls
  refine ⟨fun pins s σ H Q I h => wpAny_Call_Name_kw (ld_glob I hg M.gl ?_ hdb)⟩
  refine PySem.W.callWith_K (h₀ := X.base) I.ok.mod.kin M.oex.kC ?_ he hpl
  refine thn (ha.run pos pins s σ H _ I h) ?_
  rintro us s1 ⟨vs, H1, I1, r1, hz, q1⟩
  refine ⟨I1.kIn, ?_⟩
  show wpAny _ _ (call (.ref C) us) _ _ _
  obtain ⟨hp, g, dr, tk, os⟩ := s1
  have hn : H1 (hp.objs.size + 1) = none := I1.hok.fresh (Nat.le_succ _)
  have hq := q1 _ hn
  have new : ((hp.push (PySem.W.kdv_tup us)).push (PySem.HandSPX.excO C hp.objs.size)).get? (hp.objs.size + 1) = some (PySem.HandSPX.excO C hp.objs.size) := by heap_get
  have I2 : Inv X pins σ (upd H1 (hp.objs.size + 1) (exo (hp.objs.size + 1) C none)) ⟨(hp.push (PySem.W.kdv_tup us)).push (PySem.HandSPX.excO C hp.objs.size), g, dr, tk, os⟩ :=
    I1.laid (t' := tk) (fun b o z => Heap.get?_push_of_some _ (Heap.get?_push_of_some _ z)) (Nat.le_succ _) (exo_ok new)
  have r2 : Vals (V.ref (hp.objs.size + 1) :: vs) (Value.ref (hp.objs.size + 1) :: us) := .cons rfl r1
  have hl := r2.length.symm.trans (F1.len _ _ _ _ hq)
  have b2 := hb _ (Value.ref (hp.objs.size + 1) :: us) I2.kIn (by simpa using hl)
  rw [List.append_nil] at b2
  have hus : us.length ≤ sizeLine := by
    rw [← Paired.length r1, sizeLine_eq]
    omega
  refine wpAny_call (PySem.HandSPX.call_own F.excBase_ValueError (fun Y => PySem.HandSPX.refsVE_contains Y bm hbm) (I1.kIn _ _ hC) (PySem.W.looks_findIn I1.kIn iC) (fun self => PySem.W.bind_fn I1.kIn self tI) hus ?_)
  refine codeAny_mono (F1.run _ X.stack _ _ ⟨_, []⟩ _ _ _ _ (hr.make C us []) (I2.env0.make C us []) b2 r2 hq) ?_
  intro r s' hq'
  match r, hq' with
  | .error e, z => exact z.elim
  | .ok (.ret u), z =>
    obtain ⟨v, H', I3, rv, ev, q3⟩ := I2.after z
    subst ev
    exact ⟨rv, .ref (hp.objs.size + 1), H', I3, rfl, q3⟩
  | .ok .next, z => exact z.elim
  | .ok .brk, z => exact z.elim
  | .ok .cont, z => exact z.elim
end
/-! ### the defs of the module, as the top has left them -/
structure DefIn (K : PySem.W.Frag) (mg : Str → Option Value) (x : Str) (st : Stmt) : Prop where
  ex : ∃ f fd, Fun K x x st f fd ∧ mg x = some (.ref f)
theorem defIn {K : PySem.W.Frag} {h : Heap} {mg : Str → Option Value} {x : Str} {st : Stmt} (X : K.In h) (G : h.Ns mainGlobals mg)
    {f : Addr} {oc : Value} {od an : Option Addr} {osl : Array (Option Value)} {kV doc pm cdv ct : Value}
    (a : PySem.W.nsIn K mainGlobals x = some (some (.ref f)))
    (l : K.lookup f = some ⟨oc, od, .func (PySem.W.fnOf x x (defArgs st) (defBody st) (defScope st) .none kV doc pm an cdv ct), osl⟩)
    (c : PySem.W.codeIn K cdv x = true) (k : PySem.W.keepIn K (.ref f) = true) : DefIn K mg x st :=
  ⟨f, _, fun_mk l c k, PySem.W.mg_of X G a⟩
section
variable {P : Program} {w : World} {K : PySem.W.Frag} {mg : Str → Option Value} {base : Heap} {CX : CXT} {k : Nat} {x : Str} {st : Stmt} {ps ks : List Str} {sp : Sp}
theorem DefIn.cal (D : DefIn K mg x st) (ok : ∀ {f fd}, Fun K x x st f fd → FnG P w K mg base CX k f fd ps sp)
    (h : ∀ (kV doc pm : Value) (an : Option Addr) (cdv ct : Value) (us : List Value), us.length = ps.length → bindArgs (PySem.W.fnOf x x (defArgs st) (defBody st) (defScope st) .none kV doc pm an cdv ct) ⟨us, []⟩ = pure (ps.zip us)) :
    Cal P w K mg base CX k x ps sp := by
  obtain ⟨f, fd, F, hm⟩ := D.ex
  exact ⟨f, fd, ok F, hm, F.kp, F.binds h⟩
theorem DefIn.calk (D : DefIn K mg x st) (ok : ∀ {f fd}, Fun K x x st f fd → FnG P w K mg base CX k f fd ps sp) (g : List Value → List Value → List Value) (gV : List V → List V → List V)
    (h : ∀ (kV doc pm : Value) (an : Option Addr) (cdv ct : Value) (us ws : List Value), (g us ws).length = ps.length → bindArgs (PySem.W.fnOf x x (defArgs st) (defBody st) (defScope st) .none kV doc pm an cdv ct) ⟨us, ks.zip ws⟩ = pure (ps.zip (g us ws)))
    (rel : ∀ {vs : List V} {us : List Value} {zs : List V} {ws : List Value}, Vals vs us → Vals zs ws → Vals (gV vs zs) (g us ws)) :
    CalK P w K mg base CX k x ps sp ks gV := by
  obtain ⟨f, fd, F, hm⟩ := D.ex
  obtain ⟨oc, od, kV, doc, pm, an, cdv, ct, osl, e, _, _⟩ := F.ex
  refine ⟨f, fd, g, ok F, hm, F.kp, ⟨fun s us ws _ hl => ?_, rel⟩⟩
  subst e
  exact .of_eq (h kV doc pm an cdv ct us ws hl)
end
/-- one, two, three keywords and nothing else, put into order -/
def k1 {α : Type} : List α → List α → List α
  | [], [a] => [a]
  | _, _ => []
def k2 {α : Type} : List α → List α → List α
  | [], [a, b] => [b, a]
  | _, _ => []
def k3 {α : Type} : List α → List α → List α
  | [], [a, b, c] => [c, b, a]
  | _, _ => []
theorem k1_rel {vs : List V} {us : List Value} {zs : List V} {ws : List Value} : Vals vs us → Vals zs ws → Vals (k1 vs zs) (k1 us ws)
  | .nil, .nil => .nil
  | .nil, .cons a .nil => .cons a .nil
  | .nil, .cons _ (.cons _ _) => .nil
  | .cons _ _, _ => .nil
theorem k2_rel {vs : List V} {us : List Value} {zs : List V} {ws : List Value} : Vals vs us → Vals zs ws → Vals (k2 vs zs) (k2 us ws)
  | .nil, .nil => .nil
  | .nil, .cons a .nil => .nil
  | .nil, .cons a (.cons b .nil) => .cons b (.cons a .nil)
  | .nil, .cons _ (.cons _ (.cons _ _)) => .nil
  | .cons _ _, _ => .nil
theorem k3_rel {vs : List V} {us : List Value} {zs : List V} {ws : List Value} : Vals vs us → Vals zs ws → Vals (k3 vs zs) (k3 us ws)
  | .nil, .nil => .nil
  | .nil, .cons _ .nil => .nil
  | .nil, .cons _ (.cons _ .nil) => .nil
  | .nil, .cons a (.cons b (.cons c .nil)) => .cons c (.cons b (.cons a .nil))
  | .nil, .cons _ (.cons _ (.cons _ (.cons _ _))) => .nil
  | .cons _ _, _ => .nil
/-! ### texts, tuples of targets -/
section
variable {σ : L2.St} {H : Hp} {Q : VK} {D : Ends} {al : TA} {te to : TE} {i j l : Nat} {u v w : V} {z y : Str} {lo hi : Option Int}
theorem r_par3 (h : al σ H fun vs H1 => ∃ u v w, vs = [u, v, w] ∧ D.nx (((σ.set i (some u)).set j (some v)).set l (some w)) H1) : tPar3 i j l al D σ H := h
theorem r_is3 {C : V → V → V → Prop} (q : C u v w) : ∃ a b c, [u, v, w] = [a, b, c] ∧ C a b c := ⟨u, v, w, rfl, q⟩
theorem r_par2 (h : al σ H fun vs H1 => ∃ u v, vs = [u, v] ∧ D.nx ((σ.set i (some u)).set j (some v)) H1) : tPar i j al D σ H := h
theorem r_is2 {C : V → V → Prop} (q : C u v) : ∃ a b, [u, v] = [a, b] ∧ C a b := ⟨u, v, rfl, q⟩
theorem r_lenS {C : Str → Prop} (h : z.length ≤ 100000) (q : C z) : ∃ a, [V.str z] = [V.str a] ∧ a.length ≤ sizeLine ∧ C a := ⟨z, rfl, Nat.le_trans h (by decide), q⟩
theorem r_addS {C : Str → Str → Prop} (h : z.length + y.length ≤ 100000) (q : C z y) : ∃ a b, V.str z = .str a ∧ V.str y = .str b ∧ a.length + b.length ≤ sizeLine ∧ C a b := ⟨z, y, rfl, rfl, Nat.le_trans h (by decide), q⟩
theorem r_slS (h : z.length ≤ 100000) (q : Q (.str (cutS z lo hi)) H) : rSlS (.str z) lo hi H Q := ⟨z, rfl, Nat.le_trans h (by decide), q⟩
theorem r_m0 {f : V → List V → Hp → VK → Prop} (h : to σ H fun x H1 => (∃ a, x = .str a) ∧ f x [] H1 Q) : tM0 f to σ H Q := h
theorem app_len (a b : Str) : (a ++ b).length = a.length + b.length := PySem.Str.length_append a b
end
/-- signs below 128 alone -/
def Asc (z : Str) : Prop := ∀ c ∈ z.cps.toList, c < 128
theorem asc_app {a b : Str} (ha : Asc a) (hb : Asc b) : Asc (a ++ b) := fun c h => by
  rw [PySem.Str.cps_append, Array.toList_append] at h
  rcases List.mem_append.mp h with h | h
  · exact ha c h
  · exact hb c h
theorem asc_cut {z : Str} (h : Asc z) (lo hi : Option Int) : Asc (cutS z lo hi) := fun c hc => h c (List.mem_of_mem_drop (List.mem_of_mem_take hc))
theorem asc_upper {z : Str} (h : Asc z) : Asc (Txt.upper z) := fun c hc => by
  rw [PyProof.Rows.upper_ascii h] at hc
  obtain ⟨d, hd, rfl⟩ : ∃ d ∈ z.cps.toList, PyProof.Rows.up1 d = c := by simpa using hc
  have := h d hd
  unfold PyProof.Rows.up1
  split <;> omega
theorem asc_one {c : Nat} (h : c < 128) : Asc ⟨#[c]⟩ := fun d hd => by
  obtain rfl : d = c := by simpa using hd
  exact h
theorem asc_of {z : Str} (h : z.cps.toList.all (fun c => decide (c < 128)) = true) : Asc z := fun c hc => of_decide_eq_true (List.all_eq_true.mp h c hc)
/-! ### tests and comprehensions, further -/
theorem iteNF {A B : Prop} (h : A) : if (!false) = true then A else B := h
theorem iteNT {A B : Prop} (h : B) : if (!true) = true then A else B := h
theorem iteDec {p A B : Prop} [Decidable p] (h : p) (q : A) : if decide p = true then A else B := by
  rw [decide_eq_true h]
  exact iteT q
theorem iteNE {x y : V} {A B : Prop} (e : x = y) (h : B) : if (!decide (x = y)) = true then A else B := by
  rw [decide_eq_true e]
  exact iteF h
theorem iteE {x y : V} {A B : Prop} (e : x = y) (h : A) : if decide (x = y) = true then A else B := by
  rw [decide_eq_true e]
  exact iteT h
theorem iteAnd {a c : Bool} {H : Hp} {Q : VK} {X : Prop} (h : a = true → Q (.bl c) H → X) (q : Q (.bl (a && c)) H) : if a = true then X else Q (.bl false) H := by
  cases a with
  | true => exact iteT (h rfl q)
  | false => exact iteF q
theorem r_and2 {σ : L2.St} {H : Hp} {Q : VK} {ta tb : TE} (a c : Bool) (ha : ∀ R : VK, R (.bl a) H → ta σ H R) (hb : a = true → ∀ R : VK, R (.bl c) H → tb σ H R) (q : Q (.bl (a && c)) H) : tAndV ta tb σ H Q := by
  refine ha _ ⟨a, rfl, ?_⟩
  cases a with
  | true => exact iteT (hb rfl Q q)
  | false => exact iteF q
theorem r_or2 {σ : L2.St} {H : Hp} {Q : VK} {ta tb : TE} (a c : Bool) (ha : ∀ R : VK, R (.bl a) H → ta σ H R) (hb : a = false → ∀ R : VK, R (.bl c) H → tb σ H R) (q : Q (.bl (a || c)) H) : tOrV ta tb σ H Q := by
  refine ha _ ⟨a, rfl, ?_⟩
  cases a with
  | true => exact iteT q
  | false => exact iteF (hb rfl Q q)
def isIntV : V → Bool
  | .int _ => true
  | _ => false
/-- an item of a written list of ints at an open place -/
theorem r_ixI {K : PySem.W.Frag} {H : Hp} {Q : VK} {p : Addr} {d : Int} {xs : List V} (h : H p = some (.lst xs)) (hx : xs.all isIntV = true) (h0 : 0 ≤ d) (h1 : d < (xs.length : Int)) (q : ∀ i, Q (.int i) H) : rIxL K (.ref p) (.int d) H Q := by
  have hd : d.toNat < xs.length := by omega
  have z := List.all_eq_true.mp hx _ (List.getElem_mem hd)
  refine ⟨p, xs, d, xs[d.toNat], rfl, rfl, SqL.of h, at_pos h0 hd, ?_⟩
  cases e : xs[d.toNat] with
  | int i => exact q i
  | non => rw [e] at z; cases z
  | bl _ => rw [e] at z; cases z
  | str _ => rw [e] at z; cases z
  | byt _ => rw [e] at z; cases z
  | flt _ => rw [e] at z; cases z
  | ref _ => rw [e] at z; cases z
  | ty _ => rw [e] at z; cases z
theorem take_next {α : Type} {l : List α} {i : Nat} {x : α} (h : l[i]? = some x) : l.take (i + 1) = l.take i ++ [x] := by
  rw [List.take_succ, h]
  rfl
section
variable {K : PySem.W.Frag} {σ : L2.St} {H : Hp} {Q : VK} {te0 te : TE} {tt : TT} {j : Nat} {vs : List Nat}
/-- over the signs of a text: those that pass b, each as f says; nothing else is done -/
theorem r_lcS {z : Str} (f : Nat → V) (b : Nat → Bool) (h0 : ∀ R : VK, R (.str z) H → te0 σ H R) (hz : z.length ≤ 100000) (hw : ∀ x, wipe ((wipe σ vs).set j (some x)) vs = wipe σ vs)
    (ht : ∀ c H1 (QB : Bool → Hp → Prop), QB (b c) H1 → tt ((wipe σ vs).set j (some (.str ⟨#[c]⟩))) H1 QB)
    (he : ∀ c H1 (Q1 : VK), Q1 (f c) H1 → te ((wipe σ vs).set j (some (.str ⟨#[c]⟩))) H1 Q1)
    (q : ∀ D, H D = none → Q (.ref D) (upd H D (.lst ((z.cps.toList.filter b).map f)))) : tLc (iStr te0) (gName j) tt te vs σ H Q := by
  refine h0 _ ⟨z, rfl, fun D hD => ?_⟩
  refine lc_it walk_str (fun i H' => H' = upd H D (.lst (((z.cps.toList.take i).filter b).map f))) rfl (fun _ _ _ _ => trivial) (fun i x H1 H2 hi p y => ?_) (fun H' p => ?_)
  · obtain ⟨rfl, c, hc, rfl⟩ := y
    subst p
    have hc' : z.cps.toList[i]? = some c := by rw [Array.getElem?_toList]; exact hc
    refine ⟨hw _, ht c _ _ ?_⟩
    rw [take_next hc', List.filter_append]
    cases hb : b c with
    | true =>
      refine iteT (he c _ _ ⟨_, upd_same, ?_, ?_⟩)
      · have h1 := List.length_filter_le b (z.cps.toList.take i)
        have h2 : i < z.length := hi
        rw [List.length_map]
        rw [List.length_take] at h1
        rw [sizeLine_eq]
        omega
      · rw [upd_upd]
        simp [hb]
    | false =>
      refine iteF ?_
      simp [hb]
  · subst p
    rw [List.take_of_length_le (by simp)]
    exact q D hD
end
end Gx
set_option linter.all false
set_option maxRecDepth 100000
set_option maxHeartbeats 4000000
namespace Gx
open PySem PySem.Spec PyProof.Rows L2
/-! ### loops, comprehensions: what is left to show, by name -/
def Lp (J : It) (g : TG) (tb : TS) (D : Ends) (s : L2.St) (h : Hp) : Prop :=
  ∃ W : Nat → Nat → L2.St → Hp → Prop, (∃ m, W 0 m s h) ∧ ∀ i m s h, W i m s h → (J.stop i h ∧ D.nx s h) ∨ (J.go i h ∧ ∃ N : L2.St → Hp → Prop, (∀ s' h', N s' h' → ∃ m', m' < m ∧ W (i + 1) m' s' h') ∧ ∀ x h', J.yld i h x h' → g x s h' fun s2 h2 => tb { D with nx := N, ct := N, bk := D.nx } s2 h2)
def Lc (J : It) (g : TG) (tt : TT) (te : TE) (vs : List Nat) (Q : VK) (s : L2.St) (h : Hp) : Prop :=
  ∀ p, h p = none → ∃ W : Nat → Nat → Hp → Prop, (∃ m, W 0 m (upd h p (.lst []))) ∧ ∀ i m h, W i m h → (J.stop i h ∧ Q (.ref p) h) ∨ (J.go i h ∧ ∃ N : Hp → Prop, (∀ h', N h' → ∃ m', m' < m ∧ W (i + 1) m' h') ∧ ∀ x h', J.yld i h x h' → g x (wipe s vs) h' fun s2 h2 => wipe s2 vs = wipe s vs ∧ tt s2 h2 fun b h3 => if b = true then te s2 h3 fun y h4 => ∃ acc, h4 p = some (.lst acc) ∧ acc.length < sizeLine ∧ N (upd h4 p (.lst (acc ++ [y]))) else N h3)
section
variable {K : PySem.W.Frag} {σ : L2.St} {H : Hp} {D : Ends} {g : TG} {tb : TS} {wi : TI} {ta : TA} {te tl : TE} {tt : TT} {vs : List Nat} {Q : VK}
theorem r_for (h : wi σ H fun J H1 => Lp J g tb D σ H1) : tFor wi g tb D σ H := h
theorem r_lc (h : wi σ H fun J H1 => Lc J g tt te vs Q σ H1) : tLc wi g tt te vs σ H Q := h
theorem r_rng1 {R : It → Hp → Prop} (h : ta σ H fun xs H1 => ∃ j : Int, xs = [.int j] ∧ -(2 ^ 62) ≤ j ∧ j < 2 ^ 62 ∧ R (Itr 0 j.toNat) H1) : iRng1 ta σ H R := h
theorem r_iList {R : It → Hp → Prop} (h : tl σ H fun v H1 => ∃ a, v = .ref a ∧ (∃ xs, SqL K H1 a xs) ∧ R (Itl K a) H1) : iList K tl σ H R := h
theorem lp_range {lo : Int} {n : Nat} (Pv : Nat → L2.St → Hp → Prop) (h0 : Pv 0 σ H) (hs : ∀ i s h, i < n → Pv i s h → g (.int (lo + i)) s h fun s2 h2 => tb { D with nx := Pv (i + 1), ct := Pv (i + 1), bk := D.nx } s2 h2)
    (hd : ∀ s h, Pv n s h → D.nx s h) : Lp (Itr lo n) g tb D σ H := for_range Pv h0 hs hd
theorem lp_list {a : Addr} {xs : List V} (Pv : Nat → L2.St → Hp → Prop) (h0 : Pv 0 σ H) (hl : ∀ i s h, i ≤ xs.length → Pv i s h → SqL K h a xs)
    (hs : ∀ i x s h, xs[i]? = some x → Pv i s h → g x s h fun s2 h2 => tb { D with nx := Pv (i + 1), ct := Pv (i + 1), bk := D.nx } s2 h2) (hd : ∀ s h, Pv xs.length s h → D.nx s h) : Lp (Itl K a) g tb D σ H := for_list Pv h0 hl hs hd
theorem lc_rng {lo : Int} {n : Nat} (Pv : Addr → Nat → Hp → Prop) (h0 : ∀ p, H p = none → Pv p 0 (upd H p (.lst [])))
    (hs : ∀ p, H p = none → ∀ i h, i < n → Pv p i h → g (.int (lo + i)) (wipe σ vs) h fun s2 h2 => wipe s2 vs = wipe σ vs ∧ tt s2 h2 fun b h3 => if b = true then te s2 h3 fun y h4 => ∃ acc, h4 p = some (.lst acc) ∧ acc.length < sizeLine ∧ Pv p (i + 1) (upd h4 p (.lst (acc ++ [y]))) else Pv p (i + 1) h3)
    (hd : ∀ p, H p = none → ∀ h, Pv p n h → Q (.ref p) h) : Lc (Itr lo n) g tt te vs Q σ H := fun p hp => lc_range (Pv p) (h0 p hp) (hs p hp) (hd p hp)
theorem lc_lst {a : Addr} {xs : List V} (Pv : Addr → Nat → Hp → Prop) (h0 : ∀ p, H p = none → Pv p 0 (upd H p (.lst []))) (hl : ∀ p, H p = none → ∀ i h, i ≤ xs.length → Pv p i h → SqL K h a xs)
    (hs : ∀ p, H p = none → ∀ i x h, xs[i]? = some x → Pv p i h → g x (wipe σ vs) h fun s2 h2 => wipe s2 vs = wipe σ vs ∧ tt s2 h2 fun b h3 => if b = true then te s2 h3 fun y h4 => ∃ acc, h4 p = some (.lst acc) ∧ acc.length < sizeLine ∧ Pv p (i + 1) (upd h4 p (.lst (acc ++ [y]))) else Pv p (i + 1) h3)
    (hd : ∀ p, H p = none → ∀ h, Pv p xs.length h → Q (.ref p) h) : Lc (Itl K a) g tt te vs Q σ H := fun p hp => by
  refine lc_it (walk_list (xs := xs)) (Pv p) (h0 p hp) (fun i h hi q => hl p hp i h hi q) (fun i x h h' hi q y => ?_) (hd p hp)
  obtain ⟨rfl, e⟩ := y
  exact hs p hp i x _ e q
theorem r_yes {QB : Bool → Hp → Prop} (q : QB true H) : tYes σ H QB := q
theorem sql_same {H' : Hp} {a : Addr} {xs : List V} (h : SqL K H a xs) (e : Same H H') : SqL K H' a xs :=
  h.imp (fun r => r.imp (fun z => e _ _ z) fun ⟨o, z⟩ => ⟨o, e _ _ z⟩) _root_.id
/-- an item of a written list of ints at an open place, with what holds of all of them -/
theorem r_ixJ {p : Addr} {d : Int} {xs : List Int} {P : Int → Bool} (h : H p = some (.lst (xs.map V.int))) (hx : xs.all P = true) (h0 : 0 ≤ d) (h1 : d < (xs.length : Int)) (q : ∀ i, P i = true → Q (.int i) H) : rIxL K (.ref p) (.int d) H Q := by
  have hd : d.toNat < (xs.map V.int).length := by rw [List.length_map]; omega
  refine ⟨p, xs.map V.int, d, _, rfl, rfl, SqL.of h, at_pos h0 hd, ?_⟩
  rw [List.getElem_map]
  exact q _ (List.all_eq_true.mp hx _ (List.getElem_mem _))
theorem same_off {b : Addr} {H0 H1 H2 : Hp} (n : H0 b = none) (s : Same H0 H1) (o : Off b H1 H2) : Same H0 H2 := fun c u h => o c u (fun z => by subst z; rw [n] at h; cases h) (s c u h)
end
end Gx
set_option linter.all false
set_option maxRecDepth 100000
set_option maxHeartbeats 4000000
namespace Gx
open PySem PySem.Spec PyProof.Rows L2
/-! ### repr of a dict of plain values -/
def flatV : V → Bool
  | .non => true
  | .bl _ => true
  | .int _ => true
  | .str _ => true
  | _ => false
def valD : V → PyData
  | .bl b => .bool b
  | .int i => .int i
  | .str x => .str x
  | _ => .none
def keyD : Key → PyData
  | .inl i => .int i
  | .inr x => .str x
def dctD (es : List (Key × V)) : PyData := .dict (es.map fun p => (keyD p.1, valD p.2))
theorem reads_flat {h : Heap} : ∀ {v : V} {u : Value}, flatV v = true → RelV v u → Reads h u (valD v) []
  | .non, u, _, r => by
    obtain rfl : u = Value.none := r
    exact .none
  | .bl b, u, _, r => by
    obtain rfl : u = Value.bool b := r
    exact .bool b
  | .int i, u, _, r => by
    obtain ⟨t, rfl⟩ : ∃ t, u = Value.int i t := r
    exact .int i t
  | .str x, u, _, r => by
    obtain ⟨t, rfl⟩ : ∃ t, u = Value.str x t := r
    exact .str x t
theorem reads_key {P : Program} {w : World} {h : Heap} {k : Key} {u : Value} (e : (mixKind P w).is k u = true) : Reads h u (keyD k) [] := by
  rcases keyIs_shape e with ⟨i, t, rfl, rfl⟩ | ⟨x, t, rfl, rfl⟩
  · exact .int i t
  · exact .str x t
theorem reads_pairs {P : Program} {w : World} {h : Heap} : ∀ {es : List DictEntry} {vs : List (Key × Value)} {xs : List (Key × V)}, Pairs (mixKind P w) es vs → KV xs vs → xs.all (fun p => flatV p.2) = true →
    ReadsAll h (es.map (·.key)) ((xs.map fun p => (keyD p.1, valD p.2)).map (·.1)) [] ∧ ReadsAll h (es.map (·.val)) ((xs.map fun p => (keyD p.1, valD p.2)).map (·.2)) []
  | _, _, _, .nil, r, _ => by
    cases r
    exact ⟨.nil, .nil⟩
  | _, _, _, .cons (e := e) (kv := kv) k1 e1 ps, r, al => by
    cases r with
    | cons r1 r2 =>
      rename_i p ps'
      obtain ⟨rk, rv⟩ := r1
      rw [List.all_cons, Bool.and_eq_true] at al
      obtain ⟨i1, i2⟩ := reads_pairs ps r2 al.2
      refine ⟨.cons (as := []) (bs := []) ?_ i1, .cons (as := []) (bs := []) ?_ i2⟩
      · show Reads h e.key (keyD p.1) []
        rw [rk]
        exact reads_key k1
      · show Reads h e.val (valD p.2) []
        rw [e1]
        exact reads_flat al.1 rv
def rShowD : List V → Hp → VK → Prop := fun xs H Q => ∃ a es, xs = [.ref a] ∧ H a = some (.dK es) ∧ es.all (fun p => flatV p.2) = true ∧ (dctD es).showable = true ∧ (dctD es).depth ≤ 20 ∧ (dctD es).shown.length ≤ sizeLine ∧ Q (.str (dctD es).shown) H
def rShowI : List V → Hp → VK → Prop := fun xs H Q => ∃ i : Int, xs = [.int i] ∧ i.natAbs.log2 < 1920 ∧ Q (.str (PyData.int i).shown) H
def rShowE : List V → Hp → VK → Prop := fun xs H Q => rShow xs H Q ∨ rShowD xs H Q ∨ rShowI xs H Q
section
variable {X : Cx}
theorem call_showD (hG : X.A.guards = some []) (hu : X.A.units + 64 < cLine) : CallR X (.builtin "repr") rShowD := by
  intro pins s σ H xs us Q I r h
  obtain ⟨a, es, rfl, ha, al, hs, hp, hl, q⟩ := h
  obtain rfl := Vals.ref1 r
  obtain ⟨_, nsm, vs, kv, o, ds, ep, ho, hx, hd, _, hpp, _⟩ : ObjOk X.prog X.w H s.heap a (.dK es) := I.hok a _ ha
  obtain ⟨r1, r2⟩ := reads_pairs (h := s.heap) hpp kv al
  have rd : Reads s.heap (.ref a) (dctD es) (a :: [] ++ []) := .dict ho hx.1 hd r1 r2
  refine repr_of_reads' rd hs (fun _ z => ?_) hG (by omega) (fun _ _ z => z) ?_ hl
  · have z : sysModules = a := by simpa using z
    subst z
    simp at nsm
  intro h' t tk keep
  exact ⟨.str (dctD es).shown, H, I.kept (t' := tk) keep, ⟨t, rfl⟩, q⟩
theorem call_showE (hG : X.A.guards = some []) (hu : X.A.units + 64 < cLine) : CallR X (.builtin "repr") rShowE := by
  intro pins s σ H xs us Q I r h
  rcases h with h | h | ⟨i, rfl, hz, q⟩
  · exact call_show hG hu pins s σ H xs us Q I r h
  · exact call_showD hG hu pins s σ H xs us Q I r h
  · cases r with
    | cons r1 r2 =>
      cases r2
      obtain ⟨t, rfl⟩ := r1
      refine PySem.P.repr_of_int hz ⟨.str _, H, I.tok _, ⟨_, rfl⟩, ?_⟩
      simpa only [PyData.shown] using q
end
section
theorem r_sh {H : Hp} {Q : VK} {v : V} (d : PyData) (hd : Gx.IsD H d v) (h1 : (!d.hasDict && (d.showable && (decide (d.depth ≤ 20) && decide (d.shown.length ≤ sizeLine)))) = true) (q : Q (.str d.shown) H) : rShowE [v] H Q := by
  simp only [Bool.and_eq_true, Bool.not_eq_true', decide_eq_true_eq] at h1
  exact .inl ⟨v, d, rfl, hd, h1.1, h1.2.1, h1.2.2.1, h1.2.2.2, q⟩
theorem r_shB {H : Hp} {Q : VK} {b : Bool} (q : Q (.str (PyData.bool b).shown) H) : rShowE [.bl b] H Q := r_sh (.bool b) (by unfold Gx.IsD; rfl) (by cases b <;> decide +kernel) q
theorem log_small {i : Int} (h : i.natAbs < 2 ^ 200) : i.natAbs.log2 < 1920 := by
  by_cases z : i.natAbs = 0
  · rw [z]
    decide
  · exact Nat.lt_trans ((Nat.log2_lt z).mpr h) (by decide)
theorem r_shI {H : Hp} {Q : VK} {i : Int} (h : i.natAbs < 2 ^ 200) (q : Q (.str (PyData.int i).shown) H) : rShowE [.int i] H Q := .inr (.inr ⟨i, rfl, log_small h, q⟩)
theorem iteFb {b : Bool} {A B : Prop} (e : b = false) (h : B) : if b = true then A else B := by
  rw [e]
  exact iteF h
theorem iteTb {b : Bool} {A B : Prop} (e : b = true) (h : A) : if b = true then A else B := by
  rw [e]
  exact iteT h
end
/-! ### a function out of a list is called -/
def tCalV (Cl : Addr → Sp → Prop) (E : L2.St → XK) (te : TE) (ta : TA) : TE := fun σ H Q => te σ H fun u H1 => ∃ f sp, u = .ref f ∧ Cl f sp ∧ ta σ H1 fun vs H2 => sp vs H2 Q (E σ)
section
variable {X : Cx} {CX : CXT} {k : Nat} {Cl : Addr → Sp → Prop} {fe e : Expr} {es : List Expr} {te : TE} {t : TA} {E : L2.St → XK} {pos : Pos}
theorem pe_calv (hCl : ∀ f sp, Cl f sp → ∃ fd ps, FnG X.prog X.w X.K X.mg X.base CX k f fd ps sp ∧ PySem.W.keepIn X.K (.ref f) = true ∧ Binds X.K fd ps []) (hG : X.A.guards = some []) (hr : Room k X.A) (hx : ∀ σ, PassesAt CX X σ (E σ)) (hf : PE X fe te) (ha : PA X (e :: es) t)
    (hev : eval (.Call fe (e :: es) [] pos) X.env = (do callWith pos (← eval fe X.env) [] (backTo pos (starEach (e :: es) X.env)) (backToKw pos (keywordEach [] X.env))) := by rfl)
    (he : starEach (e :: es) X.env = (false, eval e X.env) :: starEach es X.env := by rfl) (hpl : (backTo pos (starEach es X.env)).any (·.1) = false := by rfl) :
    PE X (.Call fe (e :: es) [] pos) (tCalV Cl E te t) := by
  refine ⟨fun pins s σ H Q I h => Call_ (thn (hf.run pins s σ H _ I h) fun u s1 hu => ?_) hev⟩
  obtain ⟨x, H1, I1, r1, f, sp, rfl, cl, q1⟩ := hu
  obtain rfl : u = Value.ref f := r1
  obtain ⟨fd, ps, F, hk, hb⟩ := hCl f sp cl
  refine PySem.W.callWith_K (h₀ := X.base) I1.ok.mod.kin hk (thn (ha.run pos pins s1 σ H1 _ I1 q1) ?_) he hpl
  rintro us s2 ⟨vs, H2, I2, r, q⟩
  refine ⟨I2.kIn, ?_⟩
  have hl : us.length = ps.length := r.length.symm.trans (F.len _ _ _ _ q)
  have b := hb s2 us I2.kIn (by simpa using hl)
  rw [List.append_nil] at b
  refine wpAny_call (codeAny_mono (F.go X.A X.stack s2 H2 ⟨us, []⟩ us vs Q (E σ) hG hr I2.env0 b r q) fun r s' hq => ?_)
  match r, hq with
  | .error e, hq => exact hx σ pins H2 s2 e s' I2 hq
  | .ok (.ret u), hq => exact I2.after hq
  | .ok .next, hq => exact hq.elim
  | .ok .brk, hq => exact hq.elim
  | .ok .cont, hq => exact hq.elim
end
/-! ### try: body, except x as n: suite, except y as n: suite, .. ; behind the told clauses none is looked at -/
abbrev Cut (D : Ends) (i : Nat) : Ends := { nx := fun s h => D.nx (s.set i none) h, rt := D.rt, bk := fun s h => D.bk (s.set i none) h, ct := fun s h => D.ct (s.set i none) h }
def wCl (K : PySem.W.Frag) (D : Ends) : List (Value × Nat × (Addr → Value → Option Addr → TS)) → WX
  | [] => fun _ _ _ _ => False
  | (c, i, ts) :: r => fun cls d s h => ∃ b, PySem.W.exmOne K cls c = some b ∧ (b = true → ∀ ex, h ex = none → ts ex cls d (Cut D i) (s.set i (some (.ref ex))) h) ∧ (b = false → wCl K D r cls d s h)
inductive ClOk (X : Cx) : List ExceptHandler → List (Value × Nat × (Addr → Value → Option Addr → TS)) → Prop
  | rest {hds : List ExceptHandler} : ClOk X hds []
  | cons {x n : Str} {c : Value} {i : Nat} {ts : Addr → Value → Option Addr → TS} {st : Stmt} {sts : List Stmt} {np hp : Pos} {hds : List ExceptHandler} {l : List (Value × Nat × (Addr → Value → Option Addr → TS))} (nm : Names X x c) (ni : X.N[i]? = some n)
      (nl : X.env.kindOf n = some .local) (su : ∀ (ex : Addr) (oe : Obj) (cls : Value) (d : Option Addr) (pn : List (Addr × Obj)), Zc cls d oe → (∃ vs, oe.data = .fields vs) → PSs (X.suite ex ((ex, oe) :: pn)) (st :: sts) (ts ex cls d)) (more : ClOk X hds l) :
      ClOk X (.ExceptHandler (some (.Name x np)) (some n) (st :: sts) hp :: hds) ((c, i, ts) :: l)
section
variable {X : Cx} {body : List Stmt} {h1 : ExceptHandler} {hds : List ExceptHandler} {l : List (Value × Nat × (Addr → Value → Option Addr → TS))} {pos : Pos} {tb : WX → TS}
theorem ps_try_cl (st : X.stack = X.env :: X.outer) (fr : X.env.frame = some X.env.locals) (nd : X.N.Nodup)
    (hb : ∀ (W : WX) (pn : List (Addr × Obj)) (xe : Value → Shared → Prop), Takes (X.tr pn xe) W → PassesOwn (model X.prog X.w) X.A X.env xe → PSs (X.tr pn xe) body (tb W)) (cl : ClOk X (h1 :: hds) l) :
    PS X (.Try body (h1 :: hds) [] [] pos) (fun D s h => tb (wCl X.K D l) D s h) := by
  refine ⟨fun pins s0 σ H D I h => wpAny_Try_except ?_⟩
  have ok := I.ok
  have frames : X.A.frames = some (X.env :: X.outer) := by rw [ok.frames, st]
  have tk : Takes (X.tr (X.pn ++ pins) (fun e t1 => wpAny (model X.prog X.w) X.A (noteFrame e X.env) (fun _ t2 => wpAny (model X.prog X.w) X.A (setFlight e none) (fun _ t3 => wpAny (model X.prog X.w) X.A (handleBy e X.env (h1 :: hds)) (SP X pins D) X.xe t3) X.xe t2) X.xe t1)) (wCl X.K D l) := by
    intro u t xx
    obtain ⟨ex, B, tI, _, σ1, H1, cls, d, rfl, J0, nb, up, sky, na, os, ag, wish⟩ := xx
    have J := J0.ofTry ok
    refine Sky.land Zc.steady frames fr (by rw [← st]; exact sky) fun hp1 fl1 up1 => ?_
    have J1 : Inv X pins σ1 H1 { t with heap := hp1 } := J.landed nb fl1.1 (up.trans up1) os ag
    obtain ⟨o1, vs1, g1, z1, d1⟩ := fl1.there
    have apart : ex ∉ frs (X.env :: X.outer) := fun hm => by
      obtain ⟨_, o2, g2, no⟩ := fl1.2.2.1.mem hm
      rw [g1] at g2
      cases g2
      exact no _ d1
    have nL : ex ≠ X.env.locals := fun z => apart (List.mem_filterMap.mpr ⟨X.env, List.mem_cons_self, by rw [fr, z]⟩)
    have nF : ex ∉ X.fs := fun hm => by
      obtain ⟨e, he, q⟩ := List.mem_filterMap.mp hm
      exact apart (List.mem_filterMap.mpr ⟨e, List.mem_cons_of_mem _ he, q⟩)
    have S1 := J1.suite g1 d1 na nL nF
    have LT : PySem.W.Looks (model X.prog X.w) hp1 (typeOf (.ref ex)) cls := fun A Q E s k q => wpAny_typeOf_ref (k _ _ g1) (by rw [z1.1]; exact q)
    have go : ∀ {hs : List ExceptHandler} {ll : List (Value × Nat × (Addr → Value → Option Addr → TS))}, ClOk X hs ll → wCl X.K D ll cls d σ1 H1 → wpAny (model X.prog X.w) X.A (handleBy (.ref ex) X.env hs) (SP X pins D) X.xe { t with heap := hp1 } := by
     intro hs ll ck
     induction ck with
     | rest => exact fun z => z.elim
     | @cons x n c i ts b sts np hpos hds' l' nm ni nl su more ih =>
       rintro ⟨y, e1, yes, no⟩
       refine wpAny_handleBy_cons (codeAny_handlers_test ?_) (by intro q; cases q)
       have LM := PySem.W.exm_one (M := model X.prog X.w) J1.kIn LT e1
       have named : ∀ {Q : Value → Shared → Prop} {E : Value → Shared → Prop}, Q c { t with heap := hp1 } → wpAny (model X.prog X.w) (X.A.mark (some (.ref ex))) (eval (.Name x np) X.env) Q E { t with heap := hp1 } := fun {Q E} q => by
         obtain ⟨gl, db, hm | ⟨hm, hv, hn⟩⟩ := nm
         · exact ld_glob (X := X.suite ex ((ex, o1) :: (X.pn ++ pins))) S1 gl hm q db
         · exact ld_blt (X := X.suite ex ((ex, o1) :: (X.pn ++ pins))) S1 gl hm hv q hn db
       refine named (LM.here ?_)
       cases y with
       | false => exact ih (no rfl)
       | true =>
         refine codeAny_handlers_suite_as (HandSPX.lands_againZ fl1 fun hp2 fl2 up2 => ?_)
         have J2 : Inv X pins σ1 H1 { t with heap := hp2 } := J.landed nb fl2.1 ((up.trans up1).trans up2) os ag
         obtain ⟨o2, vs2, g2, z2, d2⟩ := fl2.there
         refine store_ok (X := X.suite ex ((ex, o2) :: (X.pn ++ pins))) (v := .ref ex) (J2.suite g2 d2 na nL nF) nd ni (.inl nl) rfl (fun t5 S5 => ?_) (.inr nl)
         refine wpAny_mono ((su ex o2 cls d (X.pn ++ pins) z2 ⟨_, d2⟩).run [] t5 _ H1 _ S5 (yes rfl ex na)) (fun f t6 sp => ?_) (fun _ _ z => False.elim z)
         have gone : ∀ {σ6 : L2.St} {H6 : Hp} {Q : Shared → Prop}, Inv (X.suite ex ((ex, o2) :: (X.pn ++ pins))) [] σ6 H6 t6 → (∀ t7, Inv X pins (σ6.set i none) H6 t7 → Q t7) →
             wpAny (model X.prog X.w) X.A (do bindName X.env n .none; unbindBehindTheSuite X.env n hpos) (fun _ t7 => Q t7) X.xe t6 := fun {σ6 H6 Q} S6 hq => gone_ok (S6.unsuite ok) nd ni nl hq
         match f, sp with
         | .next, ⟨_, _, S6, q6⟩ => exact gone S6 fun t7 J7 => ⟨_, _, J7, q6⟩
         | .brk, ⟨_, _, S6, q6⟩ => exact gone S6 fun t7 J7 => ⟨_, _, J7, q6⟩
         | .cont, ⟨_, _, S6, q6⟩ => exact gone S6 fun t7 J7 => ⟨_, _, J7, q6⟩
         | .ret u, ⟨_, _, _, S6, r6, q6⟩ => exact gone S6 fun t7 J7 => ⟨_, _, _, J7, r6, q6⟩
    exact go cl wish
  refine wpAny_mono ((hb (wCl X.K D l) (X.pn ++ pins) _ tk PassesOwn.looking).run [] s0 σ H D (I.toTry _) h) (fun f t1 sp => ?_) fun _ _ z => z
  match f, sp with
  | .next, ⟨_, _, J1, q⟩ => exact wpAny_execs_nil ⟨_, _, J1.ofTry ok, q⟩
  | .brk, ⟨_, _, J1, q⟩ => exact ⟨_, _, J1.ofTry ok, q⟩
  | .cont, ⟨_, _, J1, q⟩ => exact ⟨_, _, J1.ofTry ok, q⟩
  | .ret u, ⟨_, _, _, J1, r, q⟩ => exact ⟨_, _, _, J1.ofTry ok, r, q⟩
end
end Gx
set_option linter.all false
set_option maxRecDepth 100000
set_option maxHeartbeats 4000000
namespace Gx
open PySem PySem.Spec PyProof.Rows L2
/-! ### the end of a law, its def called where no repr is under way -/
/-- nothing leaves where no exception may -/
theorem cx_none {P : Program} {w : World} {out : List Env} {H : Hp} {s : Shared} {e : Value} {s' : Shared} (c : L2.CX P w out H s (fun _ _ _ => False) e s') : False := by
  obtain ⟨_, _, _, _, _, _, _, _, _, _, _, _, no⟩ := c
  exact no
/-- what is tracked ahead of the call: at most the script -/
structure Fore (P : Program) (w : World) (K : PySem.W.Frag) (a : Addr) (ys : List V) (t : Shared) (H : Hp) : Prop where
  one : ∀ b, H b ≠ none → b = a ∧ K.lookup a = none
  frz : ∀ b u, H b = some u → ∃ o, u = .frz o (.lst ys)
  seq : SqL K H a ys
  ok : HOk P w H t.heap
section
variable {P : Program} {w : World} {K : PySem.W.Frag} {mg mb : Str → Option Value} {k : Nat} {fa a : Addr} {fd : FuncData} {x : Str} {sp : Sp} {t : Shared} {us : List Value} {ys : List V}
theorem fore_own {o : Obj} (kin : K.In t.heap) (hu : t.heap.get? a = some { cls := .type "list", data := .seq us.toArray }) (rel : Vals ys us) (len : ys.length ≤ sizeLine) (hk : K.lookup a = some o) : Fore P w K a ys t fun _ => none := by
  have e := (kin a o hk).symm.trans hu
  cases e
  exact ⟨fun b hb => absurd rfl hb, fun b u hb => (nomatch hb), .inr ⟨_, us.toArray, _, hk, rfl, rfl, rfl, by rw [List.size_toArray, ← rel.length]; exact len, by simpa using rel⟩, fun b u hb => (nomatch hb)⟩
theorem fore_new (hu : t.heap.get? a = some { cls := .type "list", data := .seq us.toArray }) (rel : Vals ys us) (len : ys.length ≤ sizeLine) (hk : K.lookup a = none) :
    Fore P w K a ys t fun b => if b = a then some (.frz { cls := .type "list", data := .seq us.toArray } (.lst ys)) else none := by
  have at_a : ∀ {b u}, (if b = a then some (HO.frz { cls := .type "list", data := .seq us.toArray } (.lst ys)) else none) = some u → b = a ∧ u = .frz { cls := .type "list", data := .seq us.toArray } (.lst ys) := fun {b u} h => by
    split at h
    · rename_i hb
      cases h
      exact ⟨hb, rfl⟩
    · cases h
  refine ⟨fun b hb => ?_, fun b u hb => ⟨_, (at_a hb).2⟩, .inl (.inr ⟨_, if_pos rfl⟩), fun b u hb => ?_⟩
  · by_cases z : b = a
    · exact ⟨z, hk⟩
    · exact absurd (if_neg z) hb
  · obtain ⟨rfl, rfl⟩ := at_a hb
    exact ⟨hu, len, us, _, rel, hu⟩
theorem call_fore (kin : K.In t.heap) (gl : t.heap.Ns mainGlobals mg) (bl : t.heap.Ns builtinsNs mb) (boot : ∀ x : Str, x ≠ "__name__" → mb x = bootBuiltins x) (lim : t.heap.NoLimit) (gens : t.gens = #[])
    (hu : t.heap.get? a = some { cls := .type "list", data := .seq us.toArray }) (room : Room k callerA)
    (F : ∀ base : Heap, K.In base → base.Ns mainGlobals mg → FnG P w K mg base (L2.CX P w) k fa fd [x] sp) (bind : ∀ (s : Shared) (u : Value), BindsTo s fd ⟨[u], []⟩ [(x, u)])
    {H : Hp} (O : Fore P w K a ys t H) (hsp : sp [.ref a] H (fun v _ => v = .bl true) fun _ _ _ => False) :
    codeAny (model P w) callerA (.call (.ref fa) ⟨[.ref a], []⟩) (fun r t' => r = .ok (.ret (.bool true)) ∧ OldK t.heap t'.heap ∧ t'.os = t.os ∧ AllBare t'.gens) t := by
  have untracked : ∀ {b : Addr} {o : Obj}, t.heap.get? b = some o → (∀ its n, o.data ≠ .seq its n) → H b = none := fun {b o} e ns => by
    cases q : H b with
    | none => rfl
    | some u =>
      obtain ⟨rfl, _⟩ := O.one b (by rw [q]; exact Option.some_ne_none u)
      rw [hu] at e
      cases e
      exact absurd rfl (ns us.toArray _)
  have dicts : ∀ {b : Addr} {m : Str → Option Value}, t.heap.Ns b m → (hidT t.heap H).Ns b m := fun ⟨o, es, ep, e, d, r⟩ => ⟨o, es, ep, hidT_get e (untracked e fun its n z => by rw [d] at z; cases z), d, r⟩
  have kin' : K.In (hidT t.heap H) := fun b o e => hidT_get (kin b o e) (by
    cases q : H b with
    | none => rfl
    | some u =>
      obtain ⟨rfl, no⟩ := O.one b (by rw [q]; exact Option.some_ne_none u)
      rw [no] at e
      cases e)
  have lim' : (hidT t.heap H).NoLimit := by
    obtain ⟨mc, l1, l2⟩ := lim
    exact ⟨mc, dicts l1, l2⟩
  have start : Env0 P w K mg (hidT t.heap H) callerA [] t H := {
    frames := rfl
    mod := ⟨kin', dicts gl, ⟨mb, dicts bl, boot⟩, lim'⟩
    bs := fun _ _ => of_hidT
    bsz := Nat.le_of_eq (hidT_size _ _)
    funs := trivial
    frf := fun b hb => absurd hb List.not_mem_nil
    hok := O.ok
    bare := .of_eq gens }
  refine codeAny_mono ((F _ kin' (dicts gl)).go callerA [] t H ⟨[.ref a], []⟩ [.ref a] [.ref a] _ _ rfl room start (bind t (.ref a)) (.cons rfl .nil) hsp) ?_
  rintro (e | fl) t' h
  · exact (cx_none h).elim
  cases fl with
  | ret u =>
    obtain ⟨v, H', eos, eb, un, ok', rv, rfl⟩ := h
    cases (show u = Value.bool true from rv)
    refine ⟨rfl, OldK.of_keep fun b o e => ?_, eos, eb⟩
    cases q : H b with
    | none => exact un.keep b o e q List.not_mem_nil List.not_mem_nil
    | some u =>
      obtain ⟨o1, rfl⟩ := O.frz b u q
      have p1 := (O.ok b _ q).1
      rw [e] at p1
      cases p1
      exact (ok' b _ (un.frzs b _ _ q)).1
  | _ => exact False.elim h
end
/-- what k_head leaves open, from the promise of the law's def -/
theorem walk_g {l : PySem.W.OpenLaw} {n k : Nat} {q : Program} {loose : List Str} {XP : (Str → Option Value) → Heap → Prop} {YP : World → Heap → Prop} {d : DefRec} {K : Params → PySem.W.Frag} {sp : World → Sp} {x : Str}
    (most : l.most = some n) (small : n ≤ sizeLine) (plain : d.params.defaults = []) (room : Room k callerA) (kin : ∀ (w : World) (h : Heap), YP w h → (K w.params).In h)
    (F : ∀ (w : World) (mg : Str → Option Value) (fa : Addr) (h : Heap), (K w.params).In h → h.Ns mainGlobals mg → mg d.name = some (.ref fa) → ∃ fd : FuncData, (∀ (s : Shared) (u : Value), BindsTo s fd ⟨[u], []⟩ [(x, u)]) ∧
      ∀ base : Heap, (K w.params).In base → base.Ns mainGlobals mg → FnG l.prog w (K w.params) mg base (L2.CX l.prog w) k fa fd [x] (sp w))
    (hsp : ∀ (w : World) (H : Hp) (a : Addr) (ns : List Int), ns.length ≤ n → SqL (K w.params) H a (ns.map V.int) → sp w [.ref a] H (fun v _ => v = .bl true) fun _ _ _ => False) :
    PySem.W.WalkO q loose XP YP l.row.toRowW d [] (fun f vs => PySem.call f vs) := by
  refine Att.attach_call most plain fun w t0 t mg mb fa o pm cd doc a us ns G Y ho hd hcd hmg hobj hints hlen hg => ?_
  have kin1 := kin w _ Y
  obtain ⟨fd, hb, hF⟩ := F w mg fa _ kin1 G.T.g hmg
  have rel := vals_ints hints
  have len : (ns.map V.int).length ≤ sizeLine := by
    rw [List.length_map]
    exact Nat.le_trans hlen small
  cases hk : (K w.params).lookup a with
  | some ob =>
    have O := fore_own (P := l.prog) (w := w) kin1 hobj rel len hk
    exact call_fore kin1 G.T.g G.T.b G.T.builtins G.T.nolimit hg hobj room hF hb O (hsp w _ a ns hlen O.seq)
  | none =>
    have O := fore_new (P := l.prog) (w := w) (K := K w.params) hobj rel len hk
    exact call_fore kin1 G.T.g G.T.b G.T.builtins G.T.nolimit hg hobj room hF hb O (hsp w _ a ns hlen O.seq)
/-- the same, the promise hanging on the written part alone -/
theorem walk_gk {l : PySem.W.OpenLaw} {n k : Nat} {q : Program} {loose : List Str} {XP : (Str → Option Value) → Heap → Prop} {YP : World → Heap → Prop} {d : DefRec} {K : Params → PySem.W.Frag} {sp : PySem.W.Frag → Sp} {x : Str}
    (most : l.most = some n) (small : n ≤ sizeLine) (plain : d.params.defaults = []) (room : Room k callerA) (kin : ∀ (w : World) (h : Heap), YP w h → (K w.params).In h)
    (F : ∀ (w : World) (mg : Str → Option Value) (fa : Addr) (h : Heap), (K w.params).In h → h.Ns mainGlobals mg → mg d.name = some (.ref fa) → ∃ fd : FuncData, (∀ (s : Shared) (u : Value), BindsTo s fd ⟨[u], []⟩ [(x, u)]) ∧
      ∀ base : Heap, (K w.params).In base → base.Ns mainGlobals mg → FnG l.prog w (K w.params) mg base (L2.CX l.prog w) k fa fd [x] (sp (K w.params)))
    (hsp : ∀ (K : PySem.W.Frag) (H : Hp) (a : Addr) (ns : List Int), ns.length ≤ n → SqL K H a (ns.map V.int) → sp K [.ref a] H (fun v _ => v = .bl true) fun _ _ _ => False) :
    PySem.W.WalkO q loose XP YP l.row.toRowW d [] (fun f vs => PySem.call f vs) :=
  walk_g (sp := fun w => sp (K w.params)) most small plain room kin F fun w H a ns => hsp (K w.params) H a ns
end Gx
set_option linter.all false
set_option maxRecDepth 100000
set_option maxHeartbeats 4000000
namespace Gx
open PySem PySem.Spec PyProof.Rows L2
/-! ### an own class of exceptions over another one of the text, its __init__ a def: made as a value, raised, caught -/
structure OwnX (K : PySem.W.Frag) (mg : Str → Option Value) (x q : Str) (st : Stmt) (fld : Str) (C : Addr) : Prop where
  oex : OexC K C
  gl : mg x = some (.ref C)
  no : PySem.W.findIn K (.ref C) fld = some none
  xf : XfC K C
  ini : ∃ fI fd, PySem.W.findIn K (.ref C) "__init__" = some (some (.ref fI)) ∧ PySem.W.typeIn K (.ref fI) = some (.type "function") ∧ Fun K "__init__" q st fI fd
theorem ownX {K : PySem.W.Frag} {h : Heap} {mg : Str → Option Value} {x q : Str} {st : Stmt} {fld : Str} {C fI N : Addr} {nm qn : Str} {bs bm : List Value} {sn : List Str} {sub : List Value} {ab : Bool} {col : Option Bool} {dd : Option Addr} {m0 m1 m2 m3 m5 : Option Value} {oc kV dc pm cd ct : Value} {od an : Option Addr} {sl : Array (Option Value)}
    (X : K.In h) (G : h.Ns mainGlobals mg) (e0 : PySem.W.nsIn K mainGlobals x = some (some (.ref C))) (e1 : K.lookup C = some (excClassObj nm qn C N bs bm true sn sub ab col dd m0 m1 m2 m3 m5 "ValueError.__new__")) (e1b : PySem.HandSPX.refsVE bm = true)
    (e2 : PySem.W.findIn K (.ref C) "__setattr__" = some (some (.builtin "object.__setattr__"))) (e3 : PySem.W.subIn K (.ref C) (.type "BaseException") = some true) (e4 : PySem.W.typeIn K (.ref C) = some (.type "type")) (e5 : PySem.W.keepIn K (.ref C) = true)
    (e6 : PySem.W.findIn K (.ref C) fld = some none) (e7 : PySem.W.findIn K (.ref C) "__init__" = some (some (.ref fI))) (e8 : PySem.W.typeIn K (.ref fI) = some (.type "function"))
    (e9 : K.lookup fI = some ⟨oc, od, .func (PySem.W.fnOf "__init__" q (defArgs st) (defBody st) (defScope st) .none kV dc pm an cd ct), sl⟩) (e10 : PySem.W.codeIn K cd q = true) (e11 : PySem.W.keepIn K (.ref fI) = true)
    (x1 : PySem.W.findIn K (.ref C) "__getattribute__" = some (some (.builtin "BaseException.__getattribute__"))) (x2 : PySem.W.findIn K (.ref C) "__getattr__" = some none) (x3 : PySem.W.hasDictIn K C = true) : OwnX K mg x q st fld C :=
  ⟨⟨⟨_, _, _, _, _, _, _, _, _, _, _, _, _, _, _, e1, e1b⟩, e2, e3, e4, e5⟩, PySem.W.mg_of X G e0, e6, ⟨x1, x2, e3, x3⟩, ⟨fI, _, e7, e8, fun_mk e9 e10 e11⟩⟩
theorem exm_sub {K : PySem.W.Frag} {D C : Addr} {b : Bool} (h1 : PySem.W.subIn K (.ref C) (.type "BaseException") = some true) (h2 : PySem.W.isClsIn K C = true) (h3 : PySem.W.typeIn K (.ref C) = some (.type "type")) (h4 : PySem.W.subIn K (.ref D) (.ref C) = some b) :
    PySem.W.exmOne K (.ref D) (.ref C) = some b := by
  have c1 : (PySem.W.subIn K (.ref C) (.type "BaseException") == some true) = true := by rw [h1]; rfl
  have c2 : ((PySem.W.clsIn K C).isSome && PySem.W.typeIn K (.ref C) == some (.type "type")) = true := by
    rw [Bool.and_eq_true]
    exact ⟨h2, by rw [h3]; rfl⟩
  unfold PySem.W.exmOne PySem.W.kitCls
  rw [if_pos c1]
  exact (if_pos c2).trans h4
theorem r_vei {σ : L2.St} {H : Hp} {Q : VK} {K : PySem.W.Frag} {al : TA} (h : al σ H fun vs H1 => ∃ (a C : Addr) (ws : List V), vs = .ref a :: ws ∧ ws.length ≤ 1000 ∧ OexC K C ∧ H1 a = some (exo a C none) ∧ Q .non H1) : tVeI K al σ H Q := h
theorem r_ost {σ : L2.St} {H : Hp} {D : Ends} {K : PySem.W.Frag} {to te : TE} {g : Str} (h : te σ H fun v H1 => to σ H1 fun u H2 => ∃ a C : Addr, u = .ref a ∧ OexC K C ∧ PySem.W.findIn K (.ref C) g = some none ∧ ((H2 a = some (exo a C none) ∧ ∀ d, H2 d = none → d ≠ a → D.nx σ (upd (upd H2 d (exd d [(g, v)])) a (exo a C (some d)))) ∨ ∃ (d : Addr) (gs : List (Str × V)), H2 a = some (exo a C (some d)) ∧ H2 d = some (exd d gs) ∧ gs.length ≤ 900 ∧ D.nx σ (upd H2 d (exd d ((g, v) :: gs))))) : tOst K g to te D σ H := h
theorem none_of {H0 H : Hp} {p : Addr} (s : Same H0 H) (h : H p = none) : H0 p = none := by
  cases e : H0 p with
  | none => rfl
  | some u => rw [s _ _ e] at h; cases h
theorem same_new {H : Hp} {p : Addr} {o : HO} (h : H p = none) : Same H (upd H p o) := fun b u hb => by
  rw [upd_ne (ne_of_none hb h)]
  exact hb
theorem same_upd {H0 H : Hp} {p : Addr} {o : HO} (n : H0 p = none) (s : Same H0 H) : Same H0 (upd H p o) := fun c u h => by
  rw [upd_ne fun z => by subst z; rw [n] at h; cases h]
  exact s _ _ h
theorem r_mkV1 {σ : L2.St} {H : Hp} {Q : VK} {K : PySem.W.Frag} {C : Addr} {g : Str} {v : V} (O : OexC K C) (no : PySem.W.findIn K (.ref C) g = some none)
    (q : ∀ a d H', H a = none → Same H H' → H' a = some (exo a C (some d)) → H' d = some (exd d [(g, v)]) → Q (.ref a) H') : tMkV C (spEI K C g) (tCons (tC v) tNil) σ H Q := by
  refine ⟨Nat.le_of_ble_eq_true rfl, fun a ha => ⟨a, v, rfl, O, no, upd_same, fun d hd n => ⟨rfl, ?_⟩⟩⟩
  have hd0 : H d = none := by rwa [upd_ne n] at hd
  refine q a d _ ha (same_upd ha (same_upd hd0 (same_new ha))) upd_same ?_
  rw [upd_ne n]
  exact upd_same
/-- raise C(e) -/
def tRs (K : PySem.W.Frag) (C : Addr) (g : Str) (E : XK) (ta : TA) : TS := fun _ σ H => tMkO C (spEI K C g) [] ta σ H fun cls d H' => E cls d H'
section
variable {X : Cx} {x q : Str} {st : Stmt} {g : Str} {C : Addr} {e : Expr} {ta : TA} {p pos pos2 : Pos} {E : XK}
theorem ps_rs (O : OwnX X.K X.mg x q st g C) (ok : ∀ {fI fd}, Fun X.K "__init__" q st fI fd → FnOk X.prog X.w X.K X.mg X.base CX0 1 fI fd ["self", g] (spEI X.K C g))
    (hb : ∀ (kV doc pm : Value) (an : Option Addr) (cdv ct : Value) (us : List Value), us.length = (["self", g] : List Str).length → bindArgs (PySem.W.fnOf "__init__" q (defArgs st) (defBody st) (defScope st) .none kV doc pm an cdv ct) ⟨us, []⟩ = pure ((["self", g] : List Str).zip us))
    (hr : Room 2 X.A) (hc : X.calm = true) (tk : Takes X (fun cls d _ H => E cls d H)) (hg : Gl X x) (ha : PA X [e] ta)
    (hdb : (x == ("__debug__" : Str)) = false := by decide) (he : starEach [e] X.env = (false, eval e X.env) :: starEach [] X.env := by rfl) (hpl : (backTo pos (starEach [] X.env)).any (·.1) = false := by rfl) :
    PS X (.Raise (some (.Call (.Name x p) [e] [] pos)) none pos2) (tRs X.K C g E ta) := by
  obtain ⟨fI, fd, i1, i2, F⟩ := O.ini
  exact ps_raise hc tk (pmk_oex (dvs := []) O.oex i1 i2 (ok F) hr (F.binds hb) .nil pass0 hg O.gl ha hdb he hpl)
end
theorem r_rs {σ : L2.St} {H : Hp} {D : Ends} {E : XK} {K : PySem.W.Frag} {C : Addr} {g : Str} {i : Nat} {v : V} (O : OexC K C) (no : PySem.W.findIn K (.ref C) g = some none) (h : σ[i]? = some (some v))
    (q : ∀ d H', Same H H' → H' d = some (.xd [(g, v)]) → E (.ref C) (some d) H') : tRs K C g E (tCons (tVar i) tNil) D σ H := by
  refine ⟨v, h, Nat.le_of_ble_eq_true rfl, fun a ha => ⟨a, v, rfl, O, no, upd_same, fun d hd n => ⟨rfl, d, _, upd_same, ?_, ?_, q d _ ?_ upd_same⟩⟩⟩
  · rw [upd_ne n]
    exact upd_same
  · rwa [upd_ne n] at hd
  · have hd0 : H d = none := by rwa [upd_ne n] at hd
    refine same_upd hd0 fun c u hc => ?_
    have ca : c ≠ a := fun z => by subst z; rw [ha] at hc; cases hc
    have cd : c ≠ d := fun z => by subst z; rw [hd0] at hc; cases hc
    rw [del_ne ca, upd_ne ca, upd_ne cd, upd_ne ca]
    exact hc
end Gx
set_option linter.all false
set_option maxRecDepth 100000
set_option maxHeartbeats 4000000
namespace Gx
open PySem PySem.Spec PyProof.Rows L2
/-! ### things of many kinds: their types, what they show, how they grow -/
inductive TyAt (H : Hp) : V → String → Prop
  | non : TyAt H .non "NoneType"
  | bl (b : Bool) : TyAt H (.bl b) "bool"
  | int (i : Int) : TyAt H (.int i) "int"
  | str (z : Str) : TyAt H (.str z) "str"
  | lst {a : Addr} {xs : List V} (h : H a = some (.lst xs)) : TyAt H (.ref a) "list"
  | tup {a : Addr} {xs : List V} (h : H a = some (.tup xs)) : TyAt H (.ref a) "tuple"
  | dct {a : Addr} {es : List (Key × V)} (h : H a = some (.dK es)) : TyAt H (.ref a) "dict"
theorem TyAt.mono {H H' : Hp} (s : Same H H') {v : V} {T : String} : TyAt H v T → TyAt H' v T
  | .non => .non
  | .bl b => .bl b
  | .int i => .int i
  | .str z => .str z
  | .lst h => .lst (s _ _ h)
  | .tup h => .tup (s _ _ h)
  | .dct h => .dct (s _ _ h)
theorem TyAt.isI {K : PySem.W.Frag} {H : Hp} {v : V} {T U : String} {b : Bool} (h : TyAt H v T) (e : kitB T U = some b) : IsI K H v U b := by
  cases h with
  | non => exact isI_non e
  | bl b => exact isI_bl e
  | int i => exact isI_int e
  | str z => exact isI_str e
  | lst h => exact isI_lst h e
  | tup h => exact isI_tup h e
  | dct h => exact isI_dct h e
theorem TyAt.int_no {K : PySem.W.Frag} {H : Hp} {v : V} {T : String} (h : TyAt H v T) (n : T ≠ "int") : (∃ b, v = .bl b) ∨ IsI K H v "int" false := by
  cases h with
  | non => exact .inr (isI_non (by decide +kernel))
  | bl b => exact .inl ⟨b, rfl⟩
  | int i => exact absurd rfl n
  | str z => exact .inr (isI_str (by decide +kernel))
  | lst h => exact .inr (isI_lst h (by decide +kernel))
  | tup h => exact .inr (isI_tup h (by decide +kernel))
  | dct h => exact .inr (isI_dct h (by decide +kernel))
theorem TyAt.str_no {K : PySem.W.Frag} {H : Hp} {v : V} {T : String} (h : TyAt H v T) (n : T ≠ "str") : IsI K H v "str" false := by
  cases h with
  | non => exact isI_non (by decide +kernel)
  | bl b => exact isI_bl (by decide +kernel)
  | int i => exact isI_int (by decide +kernel)
  | str z => exact absurd rfl n
  | lst h => exact isI_lst h (by decide +kernel)
  | tup h => exact isI_tup h (by decide +kernel)
  | dct h => exact isI_dct h (by decide +kernel)
def okD (d : PyData) : Bool := !d.hasDict && (d.showable && (decide (d.depth ≤ 20) && decide (d.shown.length ≤ sizeLine)))
def okE (es : List (Key × V)) : Bool := es.all (fun p => flatV p.2) && ((dctD es).showable && (decide ((dctD es).depth ≤ 20) && decide ((dctD es).shown.length ≤ sizeLine)))
def dicts4 : List (List (Key × V)) := [[], [(.inr "a", .int 1)], [(.inr "more", .int 1)], [(.inr "a", .int 1), (.inr "more", .int 1)]]
def more (x : V) (j : Nat) : List V := x :: List.replicate j (.str "more")
def okL (x : V) : Bool := flatV x && (List.range 13).all fun j => okD (.list ((more x j).map valD))
inductive Th (H : Hp) : V → String → Nat → Prop
  | non (n : Nat) : Th H .non "NoneType" n
  | bl (b : Bool) (n : Nat) : Th H (.bl b) "bool" n
  | int (i : Int) (n : Nat) (h : i.natAbs < 2 ^ 200) : Th H (.int i) "int" n
  | str (z : Str) (n : Nat) (h : okD (.str z) = true) : Th H (.str z) "str" n
  | tup {a : Addr} (x : V) (n : Nat) (ha : H a = some (.tup [x])) (h : (flatV x && okD (.tuple [valD x])) = true) : Th H (.ref a) "tuple" n
  | lst {a : Addr} (x : V) (j n : Nat) (ha : H a = some (.lst (more x j))) (hj : j ≤ n) (h : okL x = true) : Th H (.ref a) "list" n
  | dct {a : Addr} (es : List (Key × V)) (n : Nat) (ha : H a = some (.dK es)) (h : es ∈ dicts4) : Th H (.ref a) "dict" n
theorem Th.ty {H : Hp} {v : V} {T : String} {n : Nat} : Th H v T n → TyAt H v T
  | .non _ => .non
  | .bl b _ => .bl b
  | .int i _ _ => .int i
  | .str z _ _ => .str z
  | .tup _ _ h _ => .tup h
  | .lst _ _ _ h _ _ => .lst h
  | .dct _ _ h _ => .dct h
theorem Th.mono {H H' : Hp} (s : Same H H') {v : V} {T : String} {n m : Nat} (l : n ≤ m) : Th H v T n → Th H' v T m
  | .non _ => .non _
  | .bl b _ => .bl b _
  | .int i _ h => .int i _ h
  | .str z _ h => .str z _ h
  | .tup x _ h k => .tup x _ (s _ _ h) k
  | .lst x j _ h hj k => .lst x j _ (s _ _ h) (Nat.le_trans hj l) k
  | .dct es _ h k => .dct es _ (s _ _ h) k
theorem isD_flat {H : Hp} : ∀ {v : V}, flatV v = true → Gx.IsD H (valD v) v
  | .non, _ => by unfold valD Gx.IsD; rfl
  | .bl b, _ => by unfold valD Gx.IsD; rfl
  | .int i, _ => by unfold valD Gx.IsD; rfl
  | .str z, _ => by unfold valD Gx.IsD; rfl
theorem allD_flat {H : Hp} : ∀ {xs : List V}, xs.all flatV = true → Gx.AllD H (xs.map valD) xs
  | [], _ => by simp [Gx.AllD]
  | x :: xs, h => by
    rw [List.all_cons, Bool.and_eq_true] at h
    show Gx.AllD H (valD x :: xs.map valD) (x :: xs)
    unfold Gx.AllD
    exact ⟨_, _, rfl, isD_flat h.1, allD_flat h.2⟩
theorem more_flat {x : V} (h : flatV x = true) (j : Nat) : (more x j).all flatV = true := by
  unfold more
  rw [List.all_cons, h, Bool.true_and]
  exact List.all_eq_true.mpr fun v hv => by rw [List.eq_of_mem_replicate hv]; rfl
theorem shown_dict {H : Hp} {a : Addr} {es : List (Key × V)} (ha : H a = some (.dK es)) (h : okE es = true) : ∀ Q : VK, Q (.str (dctD es).shown) H → rShowE [.ref a] H Q := fun Q q => by
  unfold okE at h
  rw [Bool.and_eq_true, Bool.and_eq_true, Bool.and_eq_true] at h
  exact .inr (.inl ⟨a, es, rfl, ha, h.1, h.2.1, of_decide_eq_true h.2.2.1, of_decide_eq_true h.2.2.2, q⟩)
theorem dicts_ok : ∀ es ∈ dicts4, okE es = true := by
  have h : dicts4.all okE = true := by decide +kernel
  exact List.all_eq_true.mp h
theorem dicts_grow : ∀ es ∈ dicts4, putK es (.inr "more") (.int 1) ∈ dicts4 := by
  intro es he
  unfold dicts4 at he
  rcases List.mem_cons.mp he with rfl | he
  · exact .tail _ (.tail _ (.head _))
  rcases List.mem_cons.mp he with rfl | he
  · exact .tail _ (.tail _ (.tail _ (.head _)))
  rcases List.mem_cons.mp he with rfl | he
  · exact .tail _ (.tail _ (.head _))
  obtain rfl := List.mem_singleton.mp he
  exact .tail _ (.tail _ (.tail _ (.head _)))
theorem dicts_len : ∀ es ∈ dicts4, es.length < 1000 := by
  have h : dicts4.all (fun es => decide (es.length < 1000)) = true := by decide +kernel
  exact fun es he => of_decide_eq_true (List.all_eq_true.mp h es he)
theorem Th.shows {H : Hp} {v : V} {T : String} {n : Nat} (h : Th H v T n) (hn : n ≤ 12) : ∃ z : Str, ∀ Q : VK, Q (.str z) H → rShowE [v] H Q := by
  cases h with
  | non => exact ⟨_, fun Q q => r_sh .none (by unfold Gx.IsD; rfl) (by decide +kernel) q⟩
  | bl b => exact ⟨_, fun Q q => r_shB q⟩
  | int i _ h => exact ⟨_, fun Q q => r_shI h q⟩
  | str z _ h => exact ⟨_, fun Q q => r_sh (.str z) (by unfold Gx.IsD; rfl) h q⟩
  | tup x _ ha h =>
    rw [Bool.and_eq_true] at h
    refine ⟨_, fun Q q => r_sh (.tuple [valD x]) ?_ h.2 q⟩
    unfold Gx.IsD
    exact ⟨_, _, rfl, ha, allD_flat (xs := [x]) (by simp [h.1])⟩
  | lst x j _ ha hj h =>
    unfold okL at h
    rw [Bool.and_eq_true] at h
    refine ⟨_, fun Q q => r_sh (.list ((more x j).map valD)) ?_ (List.all_eq_true.mp h.2 j (List.mem_range.mpr (by omega))) q⟩
    unfold Gx.IsD
    exact ⟨_, _, rfl, ha, allD_flat (more_flat h.1 j)⟩
  | dct es _ ha h => exact ⟨_, shown_dict ha (dicts_ok es h)⟩
theorem more_app (x : V) (j : Nat) : more x j ++ [.str "more"] = more x (j + 1) := by
  unfold more
  rw [List.cons_append, List.replicate_succ']
/-- a list, a dict, neither -/
theorem Th.kinds {K : PySem.W.Frag} {H : Hp} {v : V} {T : String} {n : Nat} (h : Th H v T n) :
    (∃ a x j, v = .ref a ∧ T = "list" ∧ H a = some (.lst (more x j)) ∧ j ≤ n ∧ okL x = true) ∨ (∃ a es, v = .ref a ∧ T = "dict" ∧ H a = some (.dK es) ∧ es ∈ dicts4) ∨ (IsI K H v "list" false ∧ IsI K H v "dict" false) := by
  cases h with
  | non => exact .inr (.inr ⟨isI_non (by decide +kernel), isI_non (by decide +kernel)⟩)
  | bl b => exact .inr (.inr ⟨isI_bl (by decide +kernel), isI_bl (by decide +kernel)⟩)
  | int i _ h => exact .inr (.inr ⟨isI_int (by decide +kernel), isI_int (by decide +kernel)⟩)
  | str z _ h => exact .inr (.inr ⟨isI_str (by decide +kernel), isI_str (by decide +kernel)⟩)
  | tup x _ ha h => exact .inr (.inr ⟨isI_tup ha (by decide +kernel), isI_tup ha (by decide +kernel)⟩)
  | lst x j _ ha hj h => exact .inl ⟨_, x, j, rfl, rfl, ha, hj, h⟩
  | dct es _ ha h => exact .inr (.inl ⟨_, es, rfl, rfl, ha, h⟩)
/-! ### what _law_same asks: found, word, thing -/
/-- all but the thing itself stays -/
def But (v : V) (H H' : Hp) : Prop := ∀ c u, v ≠ .ref c → H c = some u → H' c = some u
theorem But.trans {v : V} {H H1 H2 : Hp} (a : But v H H1) (b : But v H1 H2) : But v H H2 := fun c u n h => b c u n (a c u n h)
theorem But.of {v : V} {H H' : Hp} (s : Same H H') : But v H H' := fun c u _ h => s c u h
def spSame : Sp := fun vs H Q _ => ∃ (p : Addr) (wd : Str) (t : V) (T : String) (n : Nat), vs = [.ref p, .str wd, t] ∧ H p = some (.lst [.str wd, t]) ∧ Th H t T n ∧ n < 12 ∧ t ≠ .ref p ∧ ∀ H', But t H H' → Th H' t T (n + 1) → Q (.bl true) H'
theorem r_dset {a : Addr} {i v : V} {H : Hp} {QH : Hp → Prop} {k : Key} {es : List (Key × V)} (e : i = kV k) (h : H a = some (.dK es)) (l : es.length < 1000) (q : QH (upd H a (.dK (putK es k v)))) : rSetD (.ref a) i v H QH := by
  subst e
  exact ⟨a, _, rfl, .k h (Nat.lt_trans l (by rw [sizeLine_eq]; decide)), q⟩
end Gx
set_option linter.all false
set_option maxRecDepth 100000
set_option maxHeartbeats 4000000
namespace Gx
open PySem PySem.Spec PyProof.Rows L2
/-! ### things that grow beside each other and beside a box -/
theorem Th.at {H H' : Hp} {v : V} {T : String} {n m : Nat} (l : n ≤ m) (h : Th H v T n) (s : ∀ c u, v = .ref c → H c = some u → H' c = some u) : Th H' v T m := by
  cases h with
  | non => exact .non _
  | bl b => exact .bl b _
  | int i _ h => exact .int i _ h
  | str z _ h => exact .str z _ h
  | tup x _ ha k => exact .tup x _ (s _ _ rfl ha) k
  | lst x j _ ha hj k => exact .lst x j _ (s _ _ rfl ha) (Nat.le_trans hj l) k
  | dct es _ ha k => exact .dct es _ (s _ _ rfl ha) k
theorem Th.there {H : Hp} {v : V} {T : String} {n : Nat} (h : Th H v T n) : ∀ c, v = .ref c → H c ≠ none := by
  intro c e
  cases h with
  | tup x _ ha k => cases e; rw [ha]; exact Option.some_ne_none _
  | lst x j _ ha hj k => cases e; rw [ha]; exact Option.some_ne_none _
  | dct es _ ha k => cases e; rw [ha]; exact Option.some_ne_none _
  | _ => cases e
theorem Bx.same {n : Nat} {H H' : Hp} {b : Addr} (B : Bx n H b) (s : Same H H') : Bx n H' b := by
  obtain ⟨x, y, z, e, r⟩ := B
  exact ⟨x, y, z, s _ _ e, r⟩
theorem Bx.but {n : Nat} {H H' : Hp} {b : Addr} {v : V} (B : Bx n H b) (nb : v ≠ .ref b) (s : But v H H') : Bx n H' b := by
  obtain ⟨x, y, z, e, r⟩ := B
  exact ⟨x, y, z, s _ _ nb e, r⟩
theorem Bx.some {n : Nat} {H : Hp} {b : Addr} (B : Bx n H b) : H b ≠ none := by
  obtain ⟨x, y, z, e, r⟩ := B
  rw [e]
  exact Option.some_ne_none _
theorem Off.same {b : Addr} {H H' : Hp} (s : Same H H') : Off b H H' := fun c u _ h => s c u h
structure Keep (G0 : Hp) (b : Addr) (n : Nat) (u v : V) (S T : String) (H : Hp) (m k : Nat) : Prop where
  bx : Bx n H b
  a : Th H u S m
  c : Th H v T k
  of : Off b G0 H
section
variable {G0 : Hp} {b : Addr} {n : Nat} {u v : V} {S T : String} {H H1 H2 : Hp} {m k : Nat}
theorem Keep.fst (h : Keep G0 b n u v S T H m k) (s : Same H H1) (bt : But u H1 H2) (t : Th H2 u S (m + 1)) (nb : u ≠ .ref b) (nv : ∀ c, u = .ref c → v ≠ .ref c) (ng : ∀ c, u = .ref c → G0 c = none) : Keep G0 b n u v S T H2 (m + 1) k :=
  ⟨(h.bx.same s).but nb bt, t, h.c.at (Nat.le_refl _) fun c o e hc => bt c o (fun z => nv c z e) (s c o hc), fun c o nc hc => bt c o (fun z => by rw [ng c z] at hc; cases hc) (s c o (h.of c o nc hc))⟩
theorem Keep.snd (h : Keep G0 b n u v S T H m k) (s : Same H H1) (bt : But v H1 H2) (t : Th H2 v T (k + 1)) (nb : v ≠ .ref b) (nv : ∀ c, u = .ref c → v ≠ .ref c) (ng : ∀ c, v = .ref c → G0 c = none) : Keep G0 b n u v S T H2 m (k + 1) :=
  ⟨(h.bx.same s).but nb bt, h.a.at (Nat.le_refl _) fun c o e hc => bt c o (nv c e) (s c o hc), t, fun c o nc hc => bt c o (fun z => by rw [ng c z] at hc; cases hc) (s c o (h.of c o nc hc))⟩
end
/-- an item of a list at an open place, with what holds of all of them -/
theorem r_ixP {K : PySem.W.Frag} {H : Hp} {Q : VK} {p : Addr} {d : Int} {xs : List V} {R : V → Prop} (h : H p = some (.lst xs)) (hx : ∀ v ∈ xs, R v) (h0 : 0 ≤ d) (h1 : d < (xs.length : Int)) (q : ∀ v, R v → Q v H) : rIxL K (.ref p) (.int d) H Q := by
  have hd : d.toNat < xs.length := by omega
  exact ⟨p, xs, d, _, rfl, rfl, SqL.of h, at_pos h0 hd, q _ (hx _ (List.getElem_mem hd))⟩
theorem r_dn {σ : L2.St} {H : Hp} {Q : VK} (q : ∀ p, H p = none → Q (.ref p) (upd H p (.dK []))) : tDNewK σ H Q := q
theorem r_disp1 {σ : L2.St} {H : Hp} {Q : VK} {z : Str} {v : V} (q : ∀ p, H p = none → Q (.ref p) (upd H p (.dK [(.inr z, v)]))) : tDisp [(tC (.str z), tC v)] σ H Q := fun p hp => by
  refine ⟨upd_same, [(.inr z, v)], rfl, Nat.le_of_ble_eq_true rfl, ?_⟩
  rw [upd_upd]
  exact q p hp
end Gx
set_option linter.all false
set_option maxRecDepth 100000
set_option maxHeartbeats 4000000
namespace Gx
open PySem PySem.Spec PyProof.Rows L2
/-! ### defs that run under any guards, as their callers see them -/
structure CalO (P : Program) (w : World) (K : PySem.W.Frag) (mg : Str → Option Value) (base : Heap) (k : Nat) (x : Str) (ps : List Str) (sp : Sp) : Prop where
  ex : ∃ f fd, FnOk P w K mg base (L2.CX P w) k f fd ps sp ∧ mg x = some (.ref f) ∧ PySem.W.keepIn K (.ref f) = true ∧ Binds K fd ps []
section
variable {P : Program} {w : World} {K : PySem.W.Frag} {mg : Str → Option Value} {base : Heap} {k : Nat} {x : Str} {st : Stmt} {ps : List Str} {sp : Sp}
theorem DefIn.calo (D : DefIn K mg x st) (ok : ∀ {f fd}, Fun K x x st f fd → FnOk P w K mg base (L2.CX P w) k f fd ps sp)
    (h : ∀ (kV doc pm : Value) (an : Option Addr) (cdv ct : Value) (us : List Value), us.length = ps.length → bindArgs (PySem.W.fnOf x x (defArgs st) (defBody st) (defScope st) .none kV doc pm an cdv ct) ⟨us, []⟩ = pure (ps.zip us)) :
    CalO P w K mg base k x ps sp := by
  obtain ⟨f, fd, F, hm⟩ := D.ex
  exact ⟨f, fd, ok F, hm, F.kp, F.binds h⟩
theorem CalO.at {a : Addr} (C : CalO P w K mg base k x ps sp) (hm : mg x = some (.ref a)) : ∃ fd ps, FnOk P w K mg base (L2.CX P w) k a fd ps sp ∧ PySem.W.keepIn K (.ref a) = true ∧ Binds K fd ps [] := by
  obtain ⟨g, dg, FG, mG, kG, bG⟩ := C.ex
  have e := mG.symm.trans hm
  cases e
  exact ⟨dg, _, FG, kG, bG⟩
end
section
variable {X : Cx} {k : Nat} {ps : List Str} {sp : Sp} {x : Str} {p pos : Pos} {e : Expr} {es : List Expr} {t : TA} {E : L2.St → XK} {Cl : Addr → Sp → Prop} {fe : Expr} {te : TE}
theorem pe_o (C : CalO X.prog X.w X.K X.mg X.base k x ps sp) (hr : Room k X.A) (hx : ∀ σ, PassesAt (L2.CX X.prog X.w) X σ (E σ)) (ha : PA X (e :: es) t) (hg : Gl X x := by rfl) (hdb : (x == ("__debug__" : Str)) = false := by decide)
    (he : starEach (e :: es) X.env = (false, eval e X.env) :: starEach es X.env := by rfl) (hpl : (backTo pos (starEach es X.env)).any (·.1) = false := by rfl) : PE X (.Call (.Name x p) (e :: es) [] pos) (tG sp E t) := by
  obtain ⟨f, fd, F, hm, hk, hb⟩ := C.ex
  refine ⟨fun pins s σ H Q I h => wpAny_Call_Name_kw (ld_glob I hg hm (PySem.W.callWith_K (h₀ := X.base) I.ok.mod.kin hk (thn (ha.run pos pins s σ H _ I h) ?_) he hpl) hdb)⟩
  rintro us s1 ⟨vs, H1, I1, r, q⟩
  refine ⟨I1.kIn, ?_⟩
  have hl : us.length = ps.length := r.length.symm.trans (F.len _ _ _ _ q)
  have b := hb s1 us I1.kIn (by simpa using hl)
  rw [List.append_nil] at b
  refine wpAny_call (codeAny_mono (F.run X.A X.stack s1 H1 ⟨us, []⟩ us vs Q (E σ) hr I1.env0 b r q) fun r s' hq => ?_)
  match r, hq with
  | .error e, hq => exact hx σ pins H1 s1 e s' I1 hq
  | .ok (.ret u), hq => exact I1.after hq
  | .ok .next, hq => exact hq.elim
  | .ok .brk, hq => exact hq.elim
  | .ok .cont, hq => exact hq.elim
theorem pe_calo (hCl : ∀ f sp, Cl f sp → ∃ fd ps, FnOk X.prog X.w X.K X.mg X.base (L2.CX X.prog X.w) k f fd ps sp ∧ PySem.W.keepIn X.K (.ref f) = true ∧ Binds X.K fd ps []) (hr : Room k X.A) (hx : ∀ σ, PassesAt (L2.CX X.prog X.w) X σ (E σ)) (hf : PE X fe te) (ha : PA X (e :: es) t)
    (hev : eval (.Call fe (e :: es) [] pos) X.env = (do callWith pos (← eval fe X.env) [] (backTo pos (starEach (e :: es) X.env)) (backToKw pos (keywordEach [] X.env))) := by rfl)
    (he : starEach (e :: es) X.env = (false, eval e X.env) :: starEach es X.env := by rfl) (hpl : (backTo pos (starEach es X.env)).any (·.1) = false := by rfl) :
    PE X (.Call fe (e :: es) [] pos) (tCalV Cl E te t) := by
  refine ⟨fun pins s σ H Q I h => Call_ (thn (hf.run pins s σ H _ I h) fun u s1 hu => ?_) hev⟩
  obtain ⟨y, H1, I1, r1, f, sp, rfl, cl, q1⟩ := hu
  obtain rfl : u = Value.ref f := r1
  obtain ⟨fd, ps, F, hk, hb⟩ := hCl f sp cl
  refine PySem.W.callWith_K (h₀ := X.base) I1.ok.mod.kin hk (thn (ha.run pos pins s1 σ H1 _ I1 q1) ?_) he hpl
  rintro us s2 ⟨vs, H2, I2, r, q⟩
  refine ⟨I2.kIn, ?_⟩
  have hl : us.length = ps.length := r.length.symm.trans (F.len _ _ _ _ q)
  have b := hb s2 us I2.kIn (by simpa using hl)
  rw [List.append_nil] at b
  refine wpAny_call (codeAny_mono (F.run X.A X.stack s2 H2 ⟨us, []⟩ us vs Q (E σ) hr I2.env0 b r q) fun r s' hq => ?_)
  match r, hq with
  | .error e, hq => exact hx σ pins H2 s2 e s' I2 hq
  | .ok (.ret u), hq => exact I2.after hq
  | .ok .next, hq => exact hq.elim
  | .ok .brk, hq => exact hq.elim
  | .ok .cont, hq => exact hq.elim
theorem r_calv {σ : L2.St} {H : Hp} {Q : VK} (h : te σ H fun u H1 => ∃ f sp, u = .ref f ∧ Cl f sp ∧ t σ H1 fun vs H2 => sp vs H2 Q (E σ)) : tCalV Cl E te t σ H Q := h
end
/-! ### an attribute as a target -/
def gFld (K : PySem.W.Frag) (to : TE) (g : Str) : TG := fun v σ H Q => to σ H fun x H1 => ∃ a C dx fs, x = .ref a ∧ H1 a = some (.ins C dx fs) ∧ Cls K C ∧ NoAttr K C g ∧ fs.length < 1000 ∧ Q σ (upd H1 a (.ins C dx (putF g v fs)))
section
variable {X : Cx} {o : Expr} {to : TE} {g : Str} {pos : Pos}
theorem pg_fld (ho : PE X o to)
    (ha : ∀ v, assign (.Attribute o g pos) X.env v = (do
      let own ← holding [v] (eval o X.env)
      standAt pos.atName
      holding [v, own] (setAttr own g v)
      release [v, own] []) := by intro _; rfl) : PG X (.Attribute o g pos) (gFld X.K to g) := by
  refine ⟨fun pins s σ H v u Q I r h => ?_⟩
  rw [ha]
  refine wpAny_bind (wpAny_holding (thn (ho.run pins s σ H _ I h) fun ov s1 hq => ?_))
  obtain ⟨x, H1, I1, r1, a, C, dx, fs, rfl, ea, c, n, l, q⟩ := hq
  obtain rfl : ov = Value.ref a := r1
  exact wpAny_bind (wpAny_standAt (wpAny_bind (wpAny_holding (setattr_ok I1 ea c n l r fun s2 I2 => wpAny_release ⟨σ, _, I2, q⟩))))
theorem r_gfld {v : V} {σ : L2.St} {H : Hp} {Q : L2.St → Hp → Prop} {K : PySem.W.Frag} (h : to σ H fun x H1 => ∃ a C dx fs, x = .ref a ∧ H1 a = some (.ins C dx fs) ∧ Cls K C ∧ NoAttr K C g ∧ fs.length < 1000 ∧ Q σ (upd H1 a (.ins C dx (putF g v fs)))) : gFld K to g v σ H Q := h
end
theorem r_gc {σ : L2.St} {H : Hp} {QS : L2.St → Hp → Prop} {g : TG} {r : TGs} {v : V} {vs : List V} (h : g v σ H fun s h => r vs s h QS) : gCons g r (v :: vs) σ H QS := ⟨v, vs, rfl, h⟩
theorem r_gn {σ : L2.St} {H : Hp} {QS : L2.St → Hp → Prop} (q : QS σ H) : gNil [] σ H QS := ⟨rfl, q⟩
end Gx
set_option linter.all false
set_option maxRecDepth 100000
set_option maxHeartbeats 4000000
namespace Gx
open PySem PySem.Spec PyProof.Rows L2
/-! ### what stays -/
/-- all but those of l stays; what is a tuple stays -/
structure Chg (l : List Addr) (H H' : Hp) : Prop where
  off : ∀ c u, c ∉ l → H c = some u → H' c = some u
  tup : ∀ c xs, H c = some (.tup xs) → H' c = some (.tup xs)
theorem Same.at {H H' : Hp} {a : Addr} {o : HO} (s : Same H H') (h : H a = some o) : H' a = some o := s _ _ h
theorem Chg.refl {l : List Addr} {H : Hp} : Chg l H H := ⟨fun _ _ _ h => h, fun _ _ h => h⟩
theorem Chg.of {l : List Addr} {H H' : Hp} (s : Same H H') : Chg l H H' := ⟨fun c u _ h => s c u h, fun c _ h => s c _ h⟩
theorem Chg.trans {l : List Addr} {H H1 H2 : Hp} (p : Chg l H H1) (q : Chg l H1 H2) : Chg l H H2 := ⟨fun c u n h => q.off c u n (p.off c u n h), fun c xs h => q.tup c xs (p.tup c xs h)⟩
theorem Chg.up {l m : List Addr} {H H' : Hp} (p : Chg l H H') (s : ∀ a ∈ l, a ∈ m) : Chg m H H' := ⟨fun c u n h => p.off c u (fun z => n (s c z)) h, p.tup⟩
theorem Chg.one {a c : Addr} {H H' : Hp} {u : HO} (p : Chg [a] H H') (n : c ≠ a) (h : H c = some u) : H' c = some u := p.off c u (by simpa using n) h
theorem Chg.upd {a : Addr} {H : Hp} {o u : HO} (ha : H a = some u) (nt : ∀ xs, u ≠ .tup xs) : Chg [a] H (upd H a o) :=
  ⟨fun c v n h => by rw [upd_ne (by simpa using n)]; exact h, fun c xs h => by
    rw [upd_ne fun z => ?_]
    · exact h
    · subst z
      rw [ha] at h
      exact nt xs (Option.some.inj h)⟩
/-- what was new meanwhile may have changed -/
theorem Chg.drop {a : Addr} {l : List Addr} {H H1 H2 : Hp} (n : H a = none) (s : Same H H1) (p : Chg (a :: l) H1 H2) : Chg l H H2 :=
  ⟨fun c u m h => p.off c u (fun z => by
      rcases List.mem_cons.mp z with z | z
      · rw [z, n] at h; cases h
      · exact m z) (s c u h), fun c xs h => p.tup c xs (s c _ h)⟩
theorem Chg.same {H H' : Hp} (p : Chg [] H H') : Same H H' := fun c u h => p.off c u (by simp) h
/-! ### data, dicts of plain values among them, over the tracked heap -/
mutual
inductive Dt (H : Hp) : V → PyData → Prop
  | non : Dt H .non .none
  | bl (b : Bool) : Dt H (.bl b) (.bool b)
  | int (i : Int) : Dt H (.int i) (.int i)
  | str (x : Str) : Dt H (.str x) (.str x)
  | lst {a : Addr} {xs : List V} {ds : List PyData} : H a = some (.lst xs) → DtL H xs ds → Dt H (.ref a) (.list ds)
  | tup {a : Addr} {xs : List V} {ds : List PyData} : H a = some (.tup xs) → DtL H xs ds → Dt H (.ref a) (.tuple ds)
  | dct {a : Addr} {es : List (Key × V)} : H a = some (.dK es) → Dt H (.ref a) (dctD es)
inductive DtL (H : Hp) : List V → List PyData → Prop
  | nil : DtL H [] []
  | cons {v : V} {d : PyData} {vs : List V} {ds : List PyData} : Dt H v d → DtL H vs ds → DtL H (v :: vs) (d :: ds)
end
mutual
theorem Dt.same {H H' : Hp} (s : Same H H') : ∀ {d : PyData} {v : V}, Dt H v d → Dt H' v d
  | _, _, .non => .non
  | _, _, .bl b => .bl b
  | _, _, .int i => .int i
  | _, _, .str x => .str x
  | _, _, .lst h hs => .lst (s _ _ h) (DtL.same s hs)
  | _, _, .tup h hs => .tup (s _ _ h) (DtL.same s hs)
  | _, _, .dct h => .dct (s _ _ h)
theorem DtL.same {H H' : Hp} (s : Same H H') : ∀ {ds : List PyData} {vs : List V}, DtL H vs ds → DtL H' vs ds
  | _, _, .nil => .nil
  | _, _, .cons h hs => .cons (Dt.same s h) (DtL.same s hs)
end
theorem DtL.length {H : Hp} : ∀ {vs : List V} {ds : List PyData}, DtL H vs ds → vs.length = ds.length
  | _, _, .nil => rfl
  | _, _, .cons _ hs => congrArg (· + 1) hs.length
theorem DtL.get {H : Hp} : ∀ {vs : List V} {ds : List PyData} {i : Nat} {v : V}, DtL H vs ds → vs[i]? = some v → ∃ d, ds[i]? = some d ∧ Dt H v d
  | _, _, _, _, .nil, h => by simp at h
  | _, _, 0, _, .cons h _, e => by
    obtain rfl : _ = _ := by simpa using e
    exact ⟨_, rfl, h⟩
  | _, _, i + 1, _, .cons _ hs, e => hs.get (i := i) (by simpa using e)
/-- its kind -/
def tyD : PyData → String
  | .none => "NoneType"
  | .bool _ => "bool"
  | .int _ => "int"
  | .str _ => "str"
  | .list _ => "list"
  | .tuple _ => "tuple"
  | .dict _ => "dict"
theorem Dt.isI {K : PySem.W.Frag} {H : Hp} {v : V} {d : PyData} {T : String} {b : Bool} (h : Dt H v d) (e : kitB (tyD d) T = some b) : IsI K H v T b := by
  cases h with
  | non => exact isI_non e
  | bl b => exact isI_bl e
  | int i => exact isI_int e
  | str x => exact isI_str e
  | lst h _ => exact isI_lst h e
  | tup h _ => exact isI_tup h e
  | dct h => exact isI_dct h e
mutual
/-- no dict within -/
def plainD : PyData → Bool
  | .list ds => plainL ds
  | .tuple ds => plainL ds
  | .dict _ => false
  | _ => true
def plainL : List PyData → Bool
  | [] => true
  | d :: ds => plainD d && plainL ds
end
mutual
theorem Dt.dp {K : PySem.W.Frag} {H : Hp} : ∀ {d : PyData} {v : V}, Dt H v d → plainD d = true → Dp K H v d
  | _, _, .non, _ => .non
  | _, _, .bl b, _ => .bl b
  | _, _, .int i, _ => .int i
  | _, _, .str x, _ => .str x
  | _, _, .lst h hs, p => .lst (SqL.of h) (DtL.dp hs (by simpa [plainD] using p))
  | _, _, .tup h hs, p => .tup (SqT.of h) (DtL.dp hs (by simpa [plainD] using p))
  | _, _, .dct h, p => by simp [dctD, plainD] at p
theorem DtL.dp {K : PySem.W.Frag} {H : Hp} : ∀ {ds : List PyData} {vs : List V}, DtL H vs ds → plainL ds = true → DpAll K H vs ds
  | _, _, .nil, _ => .nil
  | _, _, .cons h hs, p => by
    rw [plainL, Bool.and_eq_true] at p
    exact .cons (Dt.dp h p.1) (DtL.dp hs p.2)
end
theorem DtL.ints {H : Hp} : ∀ (ns : List Int), DtL H (ns.map V.int) (ns.map PyData.int)
  | [] => .nil
  | _ :: r => .cons (.int _) (DtL.ints r)
/-! ### new tuples and lists, their heap left abstract -/
def NewT (xs : List V) (Q : VK) (H : Hp) : Prop := xs.length ≤ sizeLine ∧ ∀ p, H p = none → Q (.ref p) (upd H p (.tup xs))
def NewL (xs : List V) (Q : VK) (H : Hp) : Prop := xs.length ≤ sizeLine ∧ ∀ p, H p = none → Q (.ref p) (upd H p (.lst xs))
section
variable {K : PySem.W.Frag} {σ : L2.St} {H : Hp} {Q : VK} {al : TA} {xs : List V}
theorem r_tupN (h : al σ H fun xs H1 => NewT xs Q H1) : tTup al σ H Q := h
theorem r_lstN (h : al σ H fun xs H1 => NewL xs Q H1) : tLst al σ H Q := h
theorem newT (hz : Nat.ble xs.length 1000 = true) (q : ∀ p H2, H p = none → Same H H2 → H2 p = some (.tup xs) → Q (.ref p) H2) : NewT xs Q H :=
  r_new hz fun p hp => q p _ hp (same_new hp) upd_same
theorem newL (hz : Nat.ble xs.length 1000 = true) (q : ∀ p H2, H p = none → Same H H2 → H2 p = some (.lst xs) → Q (.ref p) H2) : NewL xs Q H :=
  r_new hz fun p hp => q p _ hp (same_new hp) upd_same
/-- t + u of tuples: some tuple of both -/
theorem r_catA {a b : Addr} {ys : List V} (ha : SqT K H a xs) (hb : SqT K H b ys) (hz : xs.length + ys.length ≤ 100000) (q : ∀ p H2, Same H H2 → SqT K H2 p (xs ++ ys) → Q (.ref p) H2) : rCatA K (.ref a) (.ref b) H Q := by
  refine ⟨a, b, xs, ys, rfl, rfl, ha, hb, Nat.le_trans hz (by decide), fun e => ?_, fun _ e => ?_, fun _ _ p hp => q p _ (same_new hp) (SqT.of upd_same)⟩
  · subst e
    exact q b H (Same.refl H) hb
  · subst e
    exact q a H (Same.refl H) (by simpa using ha)
/-- the same of tracked ones -/
theorem r_catT {a b : Addr} {ys : List V} (ha : H a = some (.tup xs)) (hb : H b = some (.tup ys)) (hz : xs.length + ys.length ≤ 100000) (q : ∀ p H2, Same H H2 → H2 p = some (.tup (xs ++ ys)) → Q (.ref p) H2) : rCatA K (.ref a) (.ref b) H Q := by
  refine ⟨a, b, xs, ys, rfl, rfl, SqT.of ha, SqT.of hb, Nat.le_trans hz (by decide), fun e => ?_, fun _ e => ?_, fun _ _ p hp => q p _ (same_new hp) upd_same⟩
  · subst e
    exact q b H (Same.refl H) hb
  · subst e
    exact q a H (Same.refl H) (by simpa using ha)
/-- t[i:j] of a tracked tuple -/
theorem r_slA {a : Addr} {lo hi : Option Int} (ha : H a = some (.tup xs)) (q : ∀ p H2, Same H H2 → H2 p = some (.tup (cutV xs lo hi)) → Q (.ref p) H2) : rSlA K (.ref a) lo hi H Q := by
  refine ⟨a, xs, rfl, SqT.of ha, fun e => q a H (Same.refl H) ?_, fun _ p hp => q p _ (same_new hp) upd_same⟩
  have e2 : cutV xs lo hi = xs := by
    unfold cutV
    rw [e.1, e.2]
    simp
  rw [e2]
  exact ha
end

/-! ### dicts of the text, by their keys -/
def keyS (e : DictEntry) : Option Str := match e.key with
  | .str x _ => some x
  | _ => none
def KEnt (K : PySem.W.Frag) (mg : Str → Option Value) (D : Addr) : List (Str × Str) → Prop
  | [] => True
  | p :: r => (∃ f, PySem.W.nsIn K D p.1 = some (some (.ref f)) ∧ mg p.2 = some (.ref f)) ∧ KEnt K mg D r
def KEntT (K : PySem.W.Frag) (D : Addr) : List (Str × List V) → Prop
  | [] => True
  | p :: r => (∃ t, PySem.W.nsIn K D p.1 = some (some (.ref t)) ∧ ∀ H, SqT K H t p.2) ∧ KEntT K D r
/-- a dict from texts to defs -/
def KTabF (K : PySem.W.Frag) (w : World) (mg : Str → Option Value) (D : Addr) (l : List (Str × Str)) : Prop := ∃ es n, KDict K w D es n ∧ es.toList.map keyS = l.map (fun p => some p.1) ∧ KEnt K mg D l
/-- a dict from texts to tuples -/
def KTabT (K : PySem.W.Frag) (w : World) (D : Addr) (l : List (Str × List V)) : Prop := ∃ es n, KDict K w D es n ∧ es.toList.map keyS = l.map (fun p => some p.1) ∧ KEntT K D l
theorem ns_none {K : PySem.W.Frag} {w : World} {d : Addr} {es : Array DictEntry} {n : Nat} {z : Str} (D : KDict K w d es n) (hz : some z ∉ es.toList.map keyS) : PySem.W.nsIn K d z = some none := by
  have key : ∀ e ∈ es.toList, ∃ x t, e.key = .str x t ∧ x ≠ z := fun e he => by
    obtain ⟨x, t, ek, _⟩ := D.lit.all e he
    refine ⟨x, t, ek, fun q => hz ?_⟩
    rw [← q]
    exact List.mem_map.mpr ⟨e, he, by unfold keyS; rw [ek]⟩
  have h1 : es.toList.find? (·.key.isStr z) = none := by
    rw [List.find?_eq_none]
    intro e he
    obtain ⟨x, t, ek, ne⟩ := key e he
    rw [ek]
    simpa [Value.isStr] using ne
  have h2 : es.toList.any (·.refKey) = false := by
    rw [List.any_eq_false]
    intro e he
    obtain ⟨x, t, ek, _⟩ := key e he
    simp [DictEntry.refKey, ek]
  unfold PySem.W.nsIn
  rw [D.at_]
  simp only [h1, h2]
  rfl
theorem kd_dct {K : PySem.W.Frag} {w : World} {d : Addr} {es : Array DictEntry} {n : Nat} {z : Str} {f : Addr} (D : KDict K w d es n) (h : PySem.W.nsIn K d z = some (some (.ref f))) : KDct K w d z (.ref f) := ⟨es, n, _, D.at_, D.lit, h, rfl⟩
/-! ### whole numbers, texts, names -/
def NoInt (K : PySem.W.Frag) (H : Hp) (v : V) : Prop := (∃ b, v = .bl b) ∨ IsI K H v "int" false
def NoStr (K : PySem.W.Frag) (H : Hp) (v : V) : Prop := IsI K H v "str" false
def lower (c : Nat) : Bool := decide (97 ≤ c) && decide (c ≤ 122)
def nameB (z : Str) : Bool := (decide ((1 : Int) ≤ z.length) && decide ((z.length : Int) ≤ 8)) && z.cps.toList.all lower
theorem lex1 (c d : Nat) : decide (([c] : List Nat) < [d]) = decide (c < d) := by
  refine decide_eq_decide.mpr ⟨fun h => ?_, fun h => List.Lex.rel h⟩
  cases h with
  | rel h => exact h
  | cons h => cases h
def memB (z : Str) (l : List Str) : Bool := inV (.str z) (l.map V.str)
def manners : List Str := ["clip", "wrap", "fold"]
def tables : List Str := ["saw", "square", "tri", "pulse", "hump"]
def wholeD (lo hi : Int) : PyData → Bool
  | .int i => decide (lo ≤ i) && decide (i ≤ hi)
  | _ => false
def nameD : PyData → Bool
  | .str z => nameB z
  | _ => false
def inD (l : List Str) : PyData → Bool
  | .str z => memB z l
  | _ => false
def txtOk : PyData → Bool
  | .str z => decide (z.length ≤ 1000)
  | _ => true
def spNumber (K : PySem.W.Frag) : Sp := fun vs H Q _ => ∃ v bi bb, vs = [v] ∧ IsI K H v "int" bi ∧ (bi = true → IsI K H v "bool" bb) ∧ Q (.bl (bi && !bb)) H
def spWhole (K : PySem.W.Frag) : Sp := fun vs H Q _ => ∃ v lo hi b, vs = [v, .int lo, .int hi] ∧ ((∃ i, v = .int i ∧ b = (decide (lo ≤ i) && decide (i ≤ hi))) ∨ (NoInt K H v ∧ b = false)) ∧ Q (.bl b) H
def spWorth (K : PySem.W.Frag) : Sp := fun vs H Q _ => ∃ v b, vs = [v] ∧ ((∃ i, v = .int i ∧ b = (decide (-2048 ≤ i) && decide (i ≤ 2047))) ∨ (NoInt K H v ∧ b = false)) ∧ Q (.bl b) H
def spName (K : PySem.W.Frag) : Sp := fun vs H Q _ => ∃ v b, vs = [v] ∧ ((∃ z, v = .str z ∧ z.length ≤ 1000 ∧ b = nameB z) ∨ (NoStr K H v ∧ b = false)) ∧ ∀ H', Same H H' → Q (.bl b) H'
/-- whether v is a text of l -/
def spIn (K : PySem.W.Frag) (l : List Str) : Sp := fun vs H Q _ => ∃ v b, vs = [v] ∧ ((∃ z, v = .str z ∧ b = memB z l) ∨ (NoStr K H v ∧ b = false)) ∧ Q (.bl b) H
section
variable {K : PySem.W.Frag} {H : Hp} {v : V} {d : PyData}
theorem Dt.noInt (h : Dt H v d) (n : ∀ i, d ≠ .int i) : NoInt K H v := by
  cases h with
  | bl b => exact .inl ⟨b, rfl⟩
  | int i => exact absurd rfl (n i)
  | non => exact .inr (isI_non (by decide +kernel))
  | str x => exact .inr (isI_str (by decide +kernel))
  | lst h _ => exact .inr (isI_lst h (by decide +kernel))
  | tup h _ => exact .inr (isI_tup h (by decide +kernel))
  | dct h => exact .inr (isI_dct h (by decide +kernel))
theorem Dt.noStr (h : Dt H v d) (n : ∀ z, d ≠ .str z) : NoStr K H v := by
  cases h with
  | bl b => exact isI_bl (by decide +kernel)
  | int i => exact isI_int (by decide +kernel)
  | non => exact isI_non (by decide +kernel)
  | str x => exact absurd rfl (n x)
  | lst h _ => exact isI_lst h (by decide +kernel)
  | tup h _ => exact isI_tup h (by decide +kernel)
  | dct h => exact isI_dct h (by decide +kernel)
theorem sp_whole {Q : VK} {lo hi : Int} {E : XK} (h : Dt H v d) (q : Q (.bl (wholeD lo hi d)) H) : spWhole K [v, .int lo, .int hi] H Q E := by
  by_cases c : ∃ i, d = .int i
  · obtain ⟨i, rfl⟩ := c
    cases h
    exact ⟨_, lo, hi, _, rfl, .inl ⟨i, rfl, rfl⟩, q⟩
  · refine ⟨v, lo, hi, _, rfl, .inr ⟨h.noInt fun i e => c ⟨i, e⟩, ?_⟩, q⟩
    cases d with
    | int i => exact absurd ⟨i, rfl⟩ c
    | _ => rfl
theorem sp_worth {Q : VK} {E : XK} (h : Dt H v d) (q : Q (.bl (wholeD (-2048) 2047 d)) H) : spWorth K [v] H Q E := by
  by_cases c : ∃ i, d = .int i
  · obtain ⟨i, rfl⟩ := c
    cases h
    exact ⟨_, _, rfl, .inl ⟨i, rfl, rfl⟩, q⟩
  · refine ⟨v, _, rfl, .inr ⟨h.noInt fun i e => c ⟨i, e⟩, ?_⟩, q⟩
    cases d with
    | int i => exact absurd ⟨i, rfl⟩ c
    | _ => rfl
theorem sp_in {Q : VK} {E : XK} {l : List Str} (h : Dt H v d) (q : Q (.bl (inD l d)) H) : spIn K l [v] H Q E := by
  by_cases c : ∃ z, d = .str z
  · obtain ⟨z, rfl⟩ := c
    cases h
    exact ⟨_, _, rfl, .inl ⟨z, rfl, rfl⟩, q⟩
  · refine ⟨v, _, rfl, .inr ⟨h.noStr fun i e => c ⟨i, e⟩, ?_⟩, q⟩
    cases d with
    | str i => exact absurd ⟨i, rfl⟩ c
    | _ => rfl
theorem sp_name {Q : VK} {E : XK} (h : Dt H v d) (hz : txtOk d = true) (q : ∀ H', Same H H' → Q (.bl (nameD d)) H') : spName K [v] H Q E := by
  by_cases c : ∃ z, d = .str z
  · obtain ⟨z, rfl⟩ := c
    cases h
    exact ⟨_, _, rfl, .inl ⟨z, rfl, of_decide_eq_true hz, rfl⟩, q⟩
  · refine ⟨v, _, rfl, .inr ⟨h.noStr fun i e => c ⟨i, e⟩, ?_⟩, q⟩
    cases d with
    | str i => exact absurd ⟨i, rfl⟩ c
    | _ => rfl
end
/-! ### worths, tables -/
def dClip (i : Int) : Int := max (-2048) (min 2047 i)
def dWrap (i : Int) : Int := (i + 2048) % 4096 - 2048
def dFold (i : Int) : Int := if (i + 2048) % 8192 < 4096 then (i + 2048) % 8192 - 2048 else 8191 - (i + 2048) % 8192 - 2048
def dBy (z : Str) (i : Int) : Int := if z = "clip" then dClip i else if z = "wrap" then dWrap i else dFold i
def manOk (z : Str) : Prop := z = "clip" ∨ z = "wrap" ∨ z = "fold"
theorem dBy_small {z : Str} {i : Int} : -2048 ≤ dBy z i ∧ dBy z i ≤ 2047 := by
  unfold dBy
  split
  · unfold dClip; omega
  · split
    · unfold dWrap; omega
    · unfold dFold; split <;> omega
theorem man_in {z : Str} (h : manOk z) : memB z manners = true := by
  rcases h with rfl | rfl | rfl <;> decide +kernel
def gSaw (p : Int) : Int := 64 * p - 2048
def gSquare (p : Int) : Int := if p < 32 then 2047 else -2048
def gTri (p : Int) : Int := if p < 32 then 128 * p - 2048 else 2047 - 128 * (p - 32)
def gPulse (p : Int) : Int := if p < 8 then 2047 else -2048
def gHump (p : Int) : Int := if p < 32 then min 2047 (8 * p * (32 - p)) else 0 - 8 * (p - 32) * (64 - p)
def tabOk (z : Str) : Prop := z = "saw" ∨ z = "square" ∨ z = "tri" ∨ z = "pulse" ∨ z = "hump"
def gTab (z : Str) (p : Int) : Int := if z = "saw" then gSaw p else if z = "square" then gSquare p else if z = "tri" then gTri p else if z = "pulse" then gPulse p else gHump p
theorem tab_in {z : Str} (h : tabOk z) : memB z tables = true := by
  rcases h with rfl | rfl | rfl | rfl | rfl <;> decide +kernel
theorem gTab_small {z : Str} {p : Int} (h : tabOk z) (h0 : 0 ≤ p) (h1 : p < 64) : -2048 ≤ gTab z p ∧ gTab z p ≤ 2047 := by
  have all : ∀ g : Int → Int, ((List.range 64).all fun n => decide (-2048 ≤ g n ∧ g n ≤ 2047)) = true → -2048 ≤ g p ∧ g p ≤ 2047 := fun g hg => by
    have q := of_decide_eq_true (List.all_eq_true.mp hg p.toNat (List.mem_range.mpr (by omega)))
    rwa [Int.toNat_of_nonneg h0] at q
  rcases h with rfl | rfl | rfl | rfl | rfl <;> exact all _ (by decide +kernel)
theorem okUp {P : Program} {w : World} {K : PySem.W.Frag} {mg : Str → Option Value} {base : Heap} {CX : CXT} {k j : Nat} {f : Addr} {fd : FuncData} {ps : List Str} {sp : Sp} (F : FnOk P w K mg base CX k f fd ps sp) (h : k ≤ j) : FnOk P w K mg base CX j f fd ps sp :=
  ⟨F.len, fun A o s H args us vs Q E hr => F.run A o s H args us vs Q E (hr.mono h)⟩
end Gx
set_option linter.all false
set_option maxRecDepth 100000
set_option maxHeartbeats 4000000
namespace Gx
open PySem PySem.Spec PyProof.Rows L2
/-! ### parts, as data -/
def factorsD (most : Int) : PyData → Bool
  | .tuple ds => (decide ((1 : Int) ≤ ds.length) && decide ((ds.length : Int) ≤ most)) && (ds.map (wholeD (-256) 256)).all id
  | _ => false
def cFrom : List PyData → Bool
  | [_, n] => nameD n
  | _ => false
def cWave : List PyData → Bool
  | [_, t, s] => inD tables t && wholeD 0 2048 s
  | _ => false
def cNoise : List PyData → Bool
  | [_, n] => wholeD 0 4095 n
  | _ => false
def cShape : List PyData → Bool
  | [_, u, d, s, a] => wholeD 0 2047 s && ([u, d, a].map (wholeD 1 2047)).all id
  | _ => false
def cFac (most : Int) : List PyData → Bool
  | [_, f, m] => factorsD most f && inD manners m
  | _ => false
def cTimes : List PyData → Bool
  | [_, m] => inD manners m
  | _ => false
def cDelay : List PyData → Bool
  | [_, n] => wholeD 1 64 n
  | _ => false
def cFollow : List PyData → Bool
  | [_, n] => wholeD 1 2047 n
  | _ => false
def kindD (k : Str) (ds : List PyData) : Bool :=
  if k = "from" then cFrom ds else if k = "wave" then cWave ds else if k = "slow" then cWave ds else if k = "noise" then cNoise ds else if k = "shape" then cShape ds
  else if k = "taps" then cFac 8 ds else if k = "mix" then cFac 4 ds else if k = "times" then cTimes ds else if k = "delay" then cDelay ds else if k = "follow" then cFollow ds else false
def partD : PyData → Bool
  | .tuple (.str k :: r) => kindD k (.str k :: r)
  | _ => false
def tupOk : PyData → Bool
  | .tuple ds => ds.all txtOk
  | _ => true
theorem cFrom_ne {ds : List PyData} (h : ds.length ≠ 2) : cFrom ds = false := by
  rcases ds with _ | ⟨_, _ | ⟨_, _ | ⟨_, _⟩⟩⟩ <;> first | rfl | exact absurd rfl h
theorem cNoise_ne {ds : List PyData} (h : ds.length ≠ 2) : cNoise ds = false := by
  rcases ds with _ | ⟨_, _ | ⟨_, _ | ⟨_, _⟩⟩⟩ <;> first | rfl | exact absurd rfl h
theorem cTimes_ne {ds : List PyData} (h : ds.length ≠ 2) : cTimes ds = false := by
  rcases ds with _ | ⟨_, _ | ⟨_, _ | ⟨_, _⟩⟩⟩ <;> first | rfl | exact absurd rfl h
theorem cDelay_ne {ds : List PyData} (h : ds.length ≠ 2) : cDelay ds = false := by
  rcases ds with _ | ⟨_, _ | ⟨_, _ | ⟨_, _⟩⟩⟩ <;> first | rfl | exact absurd rfl h
theorem cFollow_ne {ds : List PyData} (h : ds.length ≠ 2) : cFollow ds = false := by
  rcases ds with _ | ⟨_, _ | ⟨_, _ | ⟨_, _⟩⟩⟩ <;> first | rfl | exact absurd rfl h
theorem cWave_ne {ds : List PyData} (h : ds.length ≠ 3) : cWave ds = false := by
  rcases ds with _ | ⟨_, _ | ⟨_, _ | ⟨_, _ | ⟨_, _⟩⟩⟩⟩ <;> first | rfl | exact absurd rfl h
theorem cFac_ne {n : Int} {ds : List PyData} (h : ds.length ≠ 3) : cFac n ds = false := by
  rcases ds with _ | ⟨_, _ | ⟨_, _ | ⟨_, _ | ⟨_, _⟩⟩⟩⟩ <;> first | rfl | exact absurd rfl h
theorem cShape_ne {ds : List PyData} (h : ds.length ≠ 5) : cShape ds = false := by
  rcases ds with _ | ⟨_, _ | ⟨_, _ | ⟨_, _ | ⟨_, _ | ⟨_, _ | ⟨_, _⟩⟩⟩⟩⟩⟩ <;> first | rfl | exact absurd rfl h
theorem cShape5 {d0 u d s a : PyData} : cShape [d0, u, d, s, a] = (wholeD 0 2047 s && ([u, d, a].map (wholeD 1 2047)).all id) := rfl
theorem cFac3 {n : Int} {d0 f m : PyData} : cFac n [d0, f, m] = (factorsD n f && inD manners m) := rfl
theorem factorsD_tup {n : Int} {ds : List PyData} : factorsD n (.tuple ds) = ((decide ((1 : Int) ≤ ds.length) && decide ((ds.length : Int) ≤ n)) && (ds.map (wholeD (-256) 256)).all id) := rfl
theorem len_ne {n : Nat} {m : Int} (h : (n : Int) ≠ m) : decide (V.int (n : Int) = V.int m) = false := decide_eq_false fun z => h (V.int.inj z)
theorem len_ne' {n : Nat} {m : Int} (h : (n : Int) ≠ m) : (!decide (V.int (n : Int) = V.int m)) = true := by rw [len_ne h]; rfl
section
variable {K : PySem.W.Frag} {H : Hp} {xs : List V} {ds : List PyData}
theorem len2 (h : DtL H xs ds) : (∃ v0 v1 d0 d1, xs = [v0, v1] ∧ ds = [d0, d1] ∧ Dt H v0 d0 ∧ Dt H v1 d1) ∨ ((xs.length : Int) ≠ 2 ∧ ds.length ≠ 2) := by
  have e := h.length
  cases h with
  | nil => exact .inr ⟨by simp, by simp⟩
  | cons h0 h => cases h with
    | nil => exact .inr ⟨by simp, by simp⟩
    | cons h1 h => cases h with
      | nil => exact .inl ⟨_, _, _, _, rfl, rfl, h0, h1⟩
      | cons h2 h => exact .inr ⟨by simp only [List.length_cons]; omega, by simp only [List.length_cons]; omega⟩
theorem len3 (h : DtL H xs ds) : (∃ v0 v1 v2 d0 d1 d2, xs = [v0, v1, v2] ∧ ds = [d0, d1, d2] ∧ Dt H v0 d0 ∧ Dt H v1 d1 ∧ Dt H v2 d2) ∨ ((xs.length : Int) ≠ 3 ∧ ds.length ≠ 3) := by
  cases h with
  | nil => exact .inr ⟨by simp, by simp⟩
  | cons h0 h => cases h with
    | nil => exact .inr ⟨by simp, by simp⟩
    | cons h1 h => cases h with
      | nil => exact .inr ⟨by simp, by simp⟩
      | cons h2 h => cases h with
        | nil => exact .inl ⟨_, _, _, _, _, _, rfl, rfl, h0, h1, h2⟩
        | cons h3 h => exact .inr ⟨by simp only [List.length_cons]; omega, by simp only [List.length_cons]; omega⟩
theorem len5 (h : DtL H xs ds) : (∃ v0 v1 v2 v3 v4 d0 d1 d2 d3 d4, xs = [v0, v1, v2, v3, v4] ∧ ds = [d0, d1, d2, d3, d4] ∧ Dt H v0 d0 ∧ Dt H v1 d1 ∧ Dt H v2 d2 ∧ Dt H v3 d3 ∧ Dt H v4 d4) ∨ ((xs.length : Int) ≠ 5 ∧ ds.length ≠ 5) := by
  cases h with
  | nil => exact .inr ⟨by simp, by simp⟩
  | cons h0 h => cases h with
    | nil => exact .inr ⟨by simp, by simp⟩
    | cons h1 h => cases h with
      | nil => exact .inr ⟨by simp, by simp⟩
      | cons h2 h => cases h with
        | nil => exact .inr ⟨by simp, by simp⟩
        | cons h3 h => cases h with
          | nil => exact .inr ⟨by simp, by simp⟩
          | cons h4 h => cases h with
            | nil => exact .inl ⟨_, _, _, _, _, _, _, _, _, _, rfl, rfl, h0, h1, h2, h3, h4⟩
            | cons h5 h => exact .inr ⟨by simp only [List.length_cons]; omega, by simp only [List.length_cons]; omega⟩
theorem Dt.noTup {v : V} {d : PyData} (h : Dt H v d) (n : ∀ ds, d ≠ .tuple ds) : IsI K H v "tuple" false := by
  cases h with
  | bl b => exact isI_bl (by decide +kernel)
  | int i => exact isI_int (by decide +kernel)
  | non => exact isI_non (by decide +kernel)
  | str x => exact isI_str (by decide +kernel)
  | lst h _ => exact isI_lst h (by decide +kernel)
  | tup h _ => exact absurd rfl (n _)
  | dct h => exact isI_dct h (by decide +kernel)
end
/-! ### a comprehension of truths over a tuple of data -/
theorem r_iTup {K : PySem.W.Frag} {σ : L2.St} {H : Hp} {tl : TE} {R : It → Hp → Prop} (h : tl σ H fun v H1 => ∃ a, v = .ref a ∧ (∃ xs, SqT K H1 a xs) ∧ R (Itt K a) H1) : iTup K tl σ H R := h
theorem lc_tp {K : PySem.W.Frag} {σ : L2.St} {H : Hp} {Q : VK} {g : TG} {te : TE} {tt : TT} {vs : List Nat} {a : Addr} {xs : List V} (Pv : Addr → Nat → Hp → Prop) (h0 : ∀ p, H p = none → Pv p 0 (upd H p (.lst []))) (hl : ∀ p, H p = none → ∀ i h, i ≤ xs.length → Pv p i h → SqT K h a xs)
    (hs : ∀ p, H p = none → ∀ i x h, xs[i]? = some x → Pv p i h → g x (wipe σ vs) h fun s2 h2 => wipe s2 vs = wipe σ vs ∧ tt s2 h2 fun b h3 => if b = true then te s2 h3 fun y h4 => ∃ acc, h4 p = some (.lst acc) ∧ acc.length < sizeLine ∧ Pv p (i + 1) (upd h4 p (.lst (acc ++ [y]))) else Pv p (i + 1) h3)
    (hd : ∀ p, H p = none → ∀ h, Pv p xs.length h → Q (.ref p) h) : Lc (Itt K a) g tt te vs Q σ H := fun p hp => by
  refine lc_it (walk_tup (xs := xs)) (Pv p) (h0 p hp) (fun i h hi q => hl p hp i h hi q) (fun i x h h' hi q y => ?_) (hd p hp)
  obtain ⟨rfl, e⟩ := y
  exact hs p hp i x _ e q
theorem take_map_next {α β : Type} {f : α → β} {l : List α} {i : Nat} {x : α} (h : l[i]? = some x) : (l.take (i + 1)).map f = (l.take i).map f ++ [f x] := by
  rw [take_next h, List.map_append]
  rfl
/-- each item's truth; heaps may grow -/
theorem lc_allT {K : PySem.W.Frag} {σ : L2.St} {H : Hp} {Q : VK} {te : TE} {vs : List Nat} {j : Nat} {a : Addr} {xs : List V} {ds : List PyData} (f : PyData → Bool) (hx : H a = some (.tup xs)) (hd : DtL H xs ds) (hz : ds.length ≤ 1000)
    (hw : ∀ x, wipe ((wipe σ vs).set j (some x)) vs = wipe σ vs)
    (he : ∀ x d H1 (R : VK), Same H H1 → Dt H1 x d → (∀ H2, Same H1 H2 → R (.bl (f d)) H2) → te ((wipe σ vs).set j (some x)) H1 R)
    (q : ∀ D H2, Same H H2 → H2 D = some (.lst ((ds.map f).map V.bl)) → Q (.ref D) H2) : Lc (Itt K a) (gName j) tYes te vs Q σ H := by
  refine lc_tp (xs := xs) (fun D i h => h D = some (.lst (((ds.take i).map f).map V.bl)) ∧ Same H h) (fun D hD => ⟨upd_same, same_new hD⟩) (fun D hD i h _ q => SqT.of (q.2 _ _ hx)) (fun D hD i x h hi q1 => ?_) (fun D hD h q1 => ?_)
  · obtain ⟨e1, s1⟩ := q1
    obtain ⟨d, hdi, hxd⟩ := hd.get hi
    refine ⟨hw _, r_yes (iteT ?_)⟩
    refine he x d h _ s1 (hxd.same s1) fun H2 s2 => ⟨_, s2 _ _ e1, ?_, ?_, ?_⟩
    · have := (List.getElem?_eq_some_iff.mp hdi).1
      rw [List.length_map, List.length_map, List.length_take, sizeLine_eq]
      omega
    · rw [upd_same, take_map_next hdi, List.map_append]
      rfl
    · exact same_upd hD (s1.trans s2)
  · obtain ⟨e1, s1⟩ := q1
    refine q D h s1 ?_
    rw [hd.length, List.take_length] at e1
    exact e1
/-! ### what the checks ask -/
def spChk (c : List PyData → Bool) : Sp := fun vs H Q _ => ∃ a xs ds, vs = [.ref a] ∧ H a = some (.tup xs) ∧ DtL H xs ds ∧ ds.all txtOk = true ∧ ∀ H', Same H H' → Q (.bl (c ds)) H'
def spFac : Sp := fun vs H Q _ => ∃ v d most, vs = [v, .int most] ∧ Dt H v d ∧ most ≤ 100 ∧ ∀ H', Same H H' → Q (.bl (factorsD most d)) H'
def spPart : Sp := fun vs H Q _ => ∃ v d, vs = [v] ∧ Dt H v d ∧ tupOk d = true ∧ ∀ H', Same H H' → Q (.bl (partD d)) H'
theorem all_bl {bs : List Bool} : ((bs.map V.bl) = bs.map V.bl) := rfl
theorem kind_cases (k : Str) : k = "from" ∨ k = "wave" ∨ k = "slow" ∨ k = "noise" ∨ k = "shape" ∨ k = "taps" ∨ k = "mix" ∨ k = "times" ∨ k = "delay" ∨ k = "follow" ∨ (some k ∉ [some ("from" : Str), some "wave", some "slow", some "noise", some "shape", some "taps", some "mix", some "times", some "delay", some "follow"] ∧ ∀ ds, kindD k ds = false) := by
  by_cases h1 : k = "from"; · exact .inl h1
  by_cases h2 : k = "wave"; · exact .inr (.inl h2)
  by_cases h3 : k = "slow"; · exact .inr (.inr (.inl h3))
  by_cases h4 : k = "noise"; · exact .inr (.inr (.inr (.inl h4)))
  by_cases h5 : k = "shape"; · exact .inr (.inr (.inr (.inr (.inl h5))))
  by_cases h6 : k = "taps"; · exact .inr (.inr (.inr (.inr (.inr (.inl h6)))))
  by_cases h7 : k = "mix"; · exact .inr (.inr (.inr (.inr (.inr (.inr (.inl h7))))))
  by_cases h8 : k = "times"; · exact .inr (.inr (.inr (.inr (.inr (.inr (.inr (.inl h8)))))))
  by_cases h9 : k = "delay"; · exact .inr (.inr (.inr (.inr (.inr (.inr (.inr (.inr (.inl h9))))))))
  by_cases h10 : k = "follow"; · exact .inr (.inr (.inr (.inr (.inr (.inr (.inr (.inr (.inr (.inl h10)))))))))
  refine .inr (.inr (.inr (.inr (.inr (.inr (.inr (.inr (.inr (.inr ⟨?_, fun ds => ?_⟩)))))))))
  · simp [h1, h2, h3, h4, h5, h6, h7, h8, h9, h10]
  · unfold kindD
    rw [if_neg h1, if_neg h2, if_neg h3, if_neg h4, if_neg h5, if_neg h6, if_neg h7, if_neg h8, if_neg h9, if_neg h10]
end Gx
set_option linter.all false
set_option maxRecDepth 100000
set_option maxHeartbeats 4000000
namespace Gx
open PySem PySem.Spec PyProof.Rows L2
/-! ### lists and tuples alike: enumerate, zip -/
inductive Sk where
  | l | t
def SqK : Sk → PySem.W.Frag → Hp → Addr → List V → Prop
  | .l => SqL
  | .t => SqT
def ItrK : Sk → Heap → Addr → Addr → Nat → Prop
  | .l => fun h it a i => h.IsListIter it a i
  | .t => fun h it a i => h.IsTupleIter it a i
def IsK : Sk → Heap → Addr → Array Value → Prop
  | .l => fun h a its => h.IsList a its
  | .t => fun h a its => h.IsTuple a its
def objK : Sk → Addr → Obj
  | .l => fun a => { cls := .type "list_iterator", data := .fields #[.ref a, .int 0 0] }
  | .t => fun a => { cls := .type "tuple_iterator", data := .fields #[.ref a, .int 0 0] }
section
variable {X : Cx} {pins : List (Addr × Obj)} {σ : L2.St} {H : Hp} {s : Shared} {a : Addr} {xs ys : List V} {k : Sk}
theorem seqK (I : Inv X pins σ H s) (h : SqK k X.K H a xs) : ∃ its : List Value, Vals xs its ∧ IsK k s.heap a its.toArray := by
  cases k with
  | l =>
    obtain ⟨its, r, p, _⟩ := I.list h
    exact ⟨its, r, p.isList⟩
  | t =>
    obtain ⟨its, r, p, _⟩ := I.tuple h
    exact ⟨its, r, p⟩
theorem seqK_inj (I : Inv X pins σ H s) (h : SqK k X.K H a xs) (h' : SqK k X.K H a ys) : xs = ys := by
  cases k with
  | l => exact I.list_inj h h'
  | t => exact I.tuple_inj h h'
theorem isK_lt {h : Heap} {its : Array Value} (q : IsK k h a its) : a < h.objs.size := by
  cases k with
  | l =>
    obtain ⟨o, ho, _⟩ := q
    exact Heap.lt_size ho
  | t =>
    obtain ⟨o, ho, _⟩ := q
    exact Heap.lt_size ho
theorem drawsK {prog : Program} {w : World} {A : Around} (hh : A.handled = none) (k : Sk) (it a : Addr) (hne : a ≠ it) (its : Array Value) :
    Draws prog w A it [it, a] its.size (fun i v => its[i]? = some v) (fun i h => ItrK k h it a i ∧ IsK k h a its) := by
  cases k with
  | l => exact Draws.list hh it a hne its
  | t => exact Draws.tuple hh it a hne its
theorem beginsK (k : Sk) (a : Addr) (its : Array Value) : Begins (.ref a) (objK k a) fun h => IsK k h a its := by
  cases k with
  | l => exact begins_list a its
  | t => exact begins_tuple a its
theorem itrK_new {h : Heap} {it : Addr} (e : h.get? it = some (objK k a)) : ItrK k h it a 0 := by
  cases k with
  | l => exact ⟨_, e, rfl, rfl⟩
  | t => exact ⟨_, e, rfl, rfl⟩
theorem itrK_obj {h : Heap} {it : Addr} {i : Nat} (q : ItrK k h it a i) : ∃ o, h.get? it = some o ∧ ∀ v, o.data ≠ .cell v := by
  cases k with
  | l =>
    obtain ⟨o, ho, _, hd⟩ := q
    exact ⟨o, ho, fun v z => by rw [hd] at z; cases z⟩
  | t =>
    obtain ⟨o, ho, _, hd⟩ := q
    exact ⟨o, ho, fun v z => by rw [hd] at z; cases z⟩
theorem itrK_keep {h h' : Heap} {it : Addr} {i : Nat} (q : ItrK k h it a i) (e : ∀ o, h.get? it = some o → h'.get? it = some o) : ItrK k h' it a i := by
  cases k with
  | l =>
    obtain ⟨o, ho, r⟩ := q
    exact ⟨o, e o ho, r⟩
  | t =>
    obtain ⟨o, ho, r⟩ := q
    exact ⟨o, e o ho, r⟩
end
/-- new pairs, those of the list that G tells -/
def Itp (G : Hp → List (V × V) → Prop) : It :=
  ⟨fun i H => ∃ ps p, G H ps ∧ ps[i]? = some p, fun i H v H' => ∃ T p, v = .ref T ∧ H T = none ∧ H' = upd H T (.tup [p.1, p.2]) ∧ ∀ ps, G H ps → ps[i]? = some p, fun i H => ∃ ps, G H ps ∧ ps.length = i⟩
theorem walk_pairs {G : Hp → List (V × V) → Prop} {ps : List (V × V)} : Walk (Itp G) ps.length (fun H => G H ps) (YPair (fun i => ps[i]?.map Prod.fst) (fun i => ps[i]?.map Prod.snd)) := by
  refine ⟨fun i H hi q => ⟨ps, ps[i], q, by simp [hi]⟩, fun H q => ⟨ps, q, rfl⟩, fun i H v H' _ q y => ?_⟩
  obtain ⟨T, p, h1, h2, h3, h4⟩ := y
  have e := h4 ps q
  exact ⟨T, p.1, p.2, h1, h2, h3, by simp [e], by simp [e]⟩
theorem turn_pairs {P : Program} {w : World} {K : PySem.W.Frag} {G : Hp → List (V × V) → Prop} {elts : List Expr} {kk : Nat} {tpos : Pos} {fp wr : List Addr} {z : Addr} {tn : Nat → Heap → Prop}
    (mem : z ∈ fp) (sub : ∀ b ∈ wr, b ∈ fp) (obj : ∀ i h, tn i h → ∀ b ∈ fp, ∃ o, h.get? b = some o ∧ ∀ v, o.data ≠ .cell v)
    (keep : ∀ i h h', tn i h → (∀ b ∈ fp, ∀ o, h.get? b = some o → h'.get? b = some o) → tn i h')
    (inj : ∀ (X : Cx) (pins : List (Addr × Obj)) (σ : L2.St) (H : Hp) (s : Shared) (ps qs : List (V × V)), X.K = K → Inv X pins σ H s → G H ps → G H qs → ps = qs)
    (walk : ∀ (X : Cx) (i : Nat) (pins : List (Addr × Obj)) (σ : L2.St) (H : Hp) (s : Shared) (ps : List (V × V)), X.prog = P → X.w = w → X.K = K → X.calm = true → Inv X pins σ H s → G H ps → tn i s.heap →
      ∃ (fp' : List Addr) (Pt : Nat → Array Value → Prop) (St : Nat → Heap → Prop) (Mid : Nat → Addr → Heap → Prop), WalksT P w X.A z fp' wr ps.length Pt St Mid ∧ St i s.heap ∧ (∀ h', St (i + 1) h' → tn (i + 1) h') ∧
        ∀ vals, i < ps.length → Pt i vals → ∃ p u1 u2, ps[i]? = some p ∧ vals = #[u1, u2] ∧ RelV p.1 u1 ∧ RelV p.2 u2)
    (self : ∀ (A : Around) (i : Nat) (s : Shared) (Q : Value → Shared → Prop) (E : Value → Shared → Prop), tn i s.heap → Q (.ref z) s → wpAny (model P w) A (pyIter (.ref z)) Q E s) :
    Turn P w K (.Tuple elts kk tpos) (Itp G) fp z tn where
  mem := mem
  obj := obj
  keep := keep
  item := by
    intro X hP hw hK hc i pins s σ H E I hf st hg
    obtain ⟨ps, p, hG, hp⟩ := hg
    have hi : i < ps.length := (List.getElem?_eq_some_iff.mp hp).1
    obtain ⟨fp', Pt, St, Mid, W, hst, next, pair⟩ := walk X i pins σ H s ps hP hw hK hc I hG st
    refine W.item i s _ _ hi hst fun T vals h1 tk hPt hT ht hm k1 => ⟨.ref T, rfl, ?_⟩
    obtain ⟨p', u1, u2, e1, rfl, r1, r2⟩ := pair vals hi hPt
    have ep : p' = p := by rw [e1] at hp; exact Option.some.inj hp
    subst ep
    refine W.go elts kk tpos i T { s with heap := h1, toks := tk } _ _ hm fun h2 hst2 k2 => ?_
    have apart := W.apart i T h1 hm
    have hn : H T = none := I.hok.fresh hT
    have new : ObjOk X.prog X.w (upd H T (.tup [p'.1, p'.2])) h2 T (.tup [p'.1, p'.2]) := by
      obtain ⟨o, ho, hc, n, hd⟩ := ht
      exact ⟨by show 2 ≤ sizeLine; decide, [u1, u2], .cons r1 (.cons r2 .nil), ⟨o, k2 T o apart ho, hc, n, hd⟩⟩
    have I1 : Inv X pins σ (upd H T (.tup [p'.1, p'.2])) { s with heap := h2, toks := tk } :=
      I.turnedNew (t' := tk) (ch := wr) (fun b o hb q => k2 b o hb (k1 b o hb q)) (fun b hb => hf b (sub b hb)) hT new
    refine ⟨.ref T, _, I1, rfl, ⟨T, p', rfl, hn, rfl, fun qs hq => ?_⟩, next h2 hst2, fun b hb => ?_⟩
    · rw [inj X pins σ H s qs ps hK I hq hG]
      exact e1
    · obtain ⟨o, ho, _⟩ := obj i s.heap st b hb
      rw [upd_ne (Nat.ne_of_lt (Nat.lt_of_lt_of_le (Heap.lt_size ho) hT))]
      exact (hf b hb).1
  done := by
    intro X hP hw hK hc i pins s σ H E I hf st hg
    obtain ⟨ps, hG, rfl⟩ := hg
    obtain ⟨fp', Pt, St, Mid, W, hst, _, _⟩ := walk X ps.length pins σ H s ps hP hw hK hc I hG st
    exact W.done s _ _ hst fun h1 tk k1 => ⟨rfl, I.turnedL (t' := tk) (ch := wr) (fun b o hb q => k1 b o hb q) fun b hb => hf b (sub b hb)⟩
  self := self
/-! ### enumerate -/
theorem mt_enum1 {v : Value} {o : Obj} {S : Heap → Prop} (B : Begins v o S) : Meets (Builtin.«enumerate.__new__» ⟨[.type "enumerate", v], []⟩) (fun _ R s => S s.heap ∧ R (.ok (.ret (.ref (s.heap.push o).objs.size))) { s with heap := (s.heap.push o).push { cls := .type "enumerate", data := .fields #[.none, .bool false, .ref s.heap.objs.size, rawInt 0, .none, .none] } }) := .of_wp fun P w A R s h => by
  obtain ⟨hp, g, d, tk, os⟩ := s
  obtain ⟨hs, q⟩ := h
  have su := sub_enumerate
  have it : ∀ {A' : Around} {E Q : Value → Shared → Prop}, Q (.ref hp.objs.size) ⟨hp.push o, g, d, tk, os⟩ → wpAny (model P w) A' (pyIter v) Q E ⟨hp, g, d, tk, os⟩ := fun z => B.iter P w _ _ ⟨hp, g, d, tk, os⟩ _ hs z
  wp_walk using it; refine wpAny_stack_any fun _ => wpAny_pure ?_
  split
  · rename_i c _ _ _ _ _; cases (c == Value.type "enumerate") <;> (wp_walk using it; exact ⟨_, rfl, q⟩)
  · wp_walk using it; exact ⟨_, rfl, q⟩
theorem enum_begins1 {P : Program} {w : World} {A : Around} {E : Value → Shared → Prop} {s : Shared} {v : Value} {o : Obj} {S : Heap → Prop} {Q : Value → Shared → Prop} (B : Begins v o S) (hs : S s.heap)
    (q : ∀ h', IsEnum h' (s.heap.objs.size + 1) s.heap.objs.size 0 .none → h'.get? s.heap.objs.size = some o → h'.objs.size = s.heap.objs.size + 2 → (∀ b u, s.heap.get? b = some u → h'.get? b = some u) → Q (.ref (s.heap.objs.size + 1)) { s with heap := h' }) :
    wpAny (model P w) A (call (.type "enumerate") [v]) Q E s := by
  refine callType_new F.called_enumerate (by decide) (F.typeCall_enumerate_1 _) (F.newCall_enumerate_1 _) (fun obj => F.args_object_init_2 obj _) F.entry_enumerate_new (mt_enum1 B) ⟨hs, ?_⟩
  have sz : (s.heap.push o).objs.size = s.heap.objs.size + 1 := Heap.size_push ..
  have ge : IsEnum ((s.heap.push o).push { cls := .type "enumerate", data := .fields #[.none, .bool false, .ref s.heap.objs.size, rawInt 0, .none, .none] }) (s.heap.objs.size + 1) s.heap.objs.size 0 .none := sz ▸ Heap.get?_push_size (s.heap.push o) rfl
  show _ ∧ _
  rw [sz]
  exact ⟨⟨_, ge, rfl⟩, q _ ge (Heap.get?_push_of_some _ (Heap.get?_push_size _ B.free)) (by rw [Heap.size_push, sz]) fun b u z => Heap.get?_push_of_some _ (Heap.get?_push_of_some _ z)⟩
def enumL (xs : List V) : List (V × V) := (List.range xs.length).zip xs |>.map fun p => (.int (p.1 : Nat), p.2)
theorem enumL_get {xs : List V} {i : Nat} {x : V} (h : xs[i]? = some x) : (enumL xs)[i]? = some (.int (i : Nat), x) := by
  have hi := (List.getElem?_eq_some_iff.mp h).1
  unfold enumL
  have e : ((List.range xs.length).zip xs)[i]? = some (i, x) := List.getElem?_zip_eq_some.mpr ⟨by simp [hi], h⟩
  rw [List.getElem?_map, e]
  rfl
theorem enumL_len {xs : List V} : (enumL xs).length = xs.length := by simp [enumL]
def GEnum (k : Sk) (K : PySem.W.Frag) (a : Addr) : Hp → List (V × V) → Prop := fun H ps => ∃ xs, SqK k K H a xs ∧ ps = enumL xs
theorem turn_enumK {P : Program} {w : World} {K : PySem.W.Frag} {elts : List Expr} {kk : Nat} {tpos : Pos} {k : Sk} {a e it : Addr} (hne : e ≠ it) (hae : a ≠ e) (hai : a ≠ it) :
    Turn P w K (.Tuple elts kk tpos) (Itp (GEnum k K a)) [e, it] e (fun i h => (∃ old, IsEnum h e it (0 + (i : Int)) old) ∧ ItrK k h it a i) := by
  refine turn_pairs (wr := [e, it]) (by simp) (fun b h => h) (fun i h st b hb => ?_) (fun i h h' st q => ?_) (fun X pins σ H s ps qs hK I h1 h2 => ?_) (fun X i pins σ H s ps hP hw hK hc I hG st => ?_) (fun A i s Q E st h => ?_)
  · obtain ⟨⟨old, he⟩, hi⟩ := st
    have eb : b = e ∨ b = it := by simpa using hb
    rcases eb with rfl | rfl
    · exact ⟨_, he, fun v q => nomatch q⟩
    · exact itrK_obj hi
  · obtain ⟨⟨old, he⟩, hi⟩ := st
    exact ⟨⟨old, q e (by simp) _ he⟩, itrK_keep hi fun o => q it (by simp) o⟩
  · subst hK
    obtain ⟨xs, h1, rfl⟩ := h1
    obtain ⟨ys, h2, rfl⟩ := h2
    rw [seqK_inj I h1 h2]
  · subst hP hw hK
    obtain ⟨⟨old, he⟩, hi⟩ := st
    obtain ⟨xs, hx, rfl⟩ := hG
    obtain ⟨its, rv, hk⟩ := seqK I hx
    have D := drawsK (prog := X.prog) (w := X.w) (A := X.A.in1) (I.ok.hd hc) k it a hai its.toArray
    have W := WalksT.enumFrom 0 D e hne (by simp [hne, Ne.symm hae]) (by simp)
    have len : its.toArray.size = (enumL xs).length := by rw [enumL_len, List.size_toArray, rv.length]
    rw [len] at W
    refine ⟨_, _, _, _, W, ⟨⟨old, he⟩, hi, hk⟩, fun h' st' => ⟨st'.1, st'.2.1⟩, fun vals hlt hp => ?_⟩
    obtain ⟨t, x, hx2, rfl⟩ := hp
    have hx3 : its[i]? = some x := by simpa using hx2
    rw [enumL_len] at hlt
    obtain ⟨u, hu, ru⟩ := rv.get (List.getElem?_eq_getElem hlt)
    have : u = x := by rw [hu] at hx3; exact Option.some.inj hx3
    subst this
    exact ⟨_, _, _, enumL_get (List.getElem?_eq_getElem hlt), rfl, ⟨t, by simp⟩, ru⟩
  · obtain ⟨⟨old, he⟩, _⟩ := st
    exact wpAny_pyIter_enum he h
theorem enum_end {X : Cx} {pins : List (Addr × Obj)} {σ : L2.St} {H1 : Hp} {s1 : Shared} {us : List Value} {a : Addr} {xs : List V} {k : Sk} {elts : List Expr} {kk : Nat} {tpos : Pos} {R : It → Hp → Prop} (I1 : Inv X pins σ H1 s1) (r1 : Vals [.ref a] us) (hx : SqK k X.K H1 a xs) (q : R (Itp (GEnum k X.K a)) H1) :
    wpAny (model X.prog X.w) X.A (call (.type "enumerate") us) (fun v s2 => wpAny (model X.prog X.w) X.A (pyIter v) (PIE X pins σ (.Tuple elts kk tpos) R) X.xe s2) X.xe s1 := by
  obtain rfl := Vals.ref1 r1
  obtain ⟨its, rv, hk⟩ := seqK I1 hx
  refine enum_begins1 (beginsK k a its.toArray) hk fun h' he hit hsz keep => wpAny_pyIter_enum he ?_
  have I2 : Inv X pins σ H1 { s1 with heap := h' } := I1.kept (t' := s1.toks) keep
  have alt := isK_lt hk
  refine ⟨s1.heap.objs.size + 1, [s1.heap.objs.size + 1, s1.heap.objs.size], _, _, H1, rfl, I2, turn_enumK (Nat.succ_ne_self _) (Nat.ne_of_lt (Nat.lt_succ_of_lt alt)) (Nat.ne_of_lt alt), ⟨⟨.none, by simpa using he⟩, itrK_new hit⟩, fun b hb => ?_, q⟩
  have e' : b = s1.heap.objs.size + 1 ∨ b = s1.heap.objs.size := by simpa using hb
  have hle : s1.heap.objs.size ≤ b := by
    rcases e' with z | z
    · rw [z]; exact Nat.le_succ _
    · rw [z]; exact Nat.le_refl _
  exact I1.fpOk hle (I1.hok.fresh hle)
/-! ### zip -/
def GZip (k1 k2 : Sk) (K : PySem.W.Frag) (a b : Addr) : Hp → List (V × V) → Prop := fun H ps => ∃ xs ys, SqK k1 K H a xs ∧ SqK k2 K H b ys ∧ ps = xs.zip ys
theorem turn_zipK {P : Program} {w : World} {K : PySem.W.Frag} {elts : List Expr} {kk : Nat} {tpos : Pos} {k1 k2 : Sk} {a b z TI TO i1 i2 : Addr} (S : ZipSep2 z TI TO i1 i2 [i1, a] [i2, b]) (h1 : a ≠ i1) (h2 : b ≠ i2) :
    Turn P w K (.Tuple elts kk tpos) (Itp (GZip k1 k2 K a b)) [z, TI, TO, i1, i2] z (fun i h => IsZip h z TI TO .none ∧ IsTupOf2 h TI (.ref i1) (.ref i2) ∧ (∃ a1 a2, IsTupOf2 h TO a1 a2) ∧ ItrK k1 h i1 a i ∧ ItrK k2 h i2 b i) := by
  refine turn_pairs (wr := [z, TO, i1, i2]) (by simp) (fun b h => by simp at h ⊢; rcases h with h | h | h | h <;> simp [h]) (fun i h st b hb => ?_) (fun i h h' st q => ?_) (fun X pins σ H s ps qs hK I h1 h2 => ?_) (fun X i pins σ H s ps hP hw hK hc I hG st => ?_) (fun A i s Q E st h => wpAny_pyIter_zip st.1 h)
  · obtain ⟨hz, hTI, ⟨a1, a2, hTO⟩, hi1, hi2⟩ := st
    have eb : b = z ∨ b = TI ∨ b = TO ∨ b = i1 ∨ b = i2 := by simpa using hb
    rcases eb with rfl | rfl | rfl | rfl | rfl
    · exact ⟨_, hz, fun v q => nomatch q⟩
    · exact ⟨_, hTI, fun v q => nomatch q⟩
    · exact ⟨_, hTO, fun v q => nomatch q⟩
    · exact itrK_obj hi1
    · exact itrK_obj hi2
  · obtain ⟨hz, hTI, ⟨a1, a2, hTO⟩, hi1, hi2⟩ := st
    exact ⟨q z (by simp) _ hz, q TI (by simp) _ hTI, ⟨a1, a2, q TO (by simp) _ hTO⟩, itrK_keep hi1 fun o => q i1 (by simp) o, itrK_keep hi2 fun o => q i2 (by simp) o⟩
  · subst hK
    obtain ⟨xs, ys, p1, p2, rfl⟩ := h1
    obtain ⟨xs', ys', q1, q2, rfl⟩ := h2
    rw [seqK_inj I p1 q1, seqK_inj I p2 q2]
  · subst hP hw hK
    obtain ⟨hz, hTI, hTO, hi1, hi2⟩ := st
    obtain ⟨xs, ys, hx, hy, rfl⟩ := hG
    obtain ⟨its, rv, hk⟩ := seqK I hx
    obtain ⟨jts, rw_, hl⟩ := seqK I hy
    have D1 := drawsK (prog := X.prog) (w := X.w) (A := X.A.in1) (I.ok.hd hc) k1 i1 a h1 its.toArray
    have D2 := drawsK (prog := X.prog) (w := X.w) (A := X.A.in1) (I.ok.hd hc) k2 i2 b h2 jts.toArray
    have W := WalksT.zipD2 S D1 D2
    have len : min its.toArray.size jts.toArray.size = (xs.zip ys).length := by rw [List.length_zip, List.size_toArray, List.size_toArray, rv.length, rw_.length]
    rw [len] at W
    refine ⟨_, _, _, _, W, ⟨hz, hTI, hTO, ⟨hi1, hk⟩, hi2, hl⟩, fun h' st' => ⟨st'.1, st'.2.1, st'.2.2.1, st'.2.2.2.1.1, st'.2.2.2.2.1⟩, fun vals hlt hp => ?_⟩
    obtain ⟨x1, x2, e1, e2, rfl⟩ := hp
    rw [List.length_zip] at hlt
    have l1 : i < xs.length := by omega
    have l2 : i < ys.length := by omega
    obtain ⟨u, hu, ru⟩ := rv.get (List.getElem?_eq_getElem l1)
    obtain ⟨v, hv, rv2⟩ := rw_.get (List.getElem?_eq_getElem l2)
    have eu : u = x1 := by
      have e1' : its[i]? = some x1 := by simpa using e1
      rw [hu] at e1'; exact Option.some.inj e1'
    have ev : v = x2 := by
      have e2' : jts[i]? = some x2 := by simpa using e2
      rw [hv] at e2'; exact Option.some.inj e2'
    subst eu ev
    exact ⟨(xs[i], ys[i]), _, _, List.getElem?_zip_eq_some.mpr ⟨List.getElem?_eq_getElem l1, List.getElem?_eq_getElem l2⟩, rfl, ru, rv2⟩
theorem zip_end {X : Cx} {pins : List (Addr × Obj)} {σ : L2.St} {H1 : Hp} {s1 : Shared} {us : List Value} {a b : Addr} {xs ys : List V} {k1 k2 : Sk} {elts : List Expr} {kk : Nat} {tpos : Pos} {R : It → Hp → Prop} (I1 : Inv X pins σ H1 s1) (r1 : Vals [.ref a, .ref b] us) (hx : SqK k1 X.K H1 a xs) (hy : SqK k2 X.K H1 b ys) (q : R (Itp (GZip k1 k2 X.K a b)) H1) :
    wpAny (model X.prog X.w) X.A (call (.type "zip") us) (fun v s2 => wpAny (model X.prog X.w) X.A (pyIter v) (PIE X pins σ (.Tuple elts kk tpos) R) X.xe s2) X.xe s1 := by
  cases r1 with
  | cons ra r1 =>
    cases r1 with
    | cons rb r1 =>
      cases r1
      cases ra
      cases rb
      obtain ⟨its, rv, hk⟩ := seqK I1 hx
      obtain ⟨jts, rw_, hl⟩ := seqK I1 hy
      have al := isK_lt hk
      have bl := isK_lt hl
      refine zip_begins2 (beginsK k1 a its.toArray) (beginsK k2 b jts.toArray) hk hl fun h' hz hTI hTO g1 g2 hsz keep => wpAny_pyIter_zip hz ?_
      have I2 : Inv X pins σ H1 { s1 with heap := h' } := I1.kept (t' := s1.toks) keep
      have S := zip_sep2 (N := s1.heap.objs.size) (fp1 := [a]) (fp2 := [b]) (fun c hc => by rw [List.mem_singleton.mp hc]; exact al) (fun c hc => by rw [List.mem_singleton.mp hc]; exact bl)
      refine ⟨s1.heap.objs.size + 4, [s1.heap.objs.size + 4, s1.heap.objs.size + 2, s1.heap.objs.size + 3, s1.heap.objs.size, s1.heap.objs.size + 1], _, _, H1, rfl, I2, turn_zipK S (Nat.ne_of_lt al) (Nat.ne_of_lt (Nat.lt_succ_of_lt bl)), ⟨hz, hTI, ⟨_, _, hTO⟩, itrK_new g1, itrK_new g2⟩, fun c hc => ?_, q⟩
      have hle : s1.heap.objs.size ≤ c := by
        have e' : c = s1.heap.objs.size + 4 ∨ c = s1.heap.objs.size + 2 ∨ c = s1.heap.objs.size + 3 ∨ c = s1.heap.objs.size ∨ c = s1.heap.objs.size + 1 := by simpa using hc
        rcases e' with rfl | rfl | rfl | rfl | rfl
        · exact Nat.le_add_right _ _
        · exact Nat.le_add_right _ _
        · exact Nat.le_add_right _ _
        · exact Nat.le_refl _
        · exact Nat.le_add_right _ _
      exact I1.fpOk hle (I1.hok.fresh hle)
end Gx
set_option linter.all false
set_option maxRecDepth 100000
set_option maxHeartbeats 4000000
namespace Gx
open PySem PySem.Spec PyProof.Rows L2
/-! ### a tuple that is tracked, or of the text -/
def Tp (K : PySem.W.Frag) (H : Hp) (a : Addr) (xs : List V) : Prop := H a = some (.tup xs) ∨ ∀ G, SqT K G a xs
section
variable {K : PySem.W.Frag} {H H' : Hp} {a : Addr} {xs : List V} {l : List Addr}
theorem Tp.sq (h : Tp K H a xs) : SqT K H a xs := h.elim SqT.of fun z => z H
theorem Tp.chg (h : Tp K H a xs) (c : Chg l H H') : Tp K H' a xs := h.imp (c.tup a xs) id
theorem Tp.same (h : Tp K H a xs) (s : Same H H') : Tp K H' a xs := h.imp (s a _) id
end
theorem Chg.same' {l : List Addr} {H H' H2 : Hp} (c : Chg l H H') (s : Same H' H2) : Chg l H H2 := c.trans (.of s)
/-! ### any tuple times a number -/
theorem tuple_mul1 (l : Addr) (its : Array Value) (n : Nat) (dd : Option Addr) (sl : Array (Option Value)) (u : Tok) : Meets (Builtin.«tuple.__mul__» ⟨[.ref l, .int 1 u], []⟩) (fun _ R s => s.heap.get? l = some { cls := .type "tuple", dict := dd, data := .seq its n, slots := sl } ∧ R (.ok (.ret (Value.ref l))) s) := .of_wp fun P w A R s h => by
  obtain ⟨hp, g, d, tk, os⟩ := s
  obtain ⟨hl, q⟩ := h
  have ix := AutoSeq1.idx_int
  wp_walk using wpAny_loadPart' hl
  repeat (first
    | (refine wpAny_ite_false (by decide) ?_; wp_walk using wpAny_loadPart' hl)
    | (refine wpAny_ite_true (by rw [Bool.or_eq_true]; exact .inr (by decide)) ?_; wp_walk using wpAny_loadPart' hl))
  exact ⟨_, rfl, q⟩
theorem tuple_mul0 (l : Addr) (its : Array Value) (n : Nat) (dd : Option Addr) (sl : Array (Option Value)) (u : Tok) (ne : its.isEmpty = false) : Meets (Builtin.«tuple.__mul__» ⟨[.ref l, .int 0 u], []⟩) (fun _ R s => s.heap.get? l = some { cls := .type "tuple", dict := dd, data := .seq its n, slots := sl } ∧
    R (.ok (.ret (Value.ref s.heap.objs.size))) { s with heap := s.heap.push { cls := Value.type "tuple", data := Data.seq #[] } }) := .of_wp fun P w A R s h => by
  obtain ⟨hp, g, d, tk, os⟩ := s
  obtain ⟨hl, q⟩ := h
  have ix := AutoSeq1.idx_int
  wp_walk using wpAny_loadPart' hl
  repeat (first
    | (refine wpAny_ite_false (by rw [ne]; decide) ?_; wp_walk using wpAny_loadPart' hl)
    | (refine wpAny_ite_false (by decide) ?_; wp_walk using wpAny_loadPart' hl)
    | (refine wpAny_ite_true (by decide) ?_; wp_walk using wpAny_loadPart' hl))
  exact ⟨_, rfl, q⟩
def rRepA (K : PySem.W.Frag) : R2 := fun x y H Q => ∃ l k xs, x = .ref l ∧ y = .int k ∧ SqT K H l xs ∧ xs ≠ [] ∧ 0 ≤ k ∧ k ≤ 1000 ∧ xs.length ≤ 1000 ∧ (k = 1 → Q (.ref l) H) ∧ (k ≠ 1 → ∀ p, H p = none → Q (.ref p) (upd H p (.tup (List.replicate k.toNat xs).flatten)))
theorem op_repA {X : Cx} : OpR X (binaryOp .Mult) (rRepA X.K) := by
  intro pins s σ H x y v u Q I rx ry h
  obtain ⟨l, k, xs, rfl, rfl, hT, hne, h1, h2, hz, q1, q2⟩ := h
  by_cases big : 2 ≤ k
  · exact op_repT pins s σ H _ _ _ _ Q I rx ry ⟨l, k, xs, rfl, rfl, hT, hne, big, h2, hz, q2 (by omega)⟩
  cases rx
  obtain ⟨t, rfl⟩ := ry
  obtain ⟨its, r, ⟨⟨cls, dd, data, sl⟩, ho, hc, n, hd⟩, hs⟩ := I.tuple hT
  simp only at hc hd
  subst hc hd
  have hi : its.toArray.isEmpty = false := by
    cases r with
    | nil => exact absurd rfl hne
    | cons _ _ => rfl
  have go : ∀ {Z : Value → Shared → Prop}, wpAny (model X.prog X.w) X.A (call (.builtin "tuple.__mul__") [.ref l, .int k t]) Z X.xe s → wpAny (model X.prog X.w) X.A (binaryOp .Mult (.ref l) (.int k t)) Z X.xe s := fun z =>
    wpAny_binaryOp_repeat_ref (T := "tuple") (U := "int") (by decide) ⟨_, ho, rfl⟩ (fun s' => typeIs_int s' k t) noFill_tuple_mul F.fills_int_mul F.slot_int_rmul repeat_tuple F.slot_int_index.lookup
      (call_meets F.slot_int_rmul (typeIs_int s k t) F.entry_int_rmul (F.args_int_rmul_2 _ _) (int_rmul_tuple k t l its.toArray n dd sl) ⟨ho, rfl, ⟨_, ho, rfl⟩, z⟩)
  refine go ?_
  by_cases one : k = 1
  · subst one
    exact call_meets F.slot_tuple_mul ⟨_, ho, rfl⟩ F.entry_tuple_mul (F.args_tuple_mul_2 _ _) (tuple_mul1 l its.toArray n dd sl t) ⟨ho, .ref l, H, I, rfl, q1 rfl⟩
  · obtain rfl : k = 0 := by omega
    refine call_meets F.slot_tuple_mul ⟨_, ho, rfl⟩ F.entry_tuple_mul (F.args_tuple_mul_2 _ _) (tuple_mul0 l its.toArray n dd sl t hi) ⟨ho, ?_⟩
    refine ⟨.ref s.heap.objs.size, _, I.laid (t' := s.toks) (o := .tup []) (fun b ob q => Heap.get?_push_of_some _ q) (Nat.le_refl _) ?_, rfl, q2 one _ (I.hok.fresh (Nat.le_refl _))⟩
    exact ⟨by show 0 ≤ sizeLine; decide, [], .nil, IsTup.new _ _⟩
/-- (0,) * n of a tracked (0,) -/
theorem r_rep0 {K : PySem.W.Frag} {H : Hp} {Q : VK} {l : Addr} {k : Int} (hl : H l = some (.tup [.int 0])) (h0 : 0 ≤ k) (h1 : k ≤ 1000) (q : ∀ p H2, Same H H2 → H2 p = some (.tup ((List.replicate k.toNat (0 : Int)).map V.int)) → Q (.ref p) H2) : rRepA K (.ref l) (.int k) H Q := by
  have e : ∀ n : Nat, (List.replicate n [V.int 0]).flatten = (List.replicate n (0 : Int)).map V.int := fun n => by
    induction n with
    | zero => rfl
    | succ n ih => rw [List.replicate_succ, List.flatten_cons, ih, List.replicate_succ]; rfl
  refine ⟨l, k, _, rfl, rfl, SqT.of hl, by simp, h0, h1, Nat.le_of_ble_eq_true rfl, fun o => ?_, fun _ p hp => q p _ (same_new hp) (by rw [e]; exact upd_same)⟩
  subst o
  exact q l H (Same.refl H) hl
/-! ### zip and enumerate of whatever sequence -/
def iEnumE (K : PySem.W.Frag) (ta : TA) : TI := fun σ H R => ta σ H fun vs H1 => ∃ k a xs, vs = [.ref a] ∧ SqK k K H1 a xs ∧ R (Itp (GEnum k K a)) H1
theorem pi_enumE {X : Cx} {e : Expr} {ta : TA} {p pos tpos : Pos} {elts : List Expr} {kk : Nat} (hg : Gl X "enumerate") (hm : X.mg "enumerate" = none) (ha : PA X [e] ta) (hs : starEach [e] X.env = [(false, eval e X.env)] := by rfl) :
    PI X (.Tuple elts kk tpos) (.Call (.Name "enumerate" p) [e] [] pos) (iEnumE X.K ta) := by
  refine ⟨fun pins s σ H R I h => ?_⟩
  refine Call_ (ld_blt I hg hm boot_enumerate (PyProof.Rows.callWith_type1 (thn (ha.run pos pins s σ H _ I h) fun us s1 hq => ?_) hs rfl))
  obtain ⟨vs, H1, I1, r1, k, a, xs, rfl, hx, q⟩ := hq
  exact enum_end I1 r1 hx q
def iZipE (K : PySem.W.Frag) (ta : TA) : TI := fun σ H R => ta σ H fun vs H1 => ∃ k1 k2 a b xs ys, vs = [.ref a, .ref b] ∧ SqK k1 K H1 a xs ∧ SqK k2 K H1 b ys ∧ R (Itp (GZip k1 k2 K a b)) H1
theorem pi_zipE {X : Cx} {e e2 : Expr} {ta : TA} {p pos tpos : Pos} {elts : List Expr} {kk : Nat} (hg : Gl X "zip") (hm : X.mg "zip" = none) (ha : PA X [e, e2] ta)
    (hs : starEach [e, e2] X.env = (false, eval e X.env) :: starEach [e2] X.env := by rfl) (hpl : (backTo pos (starEach [e2] X.env)).any (·.1) = false := by rfl) :
    PI X (.Tuple elts kk tpos) (.Call (.Name "zip" p) [e, e2] [] pos) (iZipE X.K ta) := by
  refine ⟨fun pins s σ H R I h => Call_ (ld_blt I hg hm PyProof.Rows.boot_zip (PyProof.Rows.callWith_type1 (thn (ha.run pos pins s σ H _ I h) fun us s1 hq => ?_) hs hpl))⟩
  obtain ⟨vs, H1, I1, r1, k1, k2, a, b, xs, ys, rfl, hx, hy, q⟩ := hq
  exact zip_end I1 r1 hx hy q
end Gx
set_option linter.all false
set_option maxRecDepth 100000
set_option maxHeartbeats 4000000
namespace Gx
open PySem PySem.Spec PyProof.Rows L2
/-! ### parts -/
structure Pm where
  u : Int
  d : Int
  s : Int
  a : Int
def Pm.ok (p : Pm) : Prop := (1 ≤ p.u ∧ p.u ≤ 2047) ∧ (1 ≤ p.d ∧ p.d ≤ 2047) ∧ (0 ≤ p.s ∧ p.s ≤ 2047) ∧ (1 ≤ p.a ∧ p.a ≤ 2047)
abbrev Pm.tup (p : Pm) : List V := [.str "shape", .int p.u, .int p.d, .int p.s, .int p.a]
inductive Prt where
  | frm (n : Str) | wave (t : Str) (s : Int) | slow (t : Str) (s : Int) | noise (s : Int) | shape (p : Pm) | taps (fs : List Int) (m : Str) | mix (fs : List Int) (m : Str) | times (m : Str) | delay (n : Int) | follow (s : Int)
def facOk (most : Nat) (fs : List Int) : Prop := 1 ≤ fs.length ∧ fs.length ≤ most ∧ ∀ i ∈ fs, -256 ≤ i ∧ i ≤ 256
def Prt.ok : Prt → Prop
  | .frm n => nameB n = true ∧ n.length ≤ 1000
  | .wave t s => tabOk t ∧ 0 ≤ s ∧ s ≤ 2048
  | .slow t s => tabOk t ∧ 0 ≤ s ∧ s ≤ 2048
  | .noise s => 0 ≤ s ∧ s ≤ 4095
  | .shape p => p.ok
  | .taps fs m => facOk 8 fs ∧ manOk m
  | .mix fs m => facOk 4 fs ∧ manOk m
  | .times m => manOk m
  | .delay n => 1 ≤ n ∧ n ≤ 64
  | .follow s => 1 ≤ s ∧ s ≤ 2047
def Prt.kind : Prt → Str
  | .frm _ => "from" | .wave _ _ => "wave" | .slow _ _ => "slow" | .noise _ => "noise" | .shape _ => "shape" | .taps _ _ => "taps" | .mix _ _ => "mix" | .times _ => "times" | .delay _ => "delay" | .follow _ => "follow"
def Prt.rest : Prt → List PyData
  | .frm n => [.str n]
  | .wave t s => [.str t, .int s]
  | .slow t s => [.str t, .int s]
  | .noise s => [.int s]
  | .shape p => [.int p.u, .int p.d, .int p.s, .int p.a]
  | .taps fs m => [.tuple (fs.map PyData.int), .str m]
  | .mix fs m => [.tuple (fs.map PyData.int), .str m]
  | .times m => [.str m]
  | .delay n => [.int n]
  | .follow s => [.int s]
def Prt.dat (p : Prt) : PyData := .tuple (.str p.kind :: p.rest)
/-- the part p stands at x -/
def PAt (H : Hp) (x : Addr) : Prt → Prop
  | .frm n => H x = some (.tup [.str "from", .str n])
  | .wave t s => H x = some (.tup [.str "wave", .str t, .int s])
  | .slow t s => H x = some (.tup [.str "slow", .str t, .int s])
  | .noise s => H x = some (.tup [.str "noise", .int s])
  | .shape p => H x = some (.tup p.tup)
  | .taps fs m => ∃ f, H x = some (.tup [.str "taps", .ref f, .str m]) ∧ H f = some (.tup (fs.map V.int))
  | .mix fs m => ∃ f, H x = some (.tup [.str "mix", .ref f, .str m]) ∧ H f = some (.tup (fs.map V.int))
  | .times m => H x = some (.tup [.str "times", .str m])
  | .delay n => H x = some (.tup [.str "delay", .int n])
  | .follow s => H x = some (.tup [.str "follow", .int s])
section
variable {H H' : Hp} {x : Addr} {p : Prt}
theorem PAt.tups (h : PAt H x p) (s : ∀ c xs, H c = some (.tup xs) → H' c = some (.tup xs)) : PAt H' x p := by
  cases p with
  | taps fs m => obtain ⟨f, a, b⟩ := h; exact ⟨f, s _ _ a, s _ _ b⟩
  | mix fs m => obtain ⟨f, a, b⟩ := h; exact ⟨f, s _ _ a, s _ _ b⟩
  | _ => exact s _ _ h
theorem PAt.same (h : PAt H x p) (s : Same H H') : PAt H' x p := h.tups fun c _ e => s c _ e
theorem PAt.chg {l : List Addr} (h : PAt H x p) (c : Chg l H H') : PAt H' x p := h.tups c.tup
/-- its tuple -/
theorem PAt.tup (h : PAt H x p) : ∃ xs, H x = some (.tup (.str p.kind :: xs)) ∧ DtL H xs p.rest := by
  cases p with
  | taps fs m => obtain ⟨f, a, b⟩ := h; exact ⟨_, a, .cons (.tup b (.ints fs)) (.cons (.str m) .nil)⟩
  | mix fs m => obtain ⟨f, a, b⟩ := h; exact ⟨_, a, .cons (.tup b (.ints fs)) (.cons (.str m) .nil)⟩
  | frm n => exact ⟨_, h, .cons (.str _) .nil⟩
  | wave t s => exact ⟨_, h, .cons (.str _) (.cons (.int _) .nil)⟩
  | slow t s => exact ⟨_, h, .cons (.str _) (.cons (.int _) .nil)⟩
  | noise s => exact ⟨_, h, .cons (.int _) .nil⟩
  | shape p => exact ⟨_, h, .cons (.int _) (.cons (.int _) (.cons (.int _) (.cons (.int _) .nil)))⟩
  | times m => exact ⟨_, h, .cons (.str _) .nil⟩
  | delay n => exact ⟨_, h, .cons (.int _) .nil⟩
  | follow n => exact ⟨_, h, .cons (.int _) .nil⟩
theorem PAt.dt (h : PAt H x p) : Dt H (.ref x) p.dat := by
  obtain ⟨xs, e, r⟩ := h.tup
  exact .tup e (.cons (.str _) r)
end
theorem whole_ok {lo hi i : Int} (h : lo ≤ i ∧ i ≤ hi) : wholeD lo hi (.int i) = true := by
  show (decide (lo ≤ i) && decide (i ≤ hi)) = true
  rw [decide_eq_true h.1, decide_eq_true h.2]
  rfl
theorem factors_ok {n : Nat} {fs : List Int} (h : facOk n fs) : factorsD n (.tuple (fs.map PyData.int)) = true := by
  obtain ⟨h1, h2, h3⟩ := h
  rw [factorsD_tup, List.length_map, decide_eq_true (by omega), decide_eq_true (by omega), List.map_map]
  simp only [Bool.and_self, Bool.true_and, List.all_map, List.all_eq_true]
  exact fun i hi => whole_ok (h3 i hi)
theorem Prt.part {p : Prt} (h : p.ok) : partD p.dat = true := by
  have K : ∀ {k : Str} {ds : List PyData}, partD (.tuple (.str k :: ds)) = kindD k (.str k :: ds) := rfl
  cases p with
  | frm n =>
    show kindD "from" _ = true
    unfold kindD
    rw [if_pos rfl]
    exact h.1
  | wave t s =>
    show kindD "wave" _ = true
    unfold kindD
    rw [if_neg (by decide), if_pos rfl]
    show (inD tables (.str t) && wholeD 0 2048 (.int s)) = true
    rw [whole_ok h.2, Bool.and_true]
    exact tab_in h.1
  | slow t s =>
    show kindD "slow" _ = true
    unfold kindD
    rw [if_neg (by decide), if_neg (by decide), if_pos rfl]
    show (inD tables (.str t) && wholeD 0 2048 (.int s)) = true
    rw [whole_ok h.2, Bool.and_true]
    exact tab_in h.1
  | noise s =>
    show kindD "noise" _ = true
    unfold kindD
    rw [if_neg (by decide), if_neg (by decide), if_neg (by decide), if_pos rfl]
    exact whole_ok h
  | shape p =>
    show kindD "shape" _ = true
    unfold kindD
    rw [if_neg (by decide), if_neg (by decide), if_neg (by decide), if_neg (by decide), if_pos rfl]
    obtain ⟨a, b, c, d⟩ := h
    show (wholeD 0 2047 (.int p.s) && ([wholeD 1 2047 (.int p.u), wholeD 1 2047 (.int p.d), wholeD 1 2047 (.int p.a)].all id)) = true
    rw [whole_ok a, whole_ok b, whole_ok c, whole_ok d]
    rfl
  | taps fs m =>
    show kindD "taps" _ = true
    unfold kindD
    rw [if_neg (by decide), if_neg (by decide), if_neg (by decide), if_neg (by decide), if_neg (by decide), if_pos rfl]
    show (factorsD 8 (.tuple (fs.map PyData.int)) && inD manners (.str m)) = true
    rw [show factorsD 8 (.tuple (fs.map PyData.int)) = true from factors_ok (n := 8) h.1, Bool.true_and]
    exact man_in h.2
  | mix fs m =>
    show kindD "mix" _ = true
    unfold kindD
    rw [if_neg (by decide), if_neg (by decide), if_neg (by decide), if_neg (by decide), if_neg (by decide), if_neg (by decide), if_pos rfl]
    show (factorsD 4 (.tuple (fs.map PyData.int)) && inD manners (.str m)) = true
    rw [show factorsD 4 (.tuple (fs.map PyData.int)) = true from factors_ok (n := 4) h.1, Bool.true_and]
    exact man_in h.2
  | times m =>
    show kindD "times" _ = true
    unfold kindD
    rw [if_neg (by decide), if_neg (by decide), if_neg (by decide), if_neg (by decide), if_neg (by decide), if_neg (by decide), if_neg (by decide), if_pos rfl]
    exact man_in h
  | delay n =>
    show kindD "delay" _ = true
    unfold kindD
    rw [if_neg (by decide), if_neg (by decide), if_neg (by decide), if_neg (by decide), if_neg (by decide), if_neg (by decide), if_neg (by decide), if_neg (by decide), if_pos rfl]
    exact whole_ok h
  | follow n =>
    show kindD "follow" _ = true
    unfold kindD
    rw [if_neg (by decide), if_neg (by decide), if_neg (by decide), if_neg (by decide), if_neg (by decide), if_neg (by decide), if_neg (by decide), if_neg (by decide), if_neg (by decide), if_pos rfl]
    exact whole_ok h
theorem txt_short {z : Str} (h : decide (z.length ≤ 1000) = true) : txtOk (.str z) = true := h
theorem tab_short {z : Str} (h : tabOk z) : z.length ≤ 1000 := by
  rcases h with rfl | rfl | rfl | rfl | rfl <;> decide
theorem man_short {z : Str} (h : manOk z) : z.length ≤ 1000 := by
  rcases h with rfl | rfl | rfl <;> decide
theorem Prt.txt {p : Prt} (h : p.ok) : tupOk p.dat = true := by
  have kd : txtOk (.str p.kind) = true := by cases p <;> rfl
  have rs : p.rest.all txtOk = true := by
    cases p with
    | frm n => simp [Prt.rest, txtOk, h.2]
    | wave t s => simp [Prt.rest, txtOk, tab_short h.1]
    | slow t s => simp [Prt.rest, txtOk, tab_short h.1]
    | taps fs m => simp [Prt.rest, txtOk, man_short h.2]
    | mix fs m => simp [Prt.rest, txtOk, man_short h.2]
    | times m => simp [Prt.rest, txtOk, man_short h]
    | _ => rfl
  show (PyData.str p.kind :: p.rest).all txtOk = true
  rw [List.all_cons, kd, rs]
  rfl
/-! ### shapes by their gates -/
inductive W5 where
  | rest | up | down | stay | away
def W5.s : W5 → Str
  | .rest => "rest"
  | .up => "up"
  | .down => "down"
  | .stay => "stay"
  | .away => "away"
def wordF : W5 → Bool → W5
  | .rest, true => .up
  | .away, true => .up
  | .up, false => .away
  | .down, false => .away
  | .stay, false => .away
  | x, _ => x
def mv (p : Pm) (lv : Int) : W5 → Int × W5
  | .up => (min 2047 (lv + p.u), if min 2047 (lv + p.u) = 2047 then .down else .up)
  | .down => (max p.s (lv - p.d), if max p.s (lv - p.d) = p.s then .stay else .down)
  | .stay => (p.s, .stay)
  | .away => (max 0 (lv - p.a), if max 0 (lv - p.a) = 0 then .rest else .away)
  | .rest => (0, .rest)
/-! ### what a worker keeps, and a step -/
inductive Kp where
  | none | one (x : Int) | two (x c : Int) | shp (lv : Int) (y : W5) | line (xs : List Int)
def wsmall (i : Int) : Prop := -2048 ≤ i ∧ i ≤ 2047
/-- what of it fits to a part -/
def fits : Prt → Kp → Prop
  | .frm _, .none => True
  | .mix _ _, .none => True
  | .times _, .none => True
  | .wave _ _, .one x => 0 ≤ x ∧ x < 4096
  | .slow _ _, .two x c => (0 ≤ x ∧ x < 4096) ∧ 0 ≤ c ∧ c < 16
  | .noise _, .one x => 0 ≤ x ∧ x < 4096
  | .shape _, .shp lv _ => 0 ≤ lv ∧ lv ≤ 2047
  | .taps fs _, .line xs => xs.length + 1 = fs.length ∧ ∀ i ∈ xs, wsmall i
  | .delay n, .line xs => (xs.length : Int) = n ∧ ∀ i ∈ xs, wsmall i
  | .follow _, .one x => 0 ≤ x ∧ x ≤ 2047
  | _, _ => False
def KAt (K : PySem.W.Frag) (H : Hp) (k : Addr) : Kp → Prop
  | .none => Tp K H k []
  | .one x => Tp K H k [.int x]
  | .two x c => Tp K H k [.int x, .int c]
  | .shp lv y => Tp K H k [.int lv, .str y.s]
  | .line xs => ∃ t, H k = some (.tup [.ref t]) ∧ H t = some (.tup (xs.map V.int))
section
variable {K : PySem.W.Frag} {H H' : Hp} {k : Addr} {kp : Kp}
theorem KAt.chg {l : List Addr} (h : KAt K H k kp) (c : Chg l H H') : KAt K H' k kp := by
  cases kp with
  | line xs => obtain ⟨t, a, b⟩ := h; exact ⟨t, c.tup _ _ a, c.tup _ _ b⟩
  | none => exact Tp.chg h c
  | one x => exact Tp.chg h c
  | two x c' => exact Tp.chg h c
  | shp lv y => exact Tp.chg h c
theorem KAt.same (h : KAt K H k kp) (s : Same H H') : KAt K H' k kp := h.chg (l := []) (.of s)
end
def weigh (fs ws : List Int) : Int := ((((fs.zip ws).map fun p => p.1 * p.2).sum) + 128) / 256
def portsN (n : Nat) : List Str := (["a", "b", "c", "d"] : List Str).take n
def first : Prt → Kp
  | .frm _ => .none
  | .mix _ _ => .none
  | .times _ => .none
  | .wave _ _ => .one 0
  | .slow _ _ => .two 0 0
  | .noise s => .one s
  | .shape _ => .shp 0 .rest
  | .taps fs _ => .line (List.replicate (fs.length - 1) 0)
  | .delay n => .line (List.replicate n.toNat 0)
  | .follow _ => .one 0
/-- a sample by what the ports get: its worth, what is kept, whether it was folded -/
def step : Prt → Kp → (Str → Int) → Int × Kp × Bool
  | .frm n, k, g => (g n, k, false)
  | .wave t s, .one x, g => (gTab t (x / 64), .one ((x + s + g "pitch" / 16) % 4096), false)
  | .slow t s, .two x c, _ => (gTab t (x / 64), if c + 1 < 16 then .two x (c + 1) else .two ((x + s) % 4096) 0, false)
  | .noise _, .one x, _ => (x - 2048, .one ((1229 * x + 351) % 4096), false)
  | .shape p, .shp lv y, g => ((mv p lv (wordF y (decide (0 < g "gate")))).1, .shp (mv p lv (wordF y (decide (0 < g "gate")))).1 (mv p lv (wordF y (decide (0 < g "gate")))).2, false)
  | .taps fs m, .line xs, g => (dBy m (weigh fs (g "in" :: xs)), .line (g "in" :: xs).dropLast, !decide (dBy m (weigh fs (g "in" :: xs)) = weigh fs (g "in" :: xs)))
  | .mix fs m, k, g => (dBy m (weigh fs ((portsN fs.length).map g)), k, !decide (dBy m (weigh fs ((portsN fs.length).map g)) = weigh fs ((portsN fs.length).map g)))
  | .times m, k, g => (dBy m ((g "a" * g "b" + 1024) / 2048), k, !decide (dBy m ((g "a" * g "b" + 1024) / 2048) = (g "a" * g "b" + 1024) / 2048))
  | .delay _, .line xs, g => (xs.headD 0, .line (xs.tail ++ [g "in"]), false)
  | .follow s, .one x, g => (max (max (min 2047 (g "in").natAbs) (x - s)) 0, .one (max (max (min 2047 (g "in").natAbs) (x - s)) 0), false)
  | _, k, _ => (0, k, false)
/-- what it tells next where that doesn't hang on its ports -/
def aheadF : Prt → Kp → Option Int
  | .slow t _, .two x _ => some (gTab t (x / 64))
  | .noise _, .one x => some (x - 2048)
  | .delay _, .line xs => some (xs.headD 0)
  | _, _ => none
/-! ### ins -/
def InsOk (es : List (Key × V)) : Prop := es.length ≤ 8 ∧ ∀ kv ∈ es, ∃ (n : Str) (i : Int), kv = (.inr n, .int i) ∧ nameB n = true ∧ n.length ≤ 1000 ∧ wsmall i
def insG (es : List (Key × V)) (z : Str) : Int := match valV es (.inr z) with
  | some (.int i) => i
  | _ => 0
theorem insG_get {es : List (Key × V)} (h : InsOk es) (z : Str) : (valV es (.inr z)).getD (.int 0) = .int (insG es z) := by
  unfold insG
  cases e : valV es (.inr z) with
  | none => rfl
  | some v =>
    unfold valV at e
    cases f : es.find? (fun kv => decide (kv.1 = .inr z)) with
    | none => rw [f] at e; cases e
    | some kv =>
      rw [f] at e
      obtain ⟨n, i, rfl, _⟩ := h.2 kv (List.mem_of_find?_eq_some f)
      obtain rfl : V.int i = v := Option.some.inj e
      rfl
theorem insG_small {es : List (Key × V)} (h : InsOk es) (z : Str) : wsmall (insG es z) := by
  unfold insG
  cases e : valV es (.inr z) with
  | none => exact ⟨by decide, by decide⟩
  | some v =>
    unfold valV at e
    cases f : es.find? (fun kv => decide (kv.1 = .inr z)) with
    | none => rw [f] at e; cases e
    | some kv =>
      rw [f] at e
      obtain ⟨n, i, rfl, _, _, hi⟩ := h.2 kv (List.mem_of_find?_eq_some f)
      obtain rfl : V.int i = v := Option.some.inj e
      exact hi
theorem mv_small {p : Pm} {lv : Int} {y : W5} (ok : p.ok) (h : 0 ≤ lv ∧ lv ≤ 2047) : 0 ≤ (mv p lv y).1 ∧ (mv p lv y).1 ≤ 2047 := by
  obtain ⟨h1, h2, h3, h4⟩ := ok
  cases y <;> simp only [mv] <;> omega
theorem step_fits {p : Prt} {k : Kp} {g : Str → Int} (ok : p.ok) (h : fits p k) (hg : ∀ z, wsmall (g z)) : fits p (step p k g).2.1 := by
  have gi := hg "in"
  cases p with
  | frm n => cases k <;> first | exact h | exact h.elim
  | mix fs m => cases k <;> first | exact h | exact h.elim
  | times m => cases k <;> first | exact h | exact h.elim
  | wave t s => cases k with
    | one x => exact ⟨Int.emod_nonneg _ (by decide), Int.emod_lt_of_pos _ (by decide)⟩
    | _ => exact h.elim
  | noise s => cases k with
    | one x => exact ⟨Int.emod_nonneg _ (by decide), Int.emod_lt_of_pos _ (by decide)⟩
    | _ => exact h.elim
  | slow t s => cases k with
    | two x c =>
      obtain ⟨h1, h2, h3⟩ := h
      simp only [step]
      split
      · exact ⟨h1, by omega, by omega⟩
      · exact ⟨⟨Int.emod_nonneg _ (by decide), Int.emod_lt_of_pos _ (by decide)⟩, by decide, by decide⟩
    | _ => exact h.elim
  | shape p => cases k with
    | shp lv y => exact mv_small ok h
    | _ => exact h.elim
  | taps fs m => cases k with
    | line xs =>
      obtain ⟨h1, h2⟩ := h
      refine ⟨by simp [step]; omega, fun i hi => ?_⟩
      rcases List.mem_cons.mp (List.dropLast_subset _ hi) with rfl | hi
      · exact gi
      · exact h2 i hi
    | _ => exact h.elim
  | delay n => cases k with
    | line xs =>
      obtain ⟨h1, h2⟩ := h
      obtain ⟨o1, o2⟩ := ok
      refine ⟨by simp only [step, List.length_append, List.length_tail, List.length_singleton]; omega, fun i hi => ?_⟩
      rcases List.mem_append.mp hi with hi | hi
      · exact h2 i (List.mem_of_mem_tail hi)
      · rw [List.mem_singleton.mp hi]; exact gi
    | _ => exact h.elim
  | follow s => cases k with
    | one x =>
      obtain ⟨o1, o2⟩ := ok
      obtain ⟨h1, h2⟩ := h
      show 0 ≤ max (max (min 2047 ((g "in").natAbs : Int)) (x - s)) 0 ∧ max (max (min 2047 ((g "in").natAbs : Int)) (x - s)) 0 ≤ 2047
      omega
    | _ => exact h.elim
theorem first_fits {p : Prt} (ok : p.ok) : fits p (first p) := by
  cases p with
  | taps fs m =>
    obtain ⟨⟨h1, _⟩, _⟩ := ok
    refine ⟨by simp [first]; omega, fun i hi => ?_⟩
    rw [List.eq_of_mem_replicate hi]
    exact ⟨by decide, by decide⟩
  | delay n =>
    obtain ⟨h1, h2⟩ := ok
    refine ⟨by simp [first]; omega, fun i hi => ?_⟩
    rw [List.eq_of_mem_replicate hi]
    exact ⟨by decide, by decide⟩
  | noise s => exact ⟨ok.1, by have := ok.2; show s < 4096; omega⟩
  | shape p => exact ⟨by decide, by decide⟩
  | wave t s => exact ⟨by decide, by decide⟩
  | slow t s => exact ⟨⟨by decide, by decide⟩, by decide, by decide⟩
  | follow s => exact ⟨by decide, by decide⟩
  | _ => trivial
theorem step_small {p : Prt} {k : Kp} {g : Str → Int} (ok : p.ok) (h : fits p k) (hg : ∀ z, wsmall (g z)) : wsmall (step p k g).1 := by
  cases p with
  | frm n => cases k <;> first | exact hg n | exact h.elim
  | mix fs m => cases k <;> first | exact dBy_small | exact h.elim
  | times m => cases k <;> first | exact dBy_small | exact h.elim
  | wave t s => cases k with
    | one x => exact gTab_small ok.1 (Int.ediv_nonneg h.1 (by decide)) (by have := h.2; omega)
    | _ => exact h.elim
  | slow t s => cases k with
    | two x c =>
      obtain ⟨⟨a, b⟩, _⟩ := h
      exact gTab_small ok.1 (Int.ediv_nonneg a (by decide)) (by omega)
    | _ => exact h.elim
  | noise s => cases k with
    | one x =>
      obtain ⟨a, b⟩ := h
      exact ⟨by show -2048 ≤ x - 2048; omega, by show x - 2048 ≤ 2047; omega⟩
    | _ => exact h.elim
  | shape p => cases k with
    | shp lv y =>
      obtain ⟨a, b⟩ := mv_small (y := wordF y (decide (0 < g "gate"))) ok h
      exact ⟨by show -2048 ≤ (mv p lv _).1; omega, b⟩
    | _ => exact h.elim
  | taps fs m => cases k with
    | line xs => exact dBy_small
    | _ => exact h.elim
  | delay n => cases k with
    | line xs =>
      obtain ⟨h1, h2⟩ := h
      cases xs with
      | nil => exact (show wsmall 0 from ⟨by decide, by decide⟩)
      | cons a r => exact h2 a (List.mem_cons_self ..)
    | _ => exact h.elim
  | follow s => cases k with
    | one x =>
      obtain ⟨h1, h2⟩ := h
      obtain ⟨o1, o2⟩ := ok
      show wsmall (max (max (min 2047 ((g "in").natAbs : Int)) (x - s)) 0)
      exact ⟨by omega, by omega⟩
    | _ => exact h.elim
end Gx
namespace Gx
open PySem PySem.Spec PyProof.Rows L2
/-- a step: part, kept, ins -/
def spStep (K : PySem.W.Frag) (sel : Prt → Prop) : Sp := fun vs H Q _ => ∃ (x k d : Addr) (p : Prt) (kp : Kp) (es : List (Key × V)), vs = [.ref x, .ref k, .ref d] ∧ sel p ∧ PAt H x p ∧ p.ok ∧ KAt K H k kp ∧ fits p kp ∧ H d = some (.dK es) ∧ InsOk es ∧
  ∀ r k2 H', Same H H' → KAt K H' k2 (step p kp (insG es)).2.1 → H' r = some (.tup [.int (step p kp (insG es)).1, .ref k2, .bl (step p kp (insG es)).2.2]) → Q (.ref r) H'
def spAhead (K : PySem.W.Frag) (sel : Prt → Prop) : Sp := fun vs H Q _ => ∃ (x k : Addr) (p : Prt) (kp : Kp) (i : Int), vs = [.ref x, .ref k] ∧ sel p ∧ PAt H x p ∧ p.ok ∧ KAt K H k kp ∧ fits p kp ∧ aheadF p kp = some i ∧ Q (.int i) H
/-- factors and as many worths -/
def spWeigh (K : PySem.W.Frag) : Sp := fun vs H Q _ => ∃ (a b : Addr) (k : Sk) (fs ws : List Int), vs = [.ref a, .ref b] ∧ H a = some (.tup (fs.map V.int)) ∧ SqK k K H b (ws.map V.int) ∧ (∀ H', Same H H' → SqK k K H' b (ws.map V.int)) ∧ fs.length ≤ 8 ∧ ws.length ≤ 100 ∧ (∀ i ∈ fs, -256 ≤ i ∧ i ≤ 256) ∧ ∀ H', Same H H' → Q (.int (weigh fs ws)) H'
section
variable {K : PySem.W.Frag} {σ : L2.St} {H : Hp} {Q : VK}
theorem r_dget {i : Nat} {d : Addr} {es : List (Key × V)} {z : Str} {u : V} (hv : σ[i]? = some (some (.ref d))) (hd : H d = some (.dK es)) (q : Q ((valV es (.inr z)).getD u) H) : tDGet2 (tVar i) (tC (.str z)) (tC u) σ H Q :=
  ⟨_, hv, d, rfl, .inl ⟨es, .inl hd⟩, _, DGet.k (k := .inr z) hd, q⟩
/-- ins.get(a port, 0) -/
theorem r_port {i : Nat} {d : Addr} {es : List (Key × V)} {z : Str} (hv : σ[i]? = some (some (.ref d))) (hd : H d = some (.dK es)) (hi : InsOk es) (q : Q (.int (insG es z)) H) : tDGet2 (tVar i) (tC (.str z)) (tC (.int 0)) σ H Q :=
  r_dget hv hd (by rw [insG_get hi]; exact q)
theorem r_portE {te : TE} {i : Nat} {d : Addr} {es : List (Key × V)} {z : Str} (hv : σ[i]? = some (some (.ref d))) (hd : H d = some (.dK es)) (hi : InsOk es) (he : ∀ R : VK, R (.str z) H → te σ H R) (q : Q (.int (insG es z)) H) : tDGet2 (tVar i) te (tC (.int 0)) σ H Q :=
  ⟨_, hv, d, rfl, .inl ⟨es, .inl hd⟩, he _ ⟨_, DGet.k (k := .inr z) hd, by show Q ((valV es (.inr z)).getD (.int 0)) H; rw [insG_get hi]; exact q⟩⟩
theorem nu_max3 {a b c : Int} : nuMax3 (.int a) (.int b) (.int c) = some (.int (max (max a b) c)) := by
  have two : ∀ x y : Int, nuMax2 (.int x) (.int y) = some (.int (max x y)) := fun x y => by
    show some (if decide (x < y) = true then V.int y else V.int x) = _
    by_cases h : x < y
    · rw [if_pos (decide_eq_true h), Int.max_def, if_pos (by omega)]
    · rw [if_neg (by rw [decide_eq_false h]; decide), Int.max_def]
      split
      · rw [show x = y by omega]
      · rfl
  show (nuMax2 (.int a) (.int b)).bind (fun m => nuMax2 m (.int c)) = _
  rw [two]
  exact two _ _
/-- a comprehension over pairs, item by item; heaps may grow -/
theorem lc_pr {G : Hp → List (V × V) → Prop} {ps : List (V × V)} {te : TE} {vs : List Nat} {i j : Nat} (f : V × V → V) (hps : ∀ h, Same H h → G h ps) (hz : ps.length ≤ 1000)
    (hw : ∀ x y, wipe (((wipe σ vs).set i (some x)).set j (some y)) vs = wipe σ vs)
    (he : ∀ p ∈ ps, ∀ h (R : VK), Same H h → (∀ h2, Same h h2 → R (f p) h2) → te (((wipe σ vs).set i (some p.1)).set j (some p.2)) h R)
    (q : ∀ D H2, Same H H2 → H2 D = some (.lst (ps.map f)) → Q (.ref D) H2) : Lc (Itp G) (gTup K 2 (gCons (gName i) (gCons (gName j) gNil))) tYes te vs Q σ H := by
  intro D hD
  refine lc_it (walk_pairs (G := G) (ps := ps)) (fun n h => h D = some (.lst ((ps.take n).map f)) ∧ Same H h) ⟨upd_same, same_new hD⟩ (fun n h _ z => hps h z.2) (fun n x h h1 hn z y => ?_) (fun h z => ?_)
  · obtain ⟨T, u, v, rfl, hT, rfl, eu, ev⟩ := y
    obtain ⟨e1, s1⟩ := z
    have hp : ps[n]? = some ps[n] := List.getElem?_eq_getElem hn
    have eu : ps[n]?.map Prod.fst = some u := eu
    have ev : ps[n]?.map Prod.snd = some v := ev
    rw [hp] at eu ev
    obtain rfl : ps[n].1 = u := by simpa using eu
    obtain rfl : ps[n].2 = v := by simpa using ev
    have sT := same_new (o := .tup [ps[n].1, ps[n].2]) hT
    refine ⟨T, _, rfl, SqT.of upd_same, rfl, ?_⟩
    refine r_gc (r_name (r_gc (r_name (r_gn ⟨hw _ _, r_yes (iteT ?_)⟩))))
    refine he ps[n] (List.getElem_mem hn) _ _ (s1.trans sT) fun h2 s2 => ⟨_, s2 _ _ (sT _ _ e1), ?_, ?_, ?_⟩
    · rw [List.length_map, List.length_take, sizeLine_eq]
      omega
    · rw [upd_same, take_map_next hp]
    · exact same_upd hD (s1.trans (sT.trans s2))
  · obtain ⟨e1, s1⟩ := z
    rw [List.take_length] at e1
    exact q D h s1 e1
end
end Gx
namespace Gx
open PySem L2
theorem kd_ne {a b c : Str} (e : a = b) (h : decide (V.str b = V.str c) = false) : decide (V.str a = V.str c) = false := by subst e; exact h
theorem kd_eq {a c : Str} (e : a = c) : decide (V.str a = V.str c) = true := by subst e; exact decide_eq_true rfl
end Gx
namespace Gx
open PySem PySem.Spec PyProof.Rows L2
theorem cut_last {l : List V} (h : l ≠ []) : cutV l none (some (-1)) = l.dropLast := by
  have n : 0 < l.length := List.length_pos_iff.mpr h
  have e1 : HT.sIx l.length 0 none = 0 := rfl
  have e2 : HT.sIx l.length l.length (some (-1)) = l.length - 1 := by
    unfold HT.sIx
    simp only []
    split <;> omega
  unfold cutV
  rw [e1, e2, List.dropLast_eq_take]
  rfl
theorem cut_tail {l : List V} (h : l ≠ []) : cutV l (some 1) none = l.tail := by
  have n : 0 < l.length := List.length_pos_iff.mpr h
  have e1 : HT.sIx l.length 0 (some 1) = 1 := by
    unfold HT.sIx
    simp only []
    split <;> omega
  have e2 : HT.sIx l.length l.length none = l.length := rfl
  unfold cutV
  rw [e1, e2, List.drop_one, List.take_of_length_le (by rw [List.length_tail]; exact Nat.le_refl _)]
/-- t[i:j] of a tuple of the text -/
theorem r_slK {K : PySem.W.Frag} {H : Hp} {Q : VK} {a : Addr} {xs : List V} {lo hi : Option Int} (ha : Tp K H a xs) (q : ∀ p H2, Same H H2 → Tp K H2 p (cutV xs lo hi) → Q (.ref p) H2) : rSlA K (.ref a) lo hi H Q := by
  refine ⟨a, xs, rfl, ha.sq, fun e => q a H (Same.refl H) ?_, fun _ p hp => q p _ (same_new hp) (.inl upd_same)⟩
  have e2 : cutV xs lo hi = xs := by
    unfold cutV
    rw [e.1, e.2]
    simp
  rw [e2]
  exact ha
theorem mix_ports {n : Nat} (h0 : 1 ≤ n) (h1 : n ≤ 4) : cutV [.str "a", .str "b", .str "c", .str "d"] none (some (n : Int)) = (portsN n).map V.str := by
  have e : n = 1 ∨ n = 2 ∨ n = 3 ∨ n = 4 := by omega
  rcases e with rfl | rfl | rfl | rfl <;> rfl
def ports : Prt → List Str
  | .wave _ _ => ["pitch"]
  | .shape _ => ["gate"]
  | .taps _ _ => ["in"]
  | .mix fs _ => portsN fs.length
  | .times _ => ["a", "b"]
  | .delay _ => ["in"]
  | .follow _ => ["in"]
  | _ => []
theorem zip_ints {fs ws : List Int} : ((fs.zip ws).map fun p => p.1 * p.2).map V.int = ((fs.map V.int).zip (ws.map V.int)).map fun p => match p with | (.int i, .int j) => .int (i * j) | _ => .non := by
  induction fs generalizing ws with
  | nil => rfl
  | cons a r ih => cases ws with
    | nil => rfl
    | cons b t => simp only [List.zip_cons_cons, List.map_cons, ih]
theorem zip_mem {fs ws : List Int} : ∀ p ∈ (fs.map V.int).zip (ws.map V.int), ∃ i j : Int, p = (.int i, .int j) ∧ i ∈ fs := by
  induction fs generalizing ws with
  | nil => intro p hp; simp at hp
  | cons a r ih => cases ws with
    | nil => intro p hp; simp at hp
    | cons b t =>
      intro p hp
      simp only [List.map_cons, List.zip_cons_cons, List.mem_cons] at hp
      rcases hp with rfl | hp
      · exact ⟨a, b, rfl, List.mem_cons_self ..⟩
      · obtain ⟨i, j, e, m⟩ := ih p hp
        exact ⟨i, j, e, List.mem_cons_of_mem _ m⟩
def spPorts (K : PySem.W.Frag) (CP : Addr) : Sp := fun vs H Q E => ∃ v, vs = [v] ∧ ((∃ x p, v = .ref x ∧ PAt H x p ∧ p.ok ∧ ∀ t H', Same H H' → Tp K H' t ((ports p).map V.str) → Q (.ref t) H') ∨
  (∃ d, Dt H v d ∧ tupOk d = true ∧ partD d = false ∧ ∀ c H', Same H H' → H' c = some (.xd [("found", v)]) → E (.ref CP) (some c) H'))
def Prt.fac : Prt → Bool
  | .taps _ _ => true
  | .mix _ _ => true
  | _ => false
theorem fac_in (p : Prt) : inV (.str p.kind) [.str "taps", .str "mix"] = p.fac := by
  cases p <;> simp only [Prt.kind, Prt.fac] <;> decide +kernel
def spHas : Sp := fun vs H Q _ => ∃ (x : Addr) (p : Prt), vs = [.ref x] ∧ PAt H x p ∧ ∀ H', Same H H' → Q (.bl p.fac) H'
/-- what a part has in common with those in whose place it may stand -/
def Prt.form : Prt → PyData
  | .taps fs _ => .tuple [.str "taps", .int fs.length]
  | .mix fs _ => .tuple [.str "mix", .int fs.length]
  | .delay n => .tuple [.str "delay", .int n]
  | p => .tuple [.str p.kind]
def spForm : Sp := fun vs H Q _ => ∃ (x : Addr) (p : Prt), vs = [.ref x] ∧ PAt H x p ∧ ∀ t H', Same H H' → Dt H' (.ref t) p.form → Q (.ref t) H'
def spAre : Sp := fun vs H Q _ => ∃ (d : Addr) (es : List (Key × V)), vs = [.ref d] ∧ H d = some (.dK es) ∧ InsOk es ∧ ∀ H', Same H H' → Q (.bl true) H'
end Gx
set_option linter.all false
set_option maxRecDepth 100000
set_option maxHeartbeats 4000000
namespace Gx
open PySem PySem.Spec PyProof.Rows L2
def mulV : V × V → V
  | (.int i, .int j) => .int (i * j)
  | _ => .non
theorem zip_mul {fs ws : List Int} : ((fs.zip ws).map fun p => p.1 * p.2).map V.int = ((fs.map V.int).zip (ws.map V.int)).map mulV := by
  induction fs generalizing ws with
  | nil => rfl
  | cons a r ih => cases ws with
    | nil => rfl
    | cons b t => simp only [List.zip_cons_cons, List.map_cons, ih, mulV]
end Gx
set_option linter.all false
set_option maxRecDepth 100000
set_option maxHeartbeats 4000000
namespace Gx
open PySem PySem.Spec PyProof.Rows L2
/-! ### == of data without truths and dicts -/
mutual
def nbD : PyData → Bool
  | .bool _ => false
  | .dict _ => false
  | .list ds => nbL ds
  | .tuple ds => nbL ds
  | _ => true
def nbL : List PyData → Bool
  | [] => true
  | d :: ds => nbD d && nbL ds
end
mutual
theorem eqv_eq : ∀ (d e : PyData), nbD d = true → nbD e = true → PyData.eqv d e = true → d = e
  | .none, e, _, h2, h => by cases e <;> simp_all [PyData.eqv, nbD]
  | .bool _, e, h1, _, _ => by simp [nbD] at h1
  | .int i, e, _, h2, h => by cases e <;> simp_all [PyData.eqv, nbD]
  | .str x, e, _, h2, h => by cases e <;> simp_all [PyData.eqv, nbD]
  | .list xs, e, h1, h2, h => by
    cases e with
    | list ys =>
      rw [PyData.eqv] at h
      rw [nbD] at h1 h2
      rw [eqvAll_eq xs ys h1 h2 h]
    | _ => simp [PyData.eqv] at h
  | .tuple xs, e, h1, h2, h => by
    cases e with
    | tuple ys =>
      rw [PyData.eqv] at h
      rw [nbD] at h1 h2
      rw [eqvAll_eq xs ys h1 h2 h]
    | _ => simp [PyData.eqv] at h
  | .dict _, e, h1, _, _ => by simp [nbD] at h1
theorem eqvAll_eq : ∀ (ds es : List PyData), nbL ds = true → nbL es = true → PyData.eqvAll ds es = true → ds = es
  | [], [], _, _, _ => rfl
  | [], _ :: _, _, _, h => by simp [PyData.eqvAll] at h
  | _ :: _, [], _, _, h => by simp [PyData.eqvAll] at h
  | d :: ds, e :: es, h1, h2, h => by
    rw [PyData.eqvAll, Bool.and_eq_true] at h
    rw [nbL, Bool.and_eq_true] at h1 h2
    rw [eqv_eq d e h1.1 h2.1 h.1, eqvAll_eq ds es h1.2 h2.2 h.2]
end
mutual
theorem eqv_same : ∀ (d : PyData), nbD d = true → PyData.eqv d d = true
  | .none, _ => rfl
  | .bool _, h => by simp [nbD] at h
  | .int i, _ => by simp [PyData.eqv]
  | .str x, _ => by simp [PyData.eqv]
  | .list xs, h => by rw [nbD] at h; rw [PyData.eqv]; exact eqvAll_same xs h
  | .tuple xs, h => by rw [nbD] at h; rw [PyData.eqv]; exact eqvAll_same xs h
  | .dict _, h => by simp [nbD] at h
theorem eqvAll_same : ∀ (ds : List PyData), nbL ds = true → PyData.eqvAll ds ds = true
  | [], _ => rfl
  | d :: ds, h => by
    rw [nbL, Bool.and_eq_true] at h
    rw [PyData.eqvAll, eqv_same d h.1, eqvAll_same ds h.2]
    rfl
end
theorem eqv_ne {d e : PyData} (h1 : nbD d = true) (h2 : nbD e = true) (n : d ≠ e) : PyData.eqv d e = false := by
  cases h : PyData.eqv d e with
  | false => rfl
  | true => exact absurd (eqv_eq d e h1 h2 h) n
mutual
theorem plain_nb : ∀ (d : PyData), nbD d = true → plainD d = true
  | .none, _ => rfl
  | .bool _, _ => rfl
  | .int i, _ => rfl
  | .str x, _ => rfl
  | .list xs, h => by rw [nbD] at h; rw [plainD]; exact plain_nbL xs h
  | .tuple xs, h => by rw [nbD] at h; rw [plainD]; exact plain_nbL xs h
  | .dict _, h => by simp [nbD] at h
theorem plain_nbL : ∀ (ds : List PyData), nbL ds = true → plainL ds = true
  | [], _ => rfl
  | d :: ds, h => by
    rw [nbL, Bool.and_eq_true] at h
    rw [plainL, plain_nb d h.1, plain_nbL ds h.2]
    rfl
end
/-- d and e are shaped alike enough for == -/
theorem r_neDt {K : PySem.W.Frag} {H : Hp} {Q : VK} {u v : V} {d e : PyData} (hu : Dt H u d) (hv : Dt H v e) (p1 : plainD d = true) (p2 : plainD e = true) (s1 : SeqAt.shaped d = true) (s2 : SeqAt.shaped e = true) (q : Q (.bl (!PyData.eqv d e)) H) : rNeD K u v H Q :=
  ⟨d, e, hu.dp p1, hv.dp p2, s1, s2, q⟩
theorem r_eqDt {K : PySem.W.Frag} {H : Hp} {Q : VK} {u v : V} {d e : PyData} (hu : Dt H u d) (hv : Dt H v e) (p1 : plainD d = true) (p2 : plainD e = true) (s1 : SeqAt.shaped d = true) (s2 : SeqAt.shaped e = true) (q : Q (.bl (PyData.eqv d e)) H) : rEqD K u v H Q :=
  ⟨d, e, hu.dp p1, hv.dp p2, s1, s2, q⟩
theorem form_nb (p : Prt) : nbD p.form = true := by cases p <;> rfl
theorem form_shaped (p : Prt) : SeqAt.shaped p.form = true := by
  cases p <;> simp [Prt.form, Prt.kind, SeqAt.shaped, PyData.canLay0, PyData.depth, PyData.depthAll, PyData.canLayAll0] <;> decide +kernel
theorem form_kind (p : Prt) : ∃ r, p.form = .tuple (.str p.kind :: r) := by cases p <;> exact ⟨_, rfl⟩
theorem fits_form {p p2 : Prt} {k : Kp} (ok : p2.ok) (h : p2.form = p.form) (f : fits p k) : fits p2 k := by
  have hk : p2.kind = p.kind := by
    obtain ⟨r, e⟩ := form_kind p
    obtain ⟨r2, e2⟩ := form_kind p2
    rw [e, e2] at h
    injection h with h
    injection h with h _
    injection h
  cases p <;> cases p2 <;> simp only [Prt.kind] at hk <;> first
    | exact absurd hk (by decide)
    | (cases k <;> exact f)
    | (simp only [Prt.form] at h; injection h with h; injection h with _ h; injection h with h _; injection h with h; cases k <;> first | exact f.elim | (simp only [fits] at f ⊢; refine ⟨by omega, f.2⟩))
end Gx
namespace Gx
open PySem PySem.Spec PyProof.Rows L2
/-! ### a worker -/
abbrev wf (x k : Addr) (b : Bool) : List (Str × V) := [("_part", .ref x), ("_kept", .ref k), ("_folded_last", .bl b)]
structure Wk (K : PySem.W.Frag) (CW : Addr) (H : Hp) (a dx x k : Addr) (p : Prt) (kp : Kp) (b : Bool) : Prop where
  at_ : H a = some (.ins CW dx (wf x k b))
  part : PAt H x p
  ok : p.ok
  kept : KAt K H k kp
  fit : fits p kp
section
variable {K : PySem.W.Frag} {CW : Addr} {H H' : Hp} {a dx x k : Addr} {p : Prt} {kp : Kp} {b : Bool}
theorem Wk.same (h : Wk K CW H a dx x k p kp b) (s : Same H H') : Wk K CW H' a dx x k p kp b := ⟨s _ _ h.at_, h.part.same s, h.ok, h.kept.same s, h.fit⟩
theorem Wk.off {l : List Addr} (h : Wk K CW H a dx x k p kp b) (c : Chg l H H') (n : a ∉ l) : Wk K CW H' a dx x k p kp b := ⟨c.off _ _ n h.at_, h.part.chg c, h.ok, h.kept.chg c, h.fit⟩
end
theorem r_sfld {K : PySem.W.Frag} {σ : L2.St} {H : Hp} {D : Ends} {ta tv : TE} {g : Str} (h : tv σ H fun y H1 => ta σ H1 fun x H2 => ∃ a C dx fs, x = .ref a ∧ H2 a = some (.ins C dx fs) ∧ Cls K C ∧ NoAttr K C g ∧ fs.length < 1000 ∧ D.nx σ (upd H2 a (.ins C dx (putF g y fs)))) : sFld K ta tv g D σ H := h
theorem r_tfld {K : PySem.W.Frag} {σ : L2.St} {H : Hp} {Q : VK} {ta : TE} {g : Str} (h : ta σ H fun x H1 => ∃ a C dx fs v, x = .ref a ∧ H1 a = some (.ins C dx fs) ∧ Cls K C ∧ NoAttr K C g ∧ fs.lookup g = some v ∧ Q v H1) : tFld K ta g σ H Q := h
/-- no part: what is refused -/
def Bad (H : Hp) (v : V) (CP : Addr) (E : XK) : Prop := ∃ d, Dt H v d ∧ tupOk d = true ∧ partD d = false ∧ ∀ c H', Same H H' → H' c = some (.xd [("found", v)]) → E (.ref CP) (some c) H'
def spInit (K : PySem.W.Frag) (CW CP : Addr) : Sp := fun vs H Q E => ∃ (a dx : Addr) (v : V), vs = [.ref a, v] ∧ H a = some (.ins CW dx []) ∧ ((∃ x p, v = .ref x ∧ PAt H x p ∧ p.ok ∧ ∀ k H', Chg [a] H H' → Wk K CW H' a dx x k p (first p) false → Q .non H') ∨ Bad H v CP E)
def spSample (K : PySem.W.Frag) (CW : Addr) : Sp := fun vs H Q _ => ∃ (a dx x k d : Addr) (p : Prt) (kp : Kp) (b : Bool) (es : List (Key × V)), vs = [.ref a, .ref d] ∧ Wk K CW H a dx x k p kp b ∧ H d = some (.dK es) ∧ InsOk es ∧
  ∀ k2 H', Chg [a] H H' → Wk K CW H' a dx x k2 p (step p kp (insG es)).2.1 (step p kp (insG es)).2.2 → Q (.int (step p kp (insG es)).1) H'
def spFolded (K : PySem.W.Frag) (CW : Addr) : Sp := fun vs H Q _ => ∃ (a dx x k : Addr) (p : Prt) (kp : Kp) (b : Bool), vs = [.ref a] ∧ Wk K CW H a dx x k p kp b ∧ Q (.bl b) H
def spPartM (K : PySem.W.Frag) (CW : Addr) : Sp := fun vs H Q _ => ∃ (a dx x k : Addr) (p : Prt) (kp : Kp) (b : Bool), vs = [.ref a] ∧ Wk K CW H a dx x k p kp b ∧ Q (.ref x) H
def optV : Option Int → V
  | some i => .int i
  | none => .non
def spAheadM (K : PySem.W.Frag) (CW : Addr) : Sp := fun vs H Q _ => ∃ (a dx x k : Addr) (p : Prt) (kp : Kp) (b : Bool), vs = [.ref a] ∧ Wk K CW H a dx x k p kp b ∧ ∀ H', Same H H' → Q (optV (aheadF p kp)) H'
def spGive (K : PySem.W.Frag) (CW CP : Addr) : Sp := fun vs H Q E => ∃ (a dx x k : Addr) (p : Prt) (kp : Kp) (b : Bool) (v : V), vs = [.ref a, v] ∧ Wk K CW H a dx x k p kp b ∧
  ((∃ x2 p2, v = .ref x2 ∧ PAt H x2 p2 ∧ p2.ok ∧ p2.form = p.form ∧ ∀ H', Chg [a] H H' → Wk K CW H' a dx x2 k p2 kp b → Q .non H') ∨
   (∃ x2 p2, v = .ref x2 ∧ PAt H x2 p2 ∧ p2.ok ∧ p2.form ≠ p.form ∧ ∀ c H', Same H H' → H' c = some (.xd [("found", v)]) → E (.ref CP) (some c) H') ∨ Bad H v CP E)
def Kp.items : Kp → List PyData
  | .none => []
  | .one x => [.int x]
  | .two x c => [.int x, .int c]
  | .shp lv y => [.int lv, .str y.s]
  | .line xs => [.tuple (xs.map PyData.int)]
def standD (p : Prt) (kp : Kp) : PyData := .tuple (p.dat :: kp.items)
def spStandsM (K : PySem.W.Frag) (CW : Addr) : Sp := fun vs H Q _ => ∃ (a dx x k : Addr) (p : Prt) (kp : Kp) (b : Bool), vs = [.ref a] ∧ Wk K CW H a dx x k p kp b ∧ ∀ t xs H', Same H H' → H' t = some (.tup (.ref x :: xs)) → DtL H' xs kp.items → Q (.ref t) H'
theorem KAt.items {K : PySem.W.Frag} {H : Hp} {k : Addr} {kp : Kp} (h : KAt K H k kp) : ∃ xs, Tp K H k xs ∧ DtL H xs kp.items ∧ xs.length ≤ 2 := by
  cases kp with
  | none => exact ⟨_, h, .nil, Nat.le_of_ble_eq_true rfl⟩
  | one x => exact ⟨_, h, .cons (.int _) .nil, Nat.le_of_ble_eq_true rfl⟩
  | two x c => exact ⟨_, h, .cons (.int _) (.cons (.int _) .nil), Nat.le_of_ble_eq_true rfl⟩
  | shp lv y => exact ⟨_, h, .cons (.int _) (.cons (.str _) .nil), Nat.le_of_ble_eq_true rfl⟩
  | line xs =>
    obtain ⟨t, a, b⟩ := h
    exact ⟨_, .inl a, .cons (.tup b (.ints xs)) .nil, Nat.le_of_ble_eq_true rfl⟩
end Gx
set_option linter.all false
set_option maxRecDepth 100000
set_option maxHeartbeats 4000000
namespace Gx
open PySem PySem.Spec PyProof.Rows L2
/-! ### draws, the rest of the heap as it was -/
theorem Chg.ofOff {b : Addr} {n : Nat} {H H' : Hp} (B : Bx n H b) (o : Off b H H') : Chg [b] H H' :=
  ⟨fun c u m h => o c u (by simpa using m) h, fun c xs h => o c _ (fun z => by
    obtain ⟨x, y, w, e, _⟩ := B
    rw [z, e] at h
    cases h) h⟩
structure Dw (b : Addr) (H0 H : Hp) (m : Nat) : Prop where
  bx : Bx m H b
  chg : Chg [b] H0 H
section
variable {b : Addr} {H0 H H' : Hp} {m : Nat} {Q : VK} {E : XK}
theorem Dw.same (D : Dw b H0 H m) (s : Same H H') : Dw b H0 H' m := ⟨D.bx.same s, D.chg.same' s⟩
theorem Dw.up {n : Nat} (D : Dw b H0 H m) (h : m ≤ n) : Dw b H0 H n := ⟨D.bx.up h, D.chg⟩
theorem Dw.new {p : Addr} (D : Dw b H0 H m) (h : H p = none) : p ≠ b := D.bx.ne h
theorem dr_take {size : Int} (D : Dw b H0 H m) (h0 : 0 < size) (h1 : size < 2 ^ 200) (hm : m < 100000) (q : ∀ d H', 0 ≤ d → d < size → Chg [b] H H' → Dw b H0 H' (m + 1) → Q (.int d) H') : spTake [.ref b, .int size] H Q E :=
  ⟨b, size, m, rfl, h0, h1, D.bx, hm, fun d H' d0 d1 B o => q d H' d0 d1 (.ofOff D.bx o) ⟨B, D.chg.trans (.ofOff D.bx o)⟩⟩
end
theorem none_chg {l : List Addr} {H H' : Hp} {p : Addr} (c : Chg l H H') (n : p ∉ l) (h : H' p = none) : H p = none := by
  cases e : H p with
  | none => rfl
  | some u => rw [c.off p u n e] at h; cases h
theorem Dw.none {b p : Addr} {H0 H : Hp} {m : Nat} (D : Dw b H0 H m) (h : H p = .none) : H0 p = .none := none_chg D.chg (by simpa using D.new h) h
theorem Dw.upd {b p : Addr} {H0 H : Hp} {m : Nat} {o : HO} (D : Dw b H0 H m) (n : H0 p = .none) (pb : p ≠ b) : Dw b H0 (L2.upd H p o) m := by
  have ne : ∀ {c u}, H0 c = some u → c ≠ p := fun h z => by subst z; rw [n] at h; cases h
  refine ⟨?_, ⟨fun c u m h => by rw [upd_ne (ne h)]; exact D.chg.off c u m h, fun c xs h => by rw [upd_ne (ne h)]; exact D.chg.tup c xs h⟩⟩
  obtain ⟨x, y, z, e, r⟩ := D.bx
  exact ⟨x, y, z, by rw [upd_ne (Ne.symm pb)]; exact e, r⟩
/-- a new part, drawn -/
def spLPart : Sp := fun vs H Q _ => ∃ (b : Addr) (n : Nat) (k : Str), vs = [.ref b, .str k] ∧ some k ∈ [some ("from" : Str), some "wave", some "slow", some "noise", some "shape", some "taps", some "mix", some "times", some "delay", some "follow"] ∧ Bx n H b ∧ n < 90000 ∧
  ∀ x p H', p.kind = k → p.ok → PAt H' x p → Chg [b] H H' → Bx (n + 20) H' b → Q (.ref x) H'
theorem ten {k : Str} (h : some k ∈ [some ("from" : Str), some "wave", some "slow", some "noise", some "shape", some "taps", some "mix", some "times", some "delay", some "follow"]) :
    k = "from" ∨ k = "wave" ∨ k = "slow" ∨ k = "noise" ∨ k = "shape" ∨ k = "taps" ∨ k = "mix" ∨ k = "times" ∨ k = "delay" ∨ k = "follow" := by simpa using h
theorem r_bm {K : PySem.W.Frag} {T : String} {σ : L2.St} {H : Hp} {Q : VK} {r : V → List V → Hp → VK → Prop} {i : Nat} {v : V} {t : TA} (ty : tyV K T v H) (hv : σ[i]? = some (some v)) (h : t σ H fun xs H2 => r v xs H2 Q) : tBM K T r (tVar i) t σ H Q := ⟨v, hv, ty, h⟩
end Gx
set_option linter.all false
set_option maxRecDepth 100000
set_option maxHeartbeats 4000000
namespace Gx
open PySem PySem.Spec PyProof.Rows L2
/-! ### how a law's own machine stands -/
def W5.w : W5 → Str
  | .rest => "rests"
  | .up => "up"
  | .down => "down"
  | .stay => "stays"
  | .away => "away"
def LSt : Prt → Kp → List V → Prop
  | .wave _ _, .one x, l => ∃ j : Int, l = [.int x, .int j]
  | .slow _ _, .two x c, l => ∃ j : Int, l = [.int x, .int j] ∧ j % 16 = c
  | .noise _, .one x, l => l = [.int x]
  | .shape _, .shp lv y, l => l = [.str y.w, .int lv] ∧ (y = .rest → lv = 0)
  | .taps _ _, .line xs, l => ∃ o : Int, l = (xs ++ [o]).map V.int
  | .delay _, .line xs, l => l = xs.map V.int
  | .follow _, .one x, l => ∃ o : Int, l = [.int x, .int o]
  | _, _, _ => True
def spLTab : Sp := fun vs H Q _ => ∃ z p, vs = [.str z, .int p] ∧ tabOk z ∧ 0 ≤ p ∧ p < 64 ∧ ∀ H', Same H H' → Q (.int (gTab z p)) H'
def spLNew : Sp := fun vs H Q _ => ∃ (x : Addr) (p : Prt), vs = [.ref x] ∧ PAt H x p ∧ p.ok ∧ ∀ l ls H', H l = none → Same H H' → H' l = some (.lst ls) → LSt p (first p) ls → Q (.ref l) H'
def LSh (H : Hp) (l : Addr) (r : Int × W5) : Prop := H l = some (.lst [.str r.2.w, .int r.1]) ∧ (r.2 = .rest → r.1 = 0)
def spLShaped : Sp := fun vs H Q _ => ∃ (l x : Addr) (g : Int) (p : Pm) (lv : Int) (y : W5), vs = [.ref l, .ref x, .int g] ∧ H l = some (.lst [.str y.w, .int lv]) ∧ (y = .rest → lv = 0) ∧ H x = some (.tup p.tup) ∧
  ∀ H', Chg [l] H H' → LSh H' l (mv p lv (wordF y (decide (0 < g)))) → Q (.int (mv p lv (wordF y (decide (0 < g)))).1) H'
def spLDone : Sp := fun vs H Q _ => ∃ (l x d : Addr) (p : Prt) (kp : Kp) (ls : List V) (es : List (Key × V)), vs = [.ref l, .ref x, .ref d] ∧ H l = some (.lst ls) ∧ LSt p kp ls ∧ PAt H x p ∧ p.ok ∧ fits p kp ∧ (∀ n, p ≠ .frm n) ∧ H d = some (.dK es) ∧ InsOk es ∧
  ∀ r ls' H', Chg [l] H H' → H' l = some (.lst ls') → LSt p (Gx.step p kp (insG es)).2.1 ls' → H' r = some (.tup [.int (Gx.step p kp (insG es)).1, .bl (Gx.step p kp (insG es)).2.2]) → Q (.ref r) H'
def spLAhead : Sp := fun vs H Q _ => ∃ (x l : Addr) (p : Prt) (kp : Kp) (ls : List V), vs = [.ref x, .ref l] ∧ H l = some (.lst ls) ∧ LSt p kp ls ∧ PAt H x p ∧ p.ok ∧ fits p kp ∧ ∀ H', Same H H' → Q (optV (aheadF p kp)) H'
section
variable {σ : L2.St} {H : Hp} {Q : VK}
theorem r_disp2 {z1 z2 : Str} {v1 v2 : V} (q : ∀ p, H p = none → Q (.ref p) (upd H p (.dK (mergeK [] [(.inr z1, v1), (.inr z2, v2)])))) : tDisp [(tC (.str z1), tC v1), (tC (.str z2), tC v2)] σ H Q := fun p hp => by
  refine ⟨upd_same, [(.inr z1, v1), (.inr z2, v2)], rfl, Nat.le_of_ble_eq_true rfl, ?_⟩
  rw [upd_upd]
  exact q p hp
theorem zip_mul' {fs ws : List Int} : ((fs.zip ws).map fun p => p.1 * p.2).map V.int = ((ws.map V.int).zip (fs.map V.int)).map mulV := by
  induction fs generalizing ws with
  | nil => cases ws <;> rfl
  | cons a r ih => cases ws with
    | nil => rfl
    | cons b t => simp only [List.zip_cons_cons, List.map_cons, ih, mulV, Int.mul_comm]
end
end Gx
namespace Gx
theorem rep_flat (n : Nat) : (List.replicate n [L2.V.int 0]).flatten = (List.replicate n (0 : Int)).map L2.V.int := by
  induction n with
  | zero => rfl
  | succ n ih => rw [List.replicate_succ, List.flatten_cons, ih, List.replicate_succ]; rfl
end Gx
namespace Gx
open PySem PySem.Spec PyProof.Rows L2
section
variable {K : PySem.W.Frag} {σ : L2.St} {H : Hp} {Q : VK}
theorem r_zip {ta : TA} {R : It → Hp → Prop} (h : ta σ H fun vs H1 => ∃ k1 k2 a b xs ys, vs = [.ref a, .ref b] ∧ SqK k1 K H1 a xs ∧ SqK k2 K H1 b ys ∧ R (Itp (GZip k1 k2 K a b)) H1) : iZipE K ta σ H R := h
theorem r_enum {ta : TA} {R : It → Hp → Prop} (h : ta σ H fun vs H1 => ∃ k a xs, vs = [.ref a] ∧ SqK k K H1 a xs ∧ R (Itp (GEnum k K a)) H1) : iEnumE K ta σ H R := h
theorem r_bm0 {T : String} {r : V → List V → Hp → VK → Prop} {i : Nat} {v : V} (ty : tyV K T v H) (hv : σ[i]? = some (some v)) (h : r v [] H Q) : tBM0 K T r (tVar i) σ H Q := ⟨v, hv, ty, h⟩
theorem zip_mem2 {fs ws : List Int} : ∀ p ∈ (ws.map V.int).zip (fs.map V.int), ∃ i j : Int, p = (.int i, .int j) ∧ j ∈ fs := by
  induction fs generalizing ws with
  | nil => intro p hp; simp at hp
  | cons a r ih => cases ws with
    | nil => intro p hp; simp at hp
    | cons b t =>
      intro p hp
      simp only [List.map_cons, List.zip_cons_cons] at hp
      rcases List.mem_cons.mp hp with rfl | hp
      · exact ⟨b, a, rfl, List.mem_cons_self⟩
      · obtain ⟨i, j, e, h⟩ := ih p hp
        exact ⟨i, j, e, List.mem_cons_of_mem _ h⟩
def portAt (i : Nat) : Str := match i with
  | 0 => "a"
  | 1 => "b"
  | 2 => "c"
  | _ => "d"
def mixV (g : Str → Int) (p : V × V) : V := match p.1, p.2 with
  | .int i, .int b => .int (g (portAt i.toNat) * b)
  | _, _ => .non
theorem four {fs : List Int} (h : fs.length ≤ 4) : fs = [] ∨ (∃ a, fs = [a]) ∨ (∃ a b, fs = [a, b]) ∨ (∃ a b c, fs = [a, b, c]) ∨ ∃ a b c d, fs = [a, b, c, d] := by
  match fs, h with
  | [], _ => exact .inl rfl
  | [a], _ => exact .inr (.inl ⟨_, rfl⟩)
  | [a, b], _ => exact .inr (.inr (.inl ⟨_, _, rfl⟩))
  | [a, b, c], _ => exact .inr (.inr (.inr (.inl ⟨_, _, _, rfl⟩)))
  | [a, b, c, d], _ => exact .inr (.inr (.inr (.inr ⟨_, _, _, _, rfl⟩)))
  | _ :: _ :: _ :: _ :: _ :: _, h => exact absurd h (by simp)
theorem mix_mul {fs : List Int} {g : Str → Int} (h : fs.length ≤ 4) : (enumL (fs.map V.int)).map (mixV g) = ((fs.zip ((portsN fs.length).map g)).map fun p => p.1 * p.2).map V.int := by
  rcases four h with rfl | ⟨a, rfl⟩ | ⟨a, b, rfl⟩ | ⟨a, b, c, rfl⟩ | ⟨a, b, c, d, rfl⟩
  · rfl
  · show [V.int (g "a" * a)] = [V.int (a * g "a")]
    rw [Int.mul_comm]
  · show [V.int (g "a" * a), V.int (g "b" * b)] = [V.int (a * g "a"), V.int (b * g "b")]
    rw [Int.mul_comm, Int.mul_comm (g "b")]
  · show [V.int (g "a" * a), V.int (g "b" * b), V.int (g "c" * c)] = [V.int (a * g "a"), V.int (b * g "b"), V.int (c * g "c")]
    rw [Int.mul_comm, Int.mul_comm (g "b"), Int.mul_comm (g "c")]
  · show [V.int (g "a" * a), V.int (g "b" * b), V.int (g "c" * c), V.int (g "d" * d)] = [V.int (a * g "a"), V.int (b * g "b"), V.int (c * g "c"), V.int (d * g "d")]
    rw [Int.mul_comm, Int.mul_comm (g "b"), Int.mul_comm (g "c"), Int.mul_comm (g "d")]
theorem enum_mem {fs : List Int} (h : fs.length ≤ 4) : ∀ p ∈ enumL (fs.map V.int), ∃ (i : Nat) (j : Int), p = (.int i, .int j) ∧ i < 4 ∧ j ∈ fs := by
  intro p hp
  unfold enumL at hp
  obtain ⟨⟨n, v⟩, hm, rfl⟩ := List.mem_map.mp hp
  have h1 := List.of_mem_zip hm
  have hn : n < 4 := by
    have := List.mem_range.mp h1.1
    rw [List.length_map] at this
    omega
  obtain ⟨j, hj, rfl⟩ := List.mem_map.mp h1.2
  exact ⟨n, j, rfl, hn, hj⟩
theorem ab_ix {i : Nat} (h : i < 4) (r : Q (.str (portAt i)) H) : rIxS (.str "abcd") (.int i) H Q := by
  match i, h with
  | 0, _ => exact ⟨_, 0, 97, rfl, rfl, Nat.le_of_ble_eq_true rfl, rfl, r⟩
  | 1, _ => exact ⟨_, 1, 98, rfl, rfl, Nat.le_of_ble_eq_true rfl, rfl, r⟩
  | 2, _ => exact ⟨_, 2, 99, rfl, rfl, Nat.le_of_ble_eq_true rfl, rfl, r⟩
  | 3, _ => exact ⟨_, 3, 100, rfl, rfl, Nat.le_of_ble_eq_true rfl, rfl, r⟩
end
end Gx
namespace Gx
open PySem
theorem seq0 {n : Nat} (h : 0 < n) : seqIndex? 0 n = some 0 := by
  have h2 : (0 : Int) < n := by omega
  unfold seqIndex?
  simp only [Int.lt_irrefl, if_false, Int.le_refl, decide_true, Bool.true_and, h2]
  rfl
end Gx
set_option linter.all false
set_option maxRecDepth 100000
set_option maxHeartbeats 4000000
namespace Gx
open PySem PySem.Spec PyProof.Rows L2
/-! ### a method called within a suite -/
def tMethE (C : Addr) (m : Str) (sp : Sp) (E : L2.St → XK) (ta : TE) (t : TA) : TE := fun σ H Q => ta σ H fun x H1 => ∃ a dx fs, x = .ref a ∧ H1 a = some (.ins C dx fs) ∧ fs.lookup m = none ∧ t σ H1 fun vs H2 => sp (x :: vs) H2 Q (E σ)
theorem pe_methE {X : Cx} {CX : CXT} {j : Nat} {g C : Addr} {gd : FuncData} {gs : List Str} {sp : Sp} {E : L2.St → XK} {m : Str} {pos apos : Pos} {e o : Expr} {es : List Expr} {ta : TE} {t : TA} {pl : Sem Bool} (ho : PE X o ta) (cC : Cls X.K C) (hM : Meth X.K C m g)
    (F : FnOk X.prog X.w X.K X.mg X.base CX j g gd gs sp) (room : Room j X.A) (bi : Binds X.K gd gs []) (pas : ∀ σ, PassesAt CX X σ (E σ)) (hA : PA X (e :: es) t)
    (h1 : starEach (e :: es) X.env = (false, eval e X.env) :: starEach es X.env := by rfl) (h2 : (backTo pos (starEach es X.env)).any (·.1) = false := by rfl)
    (h3 : eval (.Call (.Attribute o m apos) (e :: es) [] pos) X.env = (do
      let u ← eval o X.env
      standAt apos.atName
      let (c, z) ← holding [u] (getMethod u m pl)
      callWith pos c z (backTo pos (starEach (e :: es) X.env)) (backToKw pos (keywordEach [] X.env))) := by rfl) :
    PE X (.Call (.Attribute o m apos) (e :: es) [] pos) (tMethE C m sp E ta t) := by
  refine ⟨fun pn s0 σ H0 Q I0 go => ?_⟩
  refine PySem.W.methodCall_KW (pl := pl) (thn (ho.run pn s0 σ H0 _ I0 go) fun w s1 ⟨y, H1, I1, ry, a, dx, fs, ey, ea, el, go1⟩ => ?_) h3
  subst ey
  obtain rfl : w = Value.ref a := ry
  refine getmeth_ok I1 ea cC hM el ?_
  refine PySem.W.callWith_K (h₀ := X.base) (first := [.ref a]) I0.ok.mod.kin hM.kp (thn (hA.run pos pn s1 σ H1 _ I1 go1) fun ws s2 ⟨ys, H2, I2, rs, go2⟩ => ⟨I2.kIn, ?_⟩) h1 h2
  exact run_fnS (vs := .ref a :: ys) (us := .ref a :: ws) F room bi (pas σ) I2 (.cons rfl rs) go2
theorem r_methE {σ : L2.St} {H : Hp} {Q : VK} {C : Addr} {m : Str} {sp : Sp} {E : L2.St → XK} {ta : TE} {t : TA} (h : ta σ H fun x H1 => ∃ a dx fs, x = .ref a ∧ H1 a = some (.ins C dx fs) ∧ fs.lookup m = none ∧ t σ H1 fun vs H2 => sp (x :: vs) H2 Q (E σ)) : tMethE C m sp E ta t σ H Q := h
theorem r_meth {σ : L2.St} {H : Hp} {Q : VK} {C : Addr} {m : Str} {sp : Sp} {E : XK} {ta : TE} {t : TA} (h : ta σ H fun x H1 => ∃ a dx fs, x = .ref a ∧ H1 a = some (.ins C dx fs) ∧ fs.lookup m = none ∧ t σ H1 fun vs H2 => sp (x :: (vs ++ [])) H2 Q E) : tMeth C m sp [] E ta t σ H Q := h
theorem r_make {σ : L2.St} {H : Hp} {Q : VK} {C : Addr} {sp : Sp} {E : XK} {t : TA} (h : t σ H fun vs H1 => ∀ x dx, H1 x = none → H1 dx = none → dx ≠ x → sp (.ref x :: (vs ++ [])) (upd (upd H1 dx (.own x)) x (.ins C dx [])) (fun v H2 => v = .non ∧ Q (.ref x) H2) E) : tMake C sp [] E t σ H Q := h
theorem r_xf {a : Addr} {cls : Value} {d : Option Addr} {C : Addr} {g : Str} {te : TE} {σ : L2.St} {H : Hp} {Q : VK} (h : te σ H fun x H1 => x = .ref a ∧ cls = .ref C ∧ ∃ (dd : Addr) (fs : List (Str × V)) (v : V), d = some dd ∧ H1 dd = some (.xd fs) ∧ fs.lookup g = some v ∧ Q v H1) : tXf a cls d C g te σ H Q := h
theorem r_dnewK {σ : L2.St} {H : Hp} {Q : VK} (q : ∀ p H1, H p = none → Same H H1 → H1 p = some (.dK []) → Q (.ref p) H1) : tDNewK σ H Q := fun p hp => q p _ hp (same_new hp) upd_same
/-! ### small data show -/
mutual
theorem Dt.isD {H : Hp} : ∀ {d : PyData} {v : V}, Dt H v d → plainD d = true → IsD H d v
  | _, _, .non, _ => by unfold IsD; rfl
  | _, _, .bl _, _ => by unfold IsD; rfl
  | _, _, .int _, _ => by unfold IsD; rfl
  | _, _, .str _, _ => by unfold IsD; rfl
  | _, _, .lst h hs, p => by
    rw [plainD] at p
    unfold IsD
    exact ⟨_, _, rfl, h, DtL.allD hs p⟩
  | _, _, .tup h hs, p => by
    rw [plainD] at p
    unfold IsD
    exact ⟨_, _, rfl, h, DtL.allD hs p⟩
  | _, _, .dct h, p => by simp [plainD, dctD] at p
theorem DtL.allD {H : Hp} : ∀ {ds : List PyData} {vs : List V}, DtL H vs ds → plainL ds = true → AllD H ds vs
  | _, _, .nil, _ => by unfold AllD; rfl
  | _, _, .cons h hs, p => by
    rw [plainL, Bool.and_eq_true] at p
    unfold AllD
    exact ⟨_, _, rfl, Dt.isD h p.1, DtL.allD hs p.2⟩
end
mutual
def smD : PyData → Bool
  | .int i => decide (i.natAbs < 100000)
  | .str x => x.cps.all (· < 0x110000) && decide (x.cps.size ≤ 1000)
  | .list xs => smL xs
  | .tuple xs => smL xs
  | .dict _ => false
  | _ => true
def smL : List PyData → Bool
  | [] => true
  | x :: xs => smD x && smL xs
def cntD : PyData → Nat
  | .list xs => cntL xs
  | .tuple xs => cntL xs
  | _ => 1
def cntL : List PyData → Nat
  | [] => 0
  | x :: xs => cntD x + 1 + cntL xs
end
mutual
theorem sm_facts : ∀ (d : PyData), smD d = true → d.canLay0 = true ∧ d.showable = true ∧ d.intsShort 13 = true ∧ d.weight ≤ 1000 * cntD d ∧ plainD d = true ∧ d.hasDict = false
  | .none, _ => ⟨by simp [PyData.canLay0], by simp [PyData.showable], by simp [PyData.intsShort], by simp [PyData.weight], rfl, by simp [PyData.hasDict]⟩
  | .bool b, _ => ⟨by simp [PyData.canLay0], by simp [PyData.showable], by simp [PyData.intsShort], by simp [PyData.weight], rfl, by simp [PyData.hasDict]⟩
  | .int i, h => by
    have h : i.natAbs < 100000 := by simpa [smD] using h
    refine ⟨by simp [PyData.canLay0], ?_, ?_, ?_, rfl, by simp [PyData.hasDict]⟩
    · have := log_small (i := i) (Nat.lt_of_lt_of_le h (by decide))
      simpa [PyData.showable] using this
    · have := PyData.shown_int_le2 (i := i) (by omega) (by omega)
      simpa [PyData.intsShort] using this
    · simp only [PyData.weight, cntD]
      split
      · omega
      · have hz : i.natAbs ≠ 0 := fun z => by simp_all
        have : i.natAbs.log2 < 17 := (Nat.log2_lt hz).mpr (Nat.lt_of_lt_of_le h (by decide))
        omega
  | .str x, h => by
    simp only [smD, Bool.and_eq_true, decide_eq_true_eq] at h
    refine ⟨?_, by simp [PyData.showable], by simp [PyData.intsShort], ?_, rfl, by simp [PyData.hasDict]⟩
    · simp only [PyData.canLay0, PyData.strOk]
      exact h.1
    · simp only [PyData.weight, cntD]
      omega
  | .list xs, h => by
    rw [smD] at h
    obtain ⟨a, b, c, d, e, f⟩ := sm_factsL xs h
    refine ⟨by simpa [PyData.canLay0] using a, by simpa [PyData.showable] using b, by simpa [PyData.intsShort] using c, ?_, by rw [plainD]; exact e, by simpa [PyData.hasDict] using f⟩
    simpa [PyData.weight, cntD] using d
  | .tuple xs, h => by
    rw [smD] at h
    obtain ⟨a, b, c, d, e, f⟩ := sm_factsL xs h
    refine ⟨by simpa [PyData.canLay0] using a, by simpa [PyData.showable] using b, by simpa [PyData.intsShort] using c, ?_, by rw [plainD]; exact e, by simpa [PyData.hasDict] using f⟩
    simpa [PyData.weight, cntD] using d
  | .dict _, h => by simp [smD] at h
theorem sm_factsL : ∀ (ds : List PyData), smL ds = true → PyData.canLayAll0 ds = true ∧ PyData.showableAll ds = true ∧ PyData.intsShortAll 13 ds = true ∧ PyData.weightAll ds ≤ 1000 * cntL ds ∧ plainL ds = true ∧ PyData.hasDictAll ds = false
  | [], _ => ⟨by simp [PyData.canLayAll0], by simp [PyData.showableAll], by simp [PyData.intsShortAll], by simp [PyData.weightAll], rfl, by simp [PyData.hasDictAll]⟩
  | d :: ds, h => by
    rw [smL, Bool.and_eq_true] at h
    obtain ⟨a, b, c, w, e, f⟩ := sm_facts d h.1
    obtain ⟨a', b', c', w', e', f'⟩ := sm_factsL ds h.2
    refine ⟨by simp [PyData.canLayAll0, a, a'], by simp [PyData.showableAll, b, b'], by simp [PyData.intsShortAll, c, c'], ?_, by rw [plainL, e, e']; rfl, by simp [PyData.hasDictAll, f, f']⟩
    simp only [PyData.weightAll, cntL]
    omega
end
/-- a value whose repr is some text, also later -/
def Shw (H : Hp) (v : V) : Prop := ∃ z : Str, ∀ H', Same H H' → ∀ Q : VK, Q (.str z) H' → rShowE [v] H' Q
theorem Shw.same {H H' : Hp} {v : V} (h : Shw H v) (s : Same H H') : Shw H' v := by
  obtain ⟨z, h⟩ := h
  exact ⟨z, fun H2 s2 => h H2 (s.trans s2)⟩
theorem sm_show {H : Hp} {Q : VK} {v : V} {d : PyData} (h : Dt H v d) (sm : smD d = true) (dp : d.depth ≤ 20) (ct : cntD d ≤ 1000) (q : Q (.str d.shown) H) : rShowE [v] H Q := by
  obtain ⟨a, b, c, w, e, f⟩ := sm_facts d sm
  refine r_sh d (h.isD e) ?_ q
  have lay : d.layable0 = true := by
    simp only [PyData.layable0, Bool.and_eq_true, decide_eq_true_eq]
    exact ⟨⟨a, by omega⟩, Nat.le_trans w (Nat.le_trans (Nat.mul_le_mul_left 1000 ct) (by decide))⟩
  have len := shown_le13 lay c
  have : d.shown.length ≤ sizeLine := Nat.le_trans len (by rw [sizeLine_eq]; decide)
  simp [f, b, dp, this]
theorem sm_shw {H : Hp} {v : V} {d : PyData} (h : Dt H v d) (sm : smD d = true) (dp : d.depth ≤ 20) (ct : cntD d ≤ 1000) : Shw H v :=
  ⟨d.shown, fun H' s Q q => sm_show (h.same s) sm dp ct q⟩
theorem sm_shaped {d : PyData} (sm : smD d = true) (dp : d.depth ≤ 20) : SeqAt.shaped d = true := by
  unfold SeqAt.shaped
  rw [(sm_facts d sm).1, Bool.true_and]
  exact decide_eq_true (by omega)
theorem sm_ints {fs : List Int} (h : ∀ i ∈ fs, -256 ≤ i ∧ i ≤ 256) : smL (fs.map PyData.int) = true := by
  induction fs with
  | nil => rfl
  | cons a r ih =>
    rw [List.map_cons, smL, ih fun i hi => h i (List.mem_cons_of_mem _ hi), Bool.and_true]
    have := h a List.mem_cons_self
    simp only [smD]
    exact decide_eq_true (by omega)
theorem dp_ints {fs : List Int} : PyData.depthAll (fs.map PyData.int) = 0 := by
  induction fs with
  | nil => simp [PyData.depthAll]
  | cons a r ih => rw [List.map_cons, PyData.depthAll, ih]; simp [PyData.depth]
theorem ct_ints {fs : List Int} : cntL (fs.map PyData.int) = 2 * fs.length := by
  induction fs with
  | nil => rfl
  | cons a r ih =>
    rw [List.map_cons, cntL, ih, List.length_cons]
    simp only [cntD]
    omega
theorem nb_ints {fs : List Int} : nbL (fs.map PyData.int) = true := by
  induction fs with
  | nil => rfl
  | cons a r ih => rw [List.map_cons, nbL, ih]; rfl
theorem dat_nb (p : Prt) : nbD p.dat = true := by
  cases p <;> simp [Prt.dat, Prt.rest, nbD, nbL, nb_ints]
theorem sm_int {i : Int} (h : -5000 ≤ i ∧ i ≤ 5000) : smD (.int i) = true := by
  simp only [smD]
  exact decide_eq_true (by omega)
theorem sm_tab {z : Str} (h : tabOk z) : smD (.str z) = true := by
  rcases h with rfl | rfl | rfl | rfl | rfl <;> decide +kernel
theorem sm_man {z : Str} (h : manOk z) : smD (.str z) = true := by
  rcases h with rfl | rfl | rfl <;> decide +kernel
theorem sm_name {z : Str} (h : nameB z = true) : smD (.str z) = true := by
  unfold nameB at h
  simp only [Bool.and_eq_true, decide_eq_true_eq] at h
  obtain ⟨⟨_, h2⟩, h3⟩ := h
  simp only [smD, Bool.and_eq_true, decide_eq_true_eq]
  refine ⟨?_, ?_⟩
  · rw [← Array.all_toList]
    refine List.all_eq_true.mpr fun c hc => ?_
    have := List.all_eq_true.mp h3 c hc
    unfold lower at this
    simp only [Bool.and_eq_true, decide_eq_true_eq] at this ⊢
    omega
  · have : z.cps.size = z.length := rfl
    omega
theorem sm_rest {p : Prt} (h : p.ok) : smL (.str p.kind :: p.rest) = true ∧ PyData.depthAll (.str p.kind :: p.rest) ≤ 1 ∧ cntL (.str p.kind :: p.rest) ≤ 40 := by
  have kd : smD (.str p.kind) = true := by cases p <;> (simp only [Prt.kind]; decide +kernel)
  rw [smL, kd, Bool.true_and]
  simp only [PyData.depthAll, PyData.depth, cntL, cntD]
  cases p with
  | frm n => exact ⟨by simp [Prt.rest, smL, sm_name h.1], by simp [Prt.rest, PyData.depthAll, PyData.depth], by simp [Prt.rest, cntL, cntD]⟩
  | wave t s => exact ⟨by simp [Prt.rest, smL, sm_tab h.1, sm_int (i := s) (by have := h.2; omega)], by simp [Prt.rest, PyData.depthAll, PyData.depth], by simp [Prt.rest, cntL, cntD]⟩
  | slow t s => exact ⟨by simp [Prt.rest, smL, sm_tab h.1, sm_int (i := s) (by have := h.2; omega)], by simp [Prt.rest, PyData.depthAll, PyData.depth], by simp [Prt.rest, cntL, cntD]⟩
  | noise s => exact ⟨by simp [Prt.rest, smL, sm_int (i := s) (by have : 0 ≤ s ∧ s ≤ 4095 := h; omega)], by simp [Prt.rest, PyData.depthAll, PyData.depth], by simp [Prt.rest, cntL, cntD]⟩
  | shape p =>
    obtain ⟨a, b, c, d⟩ := h
    exact ⟨by simp [Prt.rest, smL, sm_int (i := p.u) (by omega), sm_int (i := p.d) (by omega), sm_int (i := p.s) (by omega), sm_int (i := p.a) (by omega)], by simp [Prt.rest, PyData.depthAll, PyData.depth], by simp [Prt.rest, cntL, cntD]⟩
  | taps fs m =>
    obtain ⟨⟨h1, h2, h3⟩, h4⟩ := h
    exact ⟨by simp [Prt.rest, smL, show smD (.tuple (fs.map PyData.int)) = true from (by rw [smD]; exact sm_ints h3), sm_man h4], by simp [Prt.rest, PyData.depthAll, PyData.depth, dp_ints], by simp [Prt.rest, cntL, cntD, ct_ints]; omega⟩
  | mix fs m =>
    obtain ⟨⟨h1, h2, h3⟩, h4⟩ := h
    exact ⟨by simp [Prt.rest, smL, show smD (.tuple (fs.map PyData.int)) = true from (by rw [smD]; exact sm_ints h3), sm_man h4], by simp [Prt.rest, PyData.depthAll, PyData.depth, dp_ints], by simp [Prt.rest, cntL, cntD, ct_ints]; omega⟩
  | times m => exact ⟨by simp [Prt.rest, smL, sm_man h], by simp [Prt.rest, PyData.depthAll, PyData.depth], by simp [Prt.rest, cntL, cntD]⟩
  | delay n => exact ⟨by simp [Prt.rest, smL, sm_int (i := n) (by have : 1 ≤ n ∧ n ≤ 64 := h; omega)], by simp [Prt.rest, PyData.depthAll, PyData.depth], by simp [Prt.rest, cntL, cntD]⟩
  | follow s => exact ⟨by simp [Prt.rest, smL, sm_int (i := s) (by have : 1 ≤ s ∧ s ≤ 2047 := h; omega)], by simp [Prt.rest, PyData.depthAll, PyData.depth], by simp [Prt.rest, cntL, cntD]⟩
theorem dat_sm {p : Prt} (h : p.ok) : smD p.dat = true := by
  show smD (.tuple _) = true
  rw [smD]
  exact (sm_rest h).1
theorem dat_dp {p : Prt} (h : p.ok) : p.dat.depth ≤ 20 := by
  have := (sm_rest h).2.1
  show PyData.depth (.tuple _) ≤ 20
  simp only [PyData.depth] at this ⊢
  omega
theorem PAt.shw {H : Hp} {x : Addr} {p : Prt} (hx : PAt H x p) (h : p.ok) : Shw H (.ref x) :=
  sm_shw hx.dt (dat_sm h) (dat_dp h) (by have := (sm_rest h).2.2; show cntD (.tuple _) ≤ 1000; rw [cntD]; omega)
/-- what may be handed in as another part -/
def BadO (H : Hp) (v : V) : Prop := ∃ d, Dt H v d ∧ tupOk d = true ∧ partD d = false ∧ (d = .tuple [.str "wave"] ∨ ∀ ds, d ≠ .tuple ds)
def GoodO (H : Hp) (v : V) (p : Prt) : Prop := ∃ x, v = .ref x ∧ PAt H x p ∧ p.ok
inductive Oth (H : Hp) (v : V) : Prop
  | good (p : Prt) : GoodO H v p → Oth H v
  | bad : BadO H v → Shw H v → Oth H v
theorem Oth.shw {H : Hp} {v : V} (h : Oth H v) : Shw H v := by
  cases h with
  | good p g =>
    obtain ⟨x, rfl, hx, ok⟩ := g
    exact hx.shw ok
  | bad _ s => exact s
end Gx
set_option linter.all false
set_option maxRecDepth 100000
set_option maxHeartbeats 4000000
namespace Gx
open PySem PySem.Spec PyProof.Rows L2
theorem DtL.chg0 {H H' : Hp} (t : ∀ c xs, H c = some (.tup xs) → H' c = some (.tup xs)) {p : Prt} {x : Addr} (h : PAt H x p) : PAt H' x p := h.tups t
theorem cut_take {l : List V} {n : Nat} : cutV l none (some (n : Int)) = l.take n := by
  unfold cutV HT.sIx
  simp only [List.drop_zero]
  have h : ¬ ((n : Int) < 0) := by omega
  simp [h]
theorem rest_chg {H H' : Hp} {l : List Addr} (c : Chg l H H') : ∀ {p : Prt} {xs : List V}, DtL H xs p.rest → DtL H' xs p.rest := by
  have leaf : ∀ {v : V} {d : PyData}, Dt H v d → (∀ ds, d ≠ .list ds) → (∀ ds, d ≠ .dict ds) → (∀ ds, d = .tuple ds → ∃ fs : List Int, ds = fs.map PyData.int) → Dt H' v d := by
    intro v d h n1 n2 n3
    cases h with
    | non => exact .non
    | bl b => exact .bl b
    | int i => exact .int i
    | str x => exact .str x
    | lst => exact absurd rfl (n1 _)
    | dct => exact absurd rfl (n2 _)
    | @tup a xs ds h hs =>
      obtain ⟨fs, rfl⟩ := n3 _ rfl
      refine .tup (c.tup _ _ h) ?_
      have : ∀ (fs : List Int) (xs : List V), DtL H xs (fs.map PyData.int) → xs = fs.map V.int := by
        intro fs
        induction fs with
        | nil => intro xs h; cases h; rfl
        | cons i r ih =>
          intro xs h
          cases h with
          | cons h1 h2 =>
            cases h1
            rw [List.map_cons, ih _ h2]
      rw [this fs xs hs]
      exact .ints fs
  have all : ∀ (ds : List PyData), (∀ d ∈ ds, (∀ ds, d ≠ .list ds) ∧ (∀ ds, d ≠ .dict ds) ∧ (∀ ds, d = .tuple ds → ∃ fs : List Int, ds = fs.map PyData.int)) → ∀ xs, DtL H xs ds → DtL H' xs ds := by
    intro ds
    induction ds with
    | nil => intro _ xs h; cases h; exact .nil
    | cons d r ih =>
      intro g xs h
      cases h with
      | cons h1 h2 =>
        obtain ⟨a, b, e⟩ := g d List.mem_cons_self
        exact .cons (leaf h1 a b e) (ih (fun z hz => g z (List.mem_cons_of_mem _ hz)) _ h2)
  intro p xs h
  refine all _ (fun d hd => ?_) _ h
  cases p <;> simp only [Prt.rest, List.mem_cons, List.not_mem_nil, or_false] at hd <;>
    (first
      | (rcases hd with rfl | rfl | rfl | rfl)
      | (rcases hd with rfl | rfl)
      | subst hd) <;>
    exact ⟨(fun _ z => by cases z), (fun _ z => by cases z), (fun ds z => by first | (injection z with z; exact ⟨_, z.symm⟩) | cases z)⟩
theorem others {H : Hp} {l t dd : Addr} {p : Prt} {xs : List V} (hl : H l = some (.lst (.str p.kind :: xs))) (ht : H t = some (.tup [.str "wave"])) (hd : H dd = some (.dK [])) (hx : DtL H xs p.rest) (ok : p.ok) :
    ∀ v ∈ [V.non, .str p.kind, .ref l, .ref t, .int 7, .ref dd], Oth H v := by
  have kd : smD (.str p.kind) = true := by cases p <;> (simp only [Prt.kind]; decide +kernel)
  intro v hv
  simp only [List.mem_cons, List.not_mem_nil, or_false] at hv
  rcases hv with rfl | rfl | rfl | rfl | rfl | rfl
  · exact .bad ⟨_, .non, rfl, rfl, .inr fun _ z => nomatch z⟩ (sm_shw .non rfl (by decide) (by decide))
  · exact .bad ⟨_, .str _, rfl, rfl, .inr fun _ z => nomatch z⟩ (sm_shw (.str _) kd (by simp [PyData.depth]) (by simp [cntD]))
  · have h : Dt H (.ref l) (.list (.str p.kind :: p.rest)) := .lst hl (.cons (.str _) hx)
    obtain ⟨a, b, c⟩ := sm_rest ok
    exact .bad ⟨_, h, rfl, rfl, .inr fun _ z => nomatch z⟩ (sm_shw h (by rw [smD]; exact a) (by simp only [PyData.depth]; omega) (by rw [cntD]; omega))
  · have h : Dt H (.ref t) (.tuple [.str "wave"]) := .tup ht (.cons (.str _) .nil)
    exact .bad ⟨_, h, rfl, by decide +kernel, .inl rfl⟩ (sm_shw h (by decide +kernel) (by decide +kernel) (by decide +kernel))
  · exact .bad ⟨_, .int _, rfl, rfl, .inr fun _ z => nomatch z⟩ (sm_shw (.int _) (by decide +kernel) (by decide +kernel) (by decide +kernel))
  · exact .bad ⟨_, .dct hd, rfl, rfl, .inr fun _ z => nomatch z⟩ ⟨(dctD []).shown, fun H' s Q q => shown_dict (s _ _ hd) (by decide +kernel) Q q⟩
end Gx
set_option linter.all false
set_option maxRecDepth 100000
set_option maxHeartbeats 4000000
namespace Gx
open PySem PySem.Spec PyProof.Rows L2
theorem chg_new {l : List Addr} {g : Addr} {H h h' : Hp} (c : Chg l H h) (d : Chg [g] h h') (n : H g = none) : Chg l H h' :=
  ⟨fun z u m e => d.one (fun y => by subst y; rw [n] at e; cases e) (c.off z u m e), fun z xs e => d.tup z xs (c.tup z xs e)⟩
theorem lst_form {p p2 : Prt} {kp : Kp} {ls : List V} (h : p2.form = p.form) (s : LSt p kp ls) : LSt p2 kp ls := by
  have hk : p2.kind = p.kind := by
    obtain ⟨r, e⟩ := form_kind p
    obtain ⟨r2, e2⟩ := form_kind p2
    rw [e, e2] at h
    injection h with h
    injection h with h _
    injection h
  cases p <;> cases p2 <;> simp only [Prt.kind] at hk <;> first
    | exact absurd hk (by decide)
    | (cases kp <;> exact s)
theorem ahead_small {p : Prt} {kp : Kp} (ok : p.ok) (f : fits p kp) {z : Int} (e : aheadF p kp = some z) : -5000 ≤ z ∧ z ≤ 5000 := by
  cases p <;> cases kp <;> first
    | exact f.elim
    | (simp only [aheadF] at e; cases e; done)
    | skip
  · rename_i t s x c
    obtain rfl := Option.some.inj e
    obtain ⟨⟨h0, h1⟩, _⟩ := f
    have := gTab_small (z := t) (p := x / 64) ok.1 (Int.ediv_nonneg h0 (by decide)) (by omega)
    omega
  · rename_i s x
    obtain rfl := Option.some.inj e
    have : 0 ≤ x ∧ x < 4096 := f
    omega
  · rename_i n xs
    obtain rfl := Option.some.inj e
    cases xs with
    | nil => exact ⟨by decide, by decide⟩
    | cons y r =>
      have : wsmall y := f.2 y List.mem_cons_self
      have h1 : -2048 ≤ y := this.1
      have h2 : y ≤ 2047 := this.2
      show -5000 ≤ y ∧ y ≤ 5000
      omega
def optD : Option Int → PyData
  | some i => .int i
  | none => .none
theorem opt_dt {H : Hp} (o : Option Int) : Dt H (optV o) (optD o) := by
  cases o with
  | none => exact .non
  | some i => exact .int i
/-- two things that are told show -/
theorem two_show {H : Hp} {Q : VK} {r : Addr} {p : Prt} {kp : Kp} {w : Bool} (ok : p.ok) (f : fits p kp) (e : H r = some (.lst [optV (aheadF p kp), .bl w])) (q : Q (.str (PyData.list [optD (aheadF p kp), .bool w]).shown) H) : rShowE [.ref r] H Q := by
  refine sm_show (.lst e (.cons (opt_dt _) (.cons (.bl _) .nil))) ?_ ?_ ?_ q
  · cases h : aheadF p kp with
    | none => rfl
    | some z =>
      show smD (.list [.int z, .bool w]) = true
      rw [smD, smL, smL, smL, sm_int (ahead_small ok f h)]
      rfl
  · cases h : aheadF p kp <;> simp [optD, PyData.depth, PyData.depthAll]
  · cases h : aheadF p kp <;> simp [optD, cntD, cntL]
/-! ### the worker beside the law's own state -/
structure Rt (K : PySem.W.Frag) (CW : Addr) (H : Hp) (b a dx l : Addr) (m : Nat) (x k : Addr) (p : Prt) (kp : Kp) (w : Bool) (ls : List V) (h : Hp) : Prop where
  wk : Wk K CW h a dx x k p kp w
  hl : h l = some (.lst ls)
  st : LSt p kp ls
  bx : Bx m h b
  ch : Chg [b] H h
  ff : ∀ n, p = .frm n → w = false
section
variable {K : PySem.W.Frag} {CW : Addr} {H h h' : Hp} {b a dx l : Addr} {m m' : Nat} {x k : Addr} {p : Prt} {kp : Kp} {w : Bool} {ls : List V}
theorem Bx.one {g : Addr} {n : Nat} (B : Bx n h b) (c : Chg [g] h h') (bg : b ≠ g) : Bx n h' b := by
  obtain ⟨x, y, z, e, r⟩ := B
  exact ⟨x, y, z, c.one bg e, r⟩
theorem Rt.same (R : Rt K CW H b a dx l m x k p kp w ls h) (s : Same h h') : Rt K CW H b a dx l m x k p kp w ls h' :=
  ⟨R.wk.same s, s _ _ R.hl, R.st, R.bx.same s, R.ch.same' s, R.ff⟩
theorem Rt.up (R : Rt K CW H b a dx l m x k p kp w ls h) (e : m ≤ m') : Rt K CW H b a dx l m' x k p kp w ls h :=
  ⟨R.wk, R.hl, R.st, R.bx.up e, R.ch, R.ff⟩
theorem Rt.drew (R : Rt K CW H b a dx l m x k p kp w ls h) (c : Chg [b] h h') (B : Bx m' h' b) (ab : a ≠ b) (lb : l ≠ b) : Rt K CW H b a dx l m' x k p kp w ls h' :=
  ⟨R.wk.off c (by simpa using ab), c.one lb R.hl, R.st, B, R.ch.trans c, R.ff⟩
theorem Rt.side {g : Addr} (R : Rt K CW H b a dx l m x k p kp w ls h) (c : Chg [g] h h') (ag : a ≠ g) (lg : l ≠ g) (bg : b ≠ g) (n : H g = none) : Rt K CW H b a dx l m x k p kp w ls h' :=
  ⟨R.wk.off c (by simpa using ag), c.one lg R.hl, R.st, Bx.one R.bx c bg, chg_new R.ch c n, R.ff⟩
theorem Rt.gave {x2 : Addr} {p2 : Prt} (R : Rt K CW H b a dx l m x k p kp w ls h) (c : Chg [a] h h') (W : Wk K CW h' a dx x2 k p2 kp w) (e : p2.form = p.form) (la : l ≠ a) (ba : b ≠ a) (n : H a = none) : Rt K CW H b a dx l m x2 k p2 kp w ls h' :=
  ⟨W, c.one la R.hl, lst_form e R.st, Bx.one R.bx c ba, chg_new R.ch c n, fun z y => by
    subst y
    have hk := (form_kind p)
    cases p with
    | frm n2 => exact R.ff n2 rfl
    | _ => simp only [Prt.form, Prt.kind] at e; injection e with e; injection e with e _; injection e with e; exact absurd e (by decide)⟩
theorem Rt.la (R : Rt K CW H b a dx l m x k p kp w ls h) : l ≠ a := fun z => by
  have := R.hl
  rw [z, R.wk.at_] at this
  cases this
end
def okKV (es : List (Key × V)) : Prop := ∀ kv ∈ es, ∃ (n : Str) (i : Int), kv = (.inr n, .int i) ∧ nameB n = true ∧ n.length ≤ 1000 ∧ wsmall i
theorem ok_put {es : List (Key × V)} {z : Str} {i : Int} (h : okKV es) (hz : nameB z = true ∧ z.length ≤ 1000) (hi : -2048 ≤ i ∧ i ≤ 2047) : okKV (putK es (.inr z) (.int i)) := by
  intro kv hk
  unfold putK at hk
  split at hk
  · obtain ⟨kv0, h0, e0⟩ := List.mem_map.mp hk
    split at e0
    · subst e0
      rename_i hh
      obtain ⟨n, j, rfl, g⟩ := h kv0 h0
      first
        | exact ⟨z, i, rfl, hz.1, hz.2, hi⟩
        | (have hh : (Sum.inr n : Key) = .inr z := by simpa using hh
           injection hh with hh
           subst hh
           exact ⟨n, i, rfl, hz.1, hz.2, hi⟩)
    · subst e0
      exact h kv0 h0
  · rcases List.mem_append.mp hk with hk | hk
    · exact h kv hk
    · obtain rfl := List.mem_singleton.mp hk
      exact ⟨z, i, rfl, hz.1, hz.2, hi⟩
theorem frm_kind {p : Prt} (h : ∀ n, p ≠ .frm n) : p.kind ≠ "from" := by
  cases p with
  | frm n => exact absurd rfl (h n)
  | _ => simp only [Prt.kind]; decide
def gotN : List V := [.str "in", .str "a", .str "b", .str "c", .str "d", .str "pitch", .str "gate"]
theorem got_names {i : Nat} {v : V} (h : gotN[i]? = some v) : ∃ z : Str, v = .str z ∧ nameB z = true ∧ z.length ≤ 1000 := by
  have hv := List.mem_of_getElem? h
  unfold gotN at hv
  simp only [List.mem_cons, List.not_mem_nil, or_false] at hv
  rcases hv with rfl | rfl | rfl | rfl | rfl | rfl | rfl <;> exact ⟨_, rfl, by decide +kernel, by decide +kernel⟩
theorem put_len {es : List (Key × V)} {z : Key} {v : V} : (putK es z v).length ≤ es.length + 1 := by
  unfold putK
  split
  · rw [List.length_map]
    omega
  · rw [List.length_append, List.length_singleton]
    omega
theorem r_dg {σ : L2.St} {H : Hp} {Q : VK} {td ty : TE} (h : td σ H fun x H1 => ty σ H1 fun y H2 => ∃ a v, x = .ref a ∧ DGet H2 a y (some v) ∧ Q v H2) : tDGet td ty σ H Q := h
end Gx
set_option linter.all false
set_option maxRecDepth 100000
set_option maxHeartbeats 4000000
namespace Gx
open PySem PySem.Spec PyProof.Rows L2
/-! ### instances of an own class beside other things: isinstance, == -/
structure OwnC (K : PySem.W.Frag) (C : Addr) : Prop where
  ha : PySem.W.findIn K (.ref C) "__class__" = some (some (.builtin "object.__class__"))
  hn : PySem.W.specialIn K (.builtin "object.__class__") "__get__" = some (some (.builtin "getset_descriptor.__get__"))
  ht : PySem.W.takesIn K (.builtin "object.__class__") = some true
  hm : PySem.W.mroIn K C (.type "object") = some true
  me : PySem.W.kitOne K (.ref C) (.ref C) = some true
  kt : PySem.W.kitOne K (.type "tuple") (.ref C) = some false
  ki : PySem.W.kitOne K (.type "int") (.ref C) = some false
  nt : PySem.W.notFirst K C (.type "tuple") = true
  ni : PySem.W.notFirst K C (.type "int") = true
/-- what may stand at the right: an instance (true), a tuple, a number -/
inductive Rgt (C : Addr) (H : Hp) : V → Bool → Prop
  | own {a dx : Addr} {fs : List (Str × V)} : H a = some (.ins C dx fs) → Rgt C H (.ref a) true
  | tup {a : Addr} {xs : List V} : H a = some (.tup xs) → Rgt C H (.ref a) false
  | int (i : Int) : Rgt C H (.int i) false
def rIsO (C : Addr) : List V → Hp → VK → Prop := fun xs H Q => ∃ v b, xs = [v, .ref C] ∧ Rgt C H v b ∧ Q (.bl b) H
theorem call_isO {X : Cx} {C : Addr} (cl : Cls X.K C) (oc : OwnC X.K C) : CallR X (.builtin "isinstance") (rIsO C) := by
  intro pins s σ H xs us Q I r h
  obtain ⟨v, b, rfl, hv, q⟩ := h
  refine call_isi pins s σ H _ us Q I r ?_
  cases hv with
  | own e => exact ⟨_, .ref C, .ref C, .ref C, true, rfl, .own C, .base (.ins e cl oc.ha oc.hn oc.ht oc.hm), oc.me, q⟩
  | tup e => exact ⟨_, .ref C, .type "tuple", .ref C, false, rfl, .own C, .base (.tup e), oc.kt, q⟩
  | int i => exact ⟨_, .ref C, .type "int", .ref C, false, rfl, .own C, .base (.int i), oc.ki, q⟩
def rEqO (C : Addr) (sp : Sp) (E : XK) : R2 := fun x y H Q => ∃ a dx fs b, x = .ref a ∧ H a = some (.ins C dx fs) ∧ Rgt C H y b ∧ sp [.ref a, y] H (fun v H' => ∃ c, v = .bl c ∧ Q v H') E
theorem op_eqO {X : Cx} {CX : CXT} {n : Nat} {C f : Addr} {fd : FuncData} {ps : List Str} {sp : Sp} {E : XK} (F : FnOk X.prog X.w X.K X.mg X.base CX n f fd ps sp) (hM : Meth X.K C "__eq__" f) (hb : Binds X.K fd ps []) (hx : Passes CX X E) (oc : OwnC X.K C) (hr : Room n X.A) : OpR X (compareOp .Eq) (rEqO C sp E) := by
  intro pins s σ H x y v u Q I rx ry h
  obtain ⟨a, dx, fs, b, rfl, ha, hy, hs⟩ := h
  obtain rfl : v = Value.ref a := rx
  obtain ⟨mA, O, _⟩ := ins_get I.hok ha
  obtain ⟨od, J, _⟩ := O.look
  obtain ⟨m, hF⟩ := I.fr
  have lk : ∃ tb, PySem.W.Looks (model X.prog X.w) s.heap (typeOf u) tb ∧ PySem.W.notFirst X.K C tb = true := by
    cases hy with
    | @own c dc fc e =>
      obtain rfl : u = Value.ref c := ry
      obtain ⟨mB, O2, _⟩ := ins_get I.hok e
      obtain ⟨od2, J2, _⟩ := O2.look
      exact ⟨.ref C, J2.type, by simp [PySem.W.notFirst]⟩
    | @tup c xs e =>
      obtain rfl : u = Value.ref c := ry
      obtain ⟨its, rv, ⟨o, ho, hc, _⟩, _⟩ := I.tuple (SqT.of e)
      have hc : o.cls = .type "tuple" := hc
      refine ⟨.type "tuple", ?_, oc.nt⟩
      rw [← hc]
      exact (PySem.W.Looks.ld ho).andThen .now
    | int i =>
      obtain ⟨t, rfl⟩ : ∃ t, u = Value.int i t := ry
      exact ⟨.type "int", PySem.W.Looks.of_pure rfl, oc.ni⟩
  obtain ⟨tb, l1, l2⟩ := lk
  show wpAny (model X.prog X.w) X.A (richCompare .Eq (.ref a) u) (EP X pins σ Q) X.xe s
  refine PySem.W.cmp_K (op := .Eq) (tb := tb) hr.units0 hF I.ok.mod.kin J l1 l2 hM.at_ hM.fn ?_
  have rs : Vals [V.ref a, y] [Value.ref a, u] := .cons rfl (.cons ry .nil)
  refine wpAny_mono (run_fn (vs := [V.ref a, y]) (us := [Value.ref a, u]) (dvs := []) F hr hb .nil hx I rs hs) (fun w s' z => ?_) fun _ _ e => e
  obtain ⟨wv, H', I', rw', c, ec, q⟩ := z
  subst ec
  obtain rfl : w = Value.bool c := rw'
  exact ⟨.bl c, H', I', rfl, q⟩
/-! ### data of tuples alone -/
mutual
def tpD : PyData → Bool
  | .list _ => false
  | .dict _ => false
  | .tuple xs => tpL xs
  | _ => true
def tpL : List PyData → Bool
  | [] => true
  | x :: xs => tpD x && tpL xs
end
mutual
theorem Dt.chg {H H' : Hp} {l : List Addr} (c : Chg l H H') : ∀ {d : PyData} {v : V}, Dt H v d → tpD d = true → Dt H' v d
  | _, _, .non, _ => .non
  | _, _, .bl b, _ => .bl b
  | _, _, .int i, _ => .int i
  | _, _, .str x, _ => .str x
  | _, _, .lst h hs, p => by simp [tpD] at p
  | _, _, .tup h hs, p => .tup (c.tup _ _ h) (DtL.chgT c hs (by rw [tpD] at p; exact p))
  | _, _, .dct h, p => by simp [tpD, dctD] at p
theorem DtL.chgT {H H' : Hp} {l : List Addr} (c : Chg l H H') : ∀ {ds : List PyData} {vs : List V}, DtL H vs ds → tpL ds = true → DtL H' vs ds
  | _, _, .nil, _ => .nil
  | _, _, .cons h hs, p => by
    rw [tpL, Bool.and_eq_true] at p
    exact .cons (Dt.chg c h p.1) (DtL.chgT c hs p.2)
end
theorem tp_ints {fs : List Int} : tpL (fs.map PyData.int) = true := by
  induction fs with
  | nil => rfl
  | cons a r ih => rw [List.map_cons, tpL, ih]; rfl
theorem dat_tp (p : Prt) : tpD p.dat = true := by
  cases p <;> simp [Prt.dat, Prt.rest, tpD, tpL, tp_ints]
theorem items_tp (k : Kp) : tpL k.items = true := by
  cases k <;> simp [Kp.items, tpD, tpL, tp_ints]
theorem stand_tp (p : Prt) (k : Kp) : tpD (standD p k) = true := by
  show tpD (.tuple _) = true
  rw [tpD, tpL, dat_tp, items_tp]
  rfl
theorem items_nb (k : Kp) : nbL k.items = true := by
  cases k <;> simp [Kp.items, nbD, nbL, nb_ints]
theorem stand_nb (p : Prt) (k : Kp) : nbD (standD p k) = true := by
  show nbD (.tuple _) = true
  rw [nbD, nbL, dat_nb, items_nb]
  rfl
theorem sm_ws {xs : List Int} (h : ∀ i ∈ xs, wsmall i) : smL (xs.map PyData.int) = true := by
  induction xs with
  | nil => rfl
  | cons a r ih =>
    have ha : wsmall a := h a List.mem_cons_self
    have h1 : -2048 ≤ a := ha.1
    have h2 : a ≤ 2047 := ha.2
    rw [List.map_cons, smL, ih fun i hi => h i (List.mem_cons_of_mem _ hi), Bool.and_true]
    exact sm_int (by omega)
theorem stand_sm {p : Prt} {k : Kp} (ok : p.ok) (f : fits p k) : smD (standD p k) = true ∧ (standD p k).depth ≤ 4 ∧ cntD (standD p k) ≤ 190 := by
  have a := dat_sm ok
  have d1 : p.dat.depth ≤ 2 := by
    have := (sm_rest ok).2.1
    show PyData.depth (.tuple _) ≤ 2
    simp only [PyData.depth] at this ⊢
    omega
  have c1 : cntD p.dat ≤ 40 := (sm_rest ok).2.2
  show smD (.tuple _) = true ∧ PyData.depth (.tuple _) ≤ 4 ∧ cntD (.tuple _) ≤ 190
  rw [smD, smL, a, Bool.true_and]
  simp only [PyData.depth, PyData.depthAll, cntD, cntL]
  cases p <;> cases k <;> first
    | exact f.elim
    | exact ⟨rfl, by simp [Kp.items, PyData.depthAll, PyData.depth]; omega, by simp [Kp.items, cntL, cntD]; omega⟩
    | skip
  · rename_i t s x
    have : 0 ≤ x ∧ x < 4096 := f
    exact ⟨by simp [Kp.items, smL, sm_int (i := x) (by omega)], by simp [Kp.items, PyData.depthAll, PyData.depth]; omega, by simp [Kp.items, cntL, cntD]; omega⟩
  · rename_i t s x c
    obtain ⟨h1, h2⟩ := f
    exact ⟨by simp [Kp.items, smL, sm_int (i := x) (by omega), sm_int (i := c) (by omega)], by simp [Kp.items, PyData.depthAll, PyData.depth]; omega, by simp [Kp.items, cntL, cntD]; omega⟩
  · rename_i s x
    have : 0 ≤ x ∧ x < 4096 := f
    exact ⟨by simp [Kp.items, smL, sm_int (i := x) (by omega)], by simp [Kp.items, PyData.depthAll, PyData.depth]; omega, by simp [Kp.items, cntL, cntD]; omega⟩
  · rename_i z lv y
    have : 0 ≤ lv ∧ lv ≤ 2047 := f
    have hy : smD (.str y.s) = true := by cases y <;> decide +kernel
    exact ⟨by simp [Kp.items, smL, sm_int (i := lv) (by omega), hy], by simp [Kp.items, PyData.depthAll, PyData.depth]; omega, by simp [Kp.items, cntL, cntD]; omega⟩
  · rename_i fs m xs
    obtain ⟨h1, h2⟩ := f
    have h3 := ok.1.2.1
    exact ⟨by simp [Kp.items, smL, smD, sm_ws h2], by simp [Kp.items, PyData.depthAll, PyData.depth, dp_ints]; omega, by simp [Kp.items, cntL, cntD, ct_ints]; omega⟩
  · rename_i n xs
    obtain ⟨h1, h2⟩ := f
    have h3 : 1 ≤ n ∧ n ≤ 64 := ok
    exact ⟨by simp [Kp.items, smL, smD, sm_ws h2], by simp [Kp.items, PyData.depthAll, PyData.depth, dp_ints]; omega, by simp [Kp.items, cntL, cntD, ct_ints]; omega⟩
  · rename_i s x
    have : 0 ≤ x ∧ x ≤ 2047 := f
    exact ⟨by simp [Kp.items, smL, sm_int (i := x) (by omega)], by simp [Kp.items, PyData.depthAll, PyData.depth]; omega, by simp [Kp.items, cntL, cntD]; omega⟩
/-! ### a list told item by item -/
theorem lc_data {K : PySem.W.Frag} {σ : L2.St} {H : Hp} {Q : VK} {te : TE} {vs : List Nat} {a : Addr} {xs : List V} {j : Nat} (ds : Nat → PyData) (hz : xs.length ≤ 1000) (ha : ∀ h, Same H h → SqL K h a xs) (tp : ∀ i, i < xs.length → tpD (ds i) = true)
    (hw : ∀ x, wipe ((wipe σ vs).set j (some x)) vs = wipe σ vs)
    (he : ∀ i x, xs[i]? = some x → ∀ h (R : VK), Same H h → (∀ v h2, Same h h2 → Dt h2 v (ds i) → R v h2) → te ((wipe σ vs).set j (some x)) h R)
    (q : ∀ D ys H2, Same H H2 → H2 D = some (.lst ys) → DtL H2 ys ((List.range xs.length).map ds) → Q (.ref D) H2) : Lc (Itl K a) (gName j) tYes te vs Q σ H := by
  refine lc_lst (fun D i h => ∃ ys, h D = some (.lst ys) ∧ DtL h ys ((List.range i).map ds) ∧ Same H h) (fun D hD => ⟨[], upd_same, .nil, same_new hD⟩) (fun D hD i h _ z => ha h z.choose_spec.2.2) (fun D hD i x h hx z => ?_) (fun D hD h z => ?_)
  · obtain ⟨ys, e, dt, s⟩ := z
    have hi : i < xs.length := (List.getElem?_eq_some_iff.mp hx).1
    refine ⟨hw x, r_yes (iteT (he i x hx h _ s fun v h2 s2 dv => ?_))⟩
    have hl := dt.length
    rw [List.length_map, List.length_range] at hl
    refine ⟨ys, s2 _ _ e, by rw [sizeLine_eq]; omega, ys ++ [v], upd_same, ?_, same_upd hD (s.trans s2)⟩
    have c : Chg [D] h2 (L2.upd h2 D (.lst (ys ++ [v]))) := Chg.upd (s2 _ _ e) fun _ y => nomatch y
    rw [List.range_succ, List.map_append]
    have h1 : DtL (L2.upd h2 D (.lst (ys ++ [v]))) ys ((List.range i).map ds) := DtL.chgT c (dt.same s2) (by
      have : ∀ n, n ≤ xs.length → tpL ((List.range n).map ds) = true := fun n => by
        induction n with
        | zero => intro _; rfl
        | succ n ih =>
          intro hn
          rw [List.range_succ, List.map_append]
          have app : ∀ (a b : List PyData), tpL (a ++ b) = (tpL a && tpL b) := fun a b => by
            induction a with
            | nil => rfl
            | cons x r ih => rw [List.cons_append, tpL, tpL, ih, Bool.and_assoc]
          rw [app, ih (by omega)]
          show (true && (tpD (ds n) && true)) = true
          rw [tp n (by omega)]
          rfl
      exact this i (by omega))
    have h2' : DtL (L2.upd h2 D (.lst (ys ++ [v]))) [v] [ds i] := .cons (Dt.chg c dv (tp i hi)) .nil
    have app : ∀ {a b : List V} {c d : List PyData} {G : Hp}, DtL G a c → DtL G b d → DtL G (a ++ b) (c ++ d) := by
      intro a
      induction a with
      | nil => intro b c d G h k; cases h; exact k
      | cons x r ih => intro b c d G h k; cases h with | cons h1 h2 => exact .cons h1 (ih h2 k)
    exact app h1 h2'
  · obtain ⟨ys, e, dt, s⟩ := z
    exact q D ys h s e dt
end Gx
namespace Gx
open PySem PySem.Spec PyProof.Rows L2
theorem r_dg2 {σ : L2.St} {H : Hp} {Q : VK} {td ty tx : TE} (h : td σ H fun x H1 => ∃ a, x = .ref a ∧ L2.IsD H1 a ∧ ty σ H1 fun y H2 => tx σ H2 fun z H3 => ∃ o, DGet H3 a y o ∧ Q (o.getD z) H3) : tDGet2 td ty tx σ H Q := h
end Gx
set_option linter.all false
set_option maxRecDepth 100000
set_option maxHeartbeats 4000000
namespace KB
open PySem PySem.Spec PyProof.Rows L2 Gx
local macro_rules | `(tactic| walk_at "rd1") => `(tactic| with_reducible first
  | refine r_var rfl ?_ | refine r_c ?_ | refine r_op ?_ | refine r_un ?_ | refine r_I0 ?_ | refine r_neg ?_ | refine r_test ?_ | refine r_B ?_ | refine r_bl ?_ | refine r_blx ?_
  | refine r_seq ?_ | refine r_ret ?_ | refine r_asg ?_ | refine r_name ?_ | refine r_gsub ?_ | refine r_if ?_ | refine r_next ?_ | refine r_drop ?_ | refine r_cb ?_ | refine r_nil ?_ | refine r_cons ?_
  | refine r_g ?_ | refine r_k ?_ | refine r_lstN ?_ | refine r_tupN ?_ | refine r_notV ?_ | refine r_ifE ?_ | refine r_and ?_ | refine r_or ?_ | refine r_not ?_ | refine r_chain ?_
  | refine r_sl ?_ | refine r_part ?_ | refine r_nop ?_ | refine r_par3 ?_ | refine r_is3 ?_ | refine r_par2 ?_ | refine r_is2 ?_ | refine r_m0 ?_ | refine r_ei ?_ | refine r_nx ?_ | refine r_rt ?_ | refine r_ct ?_ | refine r_eq rfl ?_ | refine r_ne rfl ?_ | refine iteT ?_ | refine iteF ?_ | refine iteNF ?_ | refine iteNT ?_
  | (refine r_fdivK ?hc ?_; (case hc => decide +kernel)) | (refine r_modK ?hc ?_; (case hc => decide +kernel)) | (refine r_mulL ?hc ?_; (case hc => decide +kernel)) | (refine r_mulR ?hc ?_; (case hc => decide +kernel)) | (refine r_powK ?hc ?_; (case hc => decide +kernel)) | fail "no step")
local macro_rules | `(tactic| walk_at "rd") => `(tactic| repeat' walk_at "rd1")
def tp (i : Nat) : Stmt := PySem.Challenge.pw_cordsounds_k07_whole_all_kinds_at_work.main.body.getD i (.Pass ⟨0, 0, 0, 0⟩)
abbrev s_wall : Stmt := tp 0
abbrev s_is_number : Stmt := tp 16
abbrev s_is_whole : Stmt := tp 17
abbrev s_is_name : Stmt := tp 18
abbrev s_is_worth : Stmt := tp 19
abbrev s_is_manner : Stmt := tp 20
abbrev s_is_table : Stmt := tp 21
abbrev s_folded : Stmt := tp 22
abbrev s_turned_back : Stmt := tp 23
abbrev s_is_folded : Stmt := tp 24
abbrev s_table_worth : Stmt := tp 25
abbrev s_saw : Stmt := tp 26
abbrev s_square : Stmt := tp 27
abbrev s_tri : Stmt := tp 28
abbrev s_pulse : Stmt := tp 29
abbrev s_hump : Stmt := tp 30
abbrev s_next_noise : Stmt := tp 32
abbrev s_is_from : Stmt := tp 37
abbrev s_is_wave : Stmt := tp 38
abbrev s_is_noise : Stmt := tp 39
abbrev s_is_shape : Stmt := tp 40
abbrev s_are_factors : Stmt := tp 41
abbrev s_is_taps : Stmt := tp 42
abbrev s_is_mix : Stmt := tp 43
abbrev s_is_times : Stmt := tp 44
abbrev s_is_delay : Stmt := tp 45
abbrev s_is_follow : Stmt := tp 46
abbrev s_is_part : Stmt := tp 48
abbrev s_ports_of : Stmt := tp 49
abbrev s_kept_at_first : Stmt := tp 56
abbrev s_slow_ahead : Stmt := tp 57
abbrev s_noise_ahead : Stmt := tp 58
abbrev s_from_step : Stmt := tp 59
abbrev s_wave_step : Stmt := tp 60
abbrev s_slow_step : Stmt := tp 61
abbrev s_noise_step : Stmt := tp 62
abbrev s_shape_step : Stmt := tp 63
abbrev s_shape_word : Stmt := tp 64
abbrev s_shape_moved : Stmt := tp 65
abbrev s_taps_step : Stmt := tp 66
abbrev s_mix_step : Stmt := tp 67
abbrev s_weighed : Stmt := tp 68
abbrev s_times_step : Stmt := tp 69
abbrev s_delay_step : Stmt := tp 70
abbrev s_follow_step : Stmt := tp 71
abbrev s_are_ins : Stmt := tp 73
abbrev s_law_cell : Stmt := tp 76
abbrev s_law_box : Stmt := tp 77
abbrev s_law_take : Stmt := tp 78
abbrev s_law_part : Stmt := tp 79
abbrev s_law_folded : Stmt := tp 80
abbrev s_law_table : Stmt := tp 81
abbrev s_law_new : Stmt := tp 82
abbrev s_law_shaped : Stmt := tp 83
abbrev s_law_done : Stmt := tp 84
abbrev s_law_ports : Stmt := tp 85
abbrev s_law_got : Stmt := tp 86
abbrev s_law_right : Stmt := tp 87
abbrev s_law : Stmt := tp 88
abbrev s_init_NoPart : Stmt := inClass (tp 6) 0
abbrev s_init_NoIns : Stmt := inClass (tp 7) 0
abbrev s_Worker_init : Stmt := inClass (tp 74) 0
abbrev s_Worker_part : Stmt := inClass (tp 74) 1
abbrev s_Worker_sample : Stmt := inClass (tp 74) 3
abbrev s_Worker_was_folded : Stmt := inClass (tp 74) 4
abbrev s_Worker_stands : Stmt := inClass (tp 74) 6
abbrev s_Worker_eq : Stmt := inClass (tp 74) 8
structure Txt (K : PySem.W.Frag) (mg : Str → Option Value) (w : World) (C_NoPart C_NoIns C_Worker : Addr) : Prop where
  d_wall : DefIn K mg "_wall" s_wall
  d_is_number : DefIn K mg "is_number" s_is_number
  d_is_whole : DefIn K mg "is_whole" s_is_whole
  d_is_name : DefIn K mg "is_name" s_is_name
  d_is_worth : DefIn K mg "is_worth" s_is_worth
  d_is_manner : DefIn K mg "is_manner" s_is_manner
  d_is_table : DefIn K mg "is_table" s_is_table
  d_folded : DefIn K mg "folded" s_folded
  d_turned_back : DefIn K mg "_turned_back" s_turned_back
  d_is_folded : DefIn K mg "is_folded" s_is_folded
  d_table_worth : DefIn K mg "table_worth" s_table_worth
  d_saw : DefIn K mg "_saw" s_saw
  d_square : DefIn K mg "_square" s_square
  d_tri : DefIn K mg "_tri" s_tri
  d_pulse : DefIn K mg "_pulse" s_pulse
  d_hump : DefIn K mg "_hump" s_hump
  d_next_noise : DefIn K mg "next_noise" s_next_noise
  d_is_from : DefIn K mg "_is_from" s_is_from
  d_is_wave : DefIn K mg "_is_wave" s_is_wave
  d_is_noise : DefIn K mg "_is_noise" s_is_noise
  d_is_shape : DefIn K mg "_is_shape" s_is_shape
  d_are_factors : DefIn K mg "_are_factors" s_are_factors
  d_is_taps : DefIn K mg "_is_taps" s_is_taps
  d_is_mix : DefIn K mg "_is_mix" s_is_mix
  d_is_times : DefIn K mg "_is_times" s_is_times
  d_is_delay : DefIn K mg "_is_delay" s_is_delay
  d_is_follow : DefIn K mg "_is_follow" s_is_follow
  d_is_part : DefIn K mg "is_part" s_is_part
  d_ports_of : DefIn K mg "ports_of" s_ports_of
  d_kept_at_first : DefIn K mg "_kept_at_first" s_kept_at_first
  d_slow_ahead : DefIn K mg "_slow_ahead" s_slow_ahead
  d_noise_ahead : DefIn K mg "_noise_ahead" s_noise_ahead
  d_from_step : DefIn K mg "_from_step" s_from_step
  d_wave_step : DefIn K mg "_wave_step" s_wave_step
  d_slow_step : DefIn K mg "_slow_step" s_slow_step
  d_noise_step : DefIn K mg "_noise_step" s_noise_step
  d_shape_step : DefIn K mg "_shape_step" s_shape_step
  d_shape_word : DefIn K mg "_shape_word" s_shape_word
  d_shape_moved : DefIn K mg "_shape_moved" s_shape_moved
  d_taps_step : DefIn K mg "_taps_step" s_taps_step
  d_mix_step : DefIn K mg "_mix_step" s_mix_step
  d_weighed : DefIn K mg "_weighed" s_weighed
  d_times_step : DefIn K mg "_times_step" s_times_step
  d_delay_step : DefIn K mg "_delay_step" s_delay_step
  d_follow_step : DefIn K mg "_follow_step" s_follow_step
  d_are_ins : DefIn K mg "_are_ins" s_are_ins
  d_law_cell : DefIn K mg "_law_cell" s_law_cell
  d_law_box : DefIn K mg "_law_box" s_law_box
  d_law_take : DefIn K mg "_law_take" s_law_take
  d_law_part : DefIn K mg "_law_part" s_law_part
  d_law_folded : DefIn K mg "_law_folded" s_law_folded
  d_law_table : DefIn K mg "_law_table" s_law_table
  d_law_new : DefIn K mg "_law_new" s_law_new
  d_law_shaped : DefIn K mg "_law_shaped" s_law_shaped
  d_law_done : DefIn K mg "_law_done" s_law_done
  d_law_ports : DefIn K mg "_law_ports" s_law_ports
  d_law_got : DefIn K mg "_law_got" s_law_got
  d_law_right : DefIn K mg "_law_right" s_law_right
  g_LEAST : ∃ u, mg "LEAST" = some u ∧ RelV (.int (-2048)) u
  g_GREATEST : ∃ u, mg "GREATEST" = some u ∧ RelV (.int (2047)) u
  g_WIDTH : ∃ u, mg "WIDTH" = some u ∧ RelV (.int (4096)) u
  g_NAME_LENGTH : ∃ u, mg "NAME_LENGTH" = some u ∧ RelV (.int (8)) u
  g_PLACES : ∃ u, mg "PLACES" = some u ∧ RelV (.int (64)) u
  g_MOST_FACTORS : ∃ u, mg "MOST_FACTORS" = some u ∧ RelV (.int (8)) u
  g_MOST_INS : ∃ u, mg "MOST_INS" = some u ∧ RelV (.int (8)) u
  g_TOP : ∃ u, mg "TOP" = some u ∧ RelV (.int (2047)) u
  g_SLOW_SAMPLES : ∃ u, mg "SLOW_SAMPLES" = some u ∧ RelV (.int (16)) u
  g_PHASES : ∃ u, mg "PHASES" = some u ∧ RelV (.int (4096)) u
  g_MANNERS : ∃ a, mg "MANNERS" = some (.ref a) ∧ ∀ H, SqT K H a [.str "clip", .str "wrap", .str "fold"]
  g_TABLES : ∃ a, mg "TABLES" = some (.ref a) ∧ ∀ H, SqT K H a [.str "saw", .str "square", .str "tri", .str "pulse", .str "hump"]
  g_MIX_PORTS : ∃ a, mg "MIX_PORTS" = some (.ref a) ∧ ∀ H, SqT K H a [.str "a", .str "b", .str "c", .str "d"]
  g__TABLE_WORTHS : ∃ D, mg "_TABLE_WORTHS" = some (.ref D) ∧ KTabF K w mg D [("saw", "_saw"), ("square", "_square"), ("tri", "_tri"), ("pulse", "_pulse"), ("hump", "_hump")]
  g__CHECKS : ∃ D, mg "_CHECKS" = some (.ref D) ∧ KTabF K w mg D [("from", "_is_from"), ("wave", "_is_wave"), ("slow", "_is_wave"), ("noise", "_is_noise"), ("shape", "_is_shape"), ("taps", "_is_taps"), ("mix", "_is_mix"), ("times", "_is_times"), ("delay", "_is_delay"), ("follow", "_is_follow")]
  g__STEPS : ∃ D, mg "_STEPS" = some (.ref D) ∧ KTabF K w mg D [("from", "_from_step"), ("wave", "_wave_step"), ("slow", "_slow_step"), ("noise", "_noise_step"), ("shape", "_shape_step"), ("taps", "_taps_step"), ("mix", "_mix_step"), ("times", "_times_step"), ("delay", "_delay_step"), ("follow", "_follow_step")]
  g__PORTS : ∃ D, mg "_PORTS" = some (.ref D) ∧ KTabT K w D [("from", []), ("wave", [.str "pitch"]), ("slow", []), ("noise", []), ("shape", [.str "gate"]), ("taps", [.str "in"]), ("times", [.str "a", .str "b"]), ("delay", [.str "in"]), ("follow", [.str "in"])]
  g__AT_FIRST : ∃ D, mg "_AT_FIRST" = some (.ref D) ∧ KTabT K w D [("from", []), ("wave", [.int (0)]), ("slow", [.int (0), .int (0)]), ("shape", [.int (0), .str "rest"]), ("mix", []), ("times", []), ("follow", [.int (0)])]
  n_isinstance : mg "isinstance" = none
  n_int : mg "int" = none
  n_bool : mg "bool" = none
  n_str : mg "str" = none
  n_tuple : mg "tuple" = none
  n_dict : mg "dict" = none
  n_len : mg "len" = none
  n_max : mg "max" = none
  n_min : mg "min" = none
  n_repr : mg "repr" = none
  n_range : mg "range" = none
  n_all : mg "all" = none
  n_abs : mg "abs" = none
  n_sum : mg "sum" = none
  n_zip : mg "zip" = none
  n_enumerate : mg "enumerate" = none
  u_SoundError : ∃ S, UpC K mg "SoundError" S
  x_NoPart : OwnX K mg "NoPart" "NoPart.__init__" s_init_NoPart "found" C_NoPart
  x_NoIns : OwnX K mg "NoIns" "NoIns.__init__" s_init_NoIns "found" C_NoIns
  gl_Worker : mg "Worker" = some (.ref C_Worker)
  cl_Worker : Cls K C_Worker
  na_Worker__part : NoAttr K C_Worker "_part"
  na_Worker__kept : NoAttr K C_Worker "_kept"
  na_Worker__folded_last : NoAttr K C_Worker "_folded_last"
  me_Worker_init : ∃ f fd, Mk K C_Worker f ∧ Fun K "__init__" "Worker.__init__" s_Worker_init f fd
  me_Worker_part : ∃ f fd, Meth K C_Worker "part" f ∧ Fun K "part" "Worker.part" s_Worker_part f fd
  me_Worker_sample : ∃ f fd, Meth K C_Worker "sample" f ∧ Fun K "sample" "Worker.sample" s_Worker_sample f fd
  me_Worker_was_folded : ∃ f fd, Meth K C_Worker "was_folded" f ∧ Fun K "was_folded" "Worker.was_folded" s_Worker_was_folded f fd
  me_Worker_stands : ∃ f fd, Meth K C_Worker "stands" f ∧ Fun K "stands" "Worker.stands" s_Worker_stands f fd
  me_Worker_eq : ∃ f fd, Meth K C_Worker "__eq__" f ∧ Fun K "__eq__" "Worker.__eq__" s_Worker_eq f fd
  oc_Worker : OwnC K C_Worker
section
variable {P : Program} {w : World} {K : PySem.W.Frag} {mg : Str → Option Value} {base : Heap} {f : Addr} {fd : FuncData} {C_NoPart C_NoIns C_Worker : Addr}
theorem sc_init_NoPart : FnScope ["self", "found"] ["self", "found"] (defScope s_init_NoPart) := ⟨rfl, rfl, rfl, by decide +kernel, rfl, by decide +kernel, by decide +kernel⟩
theorem ok_init_NoPart (T : Txt K mg w C_NoPart C_NoIns C_Worker) {C : Addr} (F : Fun K "__init__" "NoPart.__init__" s_init_NoPart f fd) : FnOk P w K mg base CX0 1 f fd ["self", "found"] (spEI K C "found") := by
  obtain ⟨S, U⟩ := T.u_SoundError
  refine F.ok sc_init_NoPart (fun vs H Q E h => ?_) (fun cdv A outer s H vs Q E hr h => ?_)
  · obtain ⟨_, _, rfl, _⟩ := h
    rfl
  · obtain ⟨a, v, rfl, O, no, ha, q⟩ := h
    refine ⟨_, (pss_cons (ps_expr (pe_upinit U (pa_cons (pv 0) (pa_cons pe_str pa_nil)))) (pss_one (ps_ost (pv 0) (pv 1)))), ?_⟩
    refine r_seq ?_
    refine r_drop ?_
    refine r_vei ?_
    walk_at "rd"
    refine ⟨a, C, _, rfl, by decide, O, ha, ?_⟩
    walk_at "rd"
    refine r_ost ?_
    walk_at "rd"
    exact ⟨a, C, rfl, O, no, .inl ⟨ha, fun d hd n => q d hd n⟩⟩
theorem b_init_NoPart : ∀ (kV doc pm : Value) (an : Option Addr) (cdv ct : Value) (us : List Value), us.length = (["self", "found"] : List Str).length → bindArgs (PySem.W.fnOf "__init__" "NoPart.__init__" (defArgs s_init_NoPart) (defBody s_init_NoPart) (defScope s_init_NoPart) .none kV doc pm an cdv ct) ⟨us, []⟩ = pure ((["self", "found"] : List Str).zip us) :=
  fun _ _ _ _ _ _ us hl => match us, hl with | [_, _], _ => rfl
theorem sc_init_NoIns : FnScope ["self", "found"] ["self", "found"] (defScope s_init_NoIns) := ⟨rfl, rfl, rfl, by decide +kernel, rfl, by decide +kernel, by decide +kernel⟩
theorem ok_init_NoIns (T : Txt K mg w C_NoPart C_NoIns C_Worker) {C : Addr} (F : Fun K "__init__" "NoIns.__init__" s_init_NoIns f fd) : FnOk P w K mg base CX0 1 f fd ["self", "found"] (spEI K C "found") := by
  obtain ⟨S, U⟩ := T.u_SoundError
  refine F.ok sc_init_NoIns (fun vs H Q E h => ?_) (fun cdv A outer s H vs Q E hr h => ?_)
  · obtain ⟨_, _, rfl, _⟩ := h
    rfl
  · obtain ⟨a, v, rfl, O, no, ha, q⟩ := h
    refine ⟨_, (pss_cons (ps_expr (pe_upinit U (pa_cons (pv 0) (pa_cons pe_str pa_nil)))) (pss_one (ps_ost (pv 0) (pv 1)))), ?_⟩
    refine r_seq ?_
    refine r_drop ?_
    refine r_vei ?_
    walk_at "rd"
    refine ⟨a, C, _, rfl, by decide, O, ha, ?_⟩
    walk_at "rd"
    refine r_ost ?_
    walk_at "rd"
    exact ⟨a, C, rfl, O, no, .inl ⟨ha, fun d hd n => q d hd n⟩⟩
theorem b_init_NoIns : ∀ (kV doc pm : Value) (an : Option Addr) (cdv ct : Value) (us : List Value), us.length = (["self", "found"] : List Str).length → bindArgs (PySem.W.fnOf "__init__" "NoIns.__init__" (defArgs s_init_NoIns) (defBody s_init_NoIns) (defScope s_init_NoIns) .none kV doc pm an cdv ct) ⟨us, []⟩ = pure ((["self", "found"] : List Str).zip us) :=
  fun _ _ _ _ _ _ us hl => match us, hl with | [_, _], _ => rfl
/-! ### a script's cell, a box, a draw -/
theorem sc_law_take : FnScope ["box", "most", "digit", "one", "two"] ["box", "most"] (defScope s_law_take) := ⟨rfl, rfl, rfl, by decide +kernel, rfl, by decide +kernel, by decide +kernel⟩
theorem ok_law_take (T : Txt K mg w C_NoPart C_NoIns C_Worker) (F : Fun K "_law_take" "_law_take" s_law_take f fd) : FnG P w K mg base (L2.CX P w) 1 f fd ["box", "most"] spTake := by
  refine fnG F sc_law_take (fun vs H Q E h => ?_) (fun cdv A outer s H vs Q E hG hr h => ?_)
  · obtain ⟨b, size, n, rfl, h1, h2, B, hn, k⟩ := h
    all_goals rfl
  · obtain ⟨b, size, n, rfl, h1, h2, B, hn, k⟩ := h
    have nd := sc_law_take.nd
    refine ⟨_, (pss_cons (ps_if (pt_cmpR op_gt (pe_ix ix_list (pv 0) pe_int (fun _ _ => rfl)) pe_int (nomark _)) (pss_cons (ps_set (i := 2) nd rfl (Or.inl rfl) (pe_op op_mod (pe_ix ix_list (pv 0) pe_int (fun _ _ => rfl)) (pv 1))) (pss_cons (ps_asg (pe_op op_fdivW (pe_ix ix_list (pv 0) pe_int (fun _ _ => rfl)) (pv 1)) (pg_sub (pv 0) pe_int set_list)) (pss_one (ps_ret (pv 2))))) pss_nil) (pss_cons (ps_asg (pe_op op_add (pe_ix ix_list (pv 0) pe_int (fun _ _ => rfl)) pe_int) (pg_sub (pv 0) pe_int set_list)) (pss_cons (ps_set (i := 3) nd rfl (Or.inl rfl) (pe_op op_mod (pe_op op_pow (pe_op op_add (pe_op op_add (pe_ix ix_list (pv 0) pe_int (fun _ _ => rfl)) (pe_op op_mul pe_int (pe_ix ix_list (pv 0) pe_int (fun _ _ => rfl)))) pe_int) pe_int) pe_int)) (pss_cons (ps_set (i := 4) nd rfl (Or.inl rfl) (pe_op op_mod (pe_op op_pow (pe_op op_add (pe_op op_add (pe_op op_fdiv (pv 3) pe_int) (pe_op op_mul pe_int (pe_ix ix_list (pv 0) pe_int (fun _ _ => rfl)))) pe_int) pe_int) pe_int)) (pss_one (ps_ret (pe_op op_mod (pe_op op_add (pe_op op_fdiv (pv 3) pe_int) (pe_op op_mul pe_int (pe_op op_fdiv (pv 4) pe_int))) (pv 1)))))))), ?_⟩
    walk_at "rd"
    obtain ⟨x, y, z, hb, x0, y0, y1, z0, z1⟩ := B
    refine r_ixLs (j := 0) hb rfl rfl ?_
    walk_at "rd"
    refine ite2 (fun c => ?_) (fun c => ?_)
    · have c' : 0 < x := of_decide_eq_true c
      walk_at "rd"
      refine r_ixLs (j := 0) hb rfl rfl ?_
      walk_at "rd"
      refine r_I h1 ?_
      walk_at "rd"
      refine r_ixLs (j := 0) hb rfl rfl ?_
      walk_at "rd"
      refine r_I (wide_div (b := 200) h1 (by omega) (by decide) (by decide)) ?_
      walk_at "rd"
      refine r_setL hb rfl ?_
      walk_at "rd"
      exact k (x % size) _ (Int.emod_nonneg _ (by omega)) (Int.emod_lt_of_pos _ h1) ⟨x / size, y, z, upd_same, Int.ediv_nonneg x0 (by omega), y0, y1, z0, by omega⟩ Off.upd
    · walk_at "rd"
      refine r_ixLs (j := 2) hb rfl rfl ?_
      walk_at "rd"
      refine r_setL hb rfl ?_
      walk_at "rd"
      refine r_ixLs (j := 1) upd_same rfl rfl ?_
      walk_at "rd"
      refine r_ixLs (j := 2) upd_same rfl rfl ?_
      walk_at "rd"
      refine r_I ⟨by decide, by decide, by omega⟩ ?_
      walk_at "rd"
      generalize (y + 15485863 * (z + 1) + 43) ^ (5 : Int).toNat = one0
      have o1 := Int.emod_nonneg one0 (show (2147483647 : Int) ≠ 0 by decide)
      have o2 := Int.emod_lt_of_pos one0 (show (0 : Int) < 2147483647 by decide)
      revert o1 o2
      generalize one0 % 2147483647 = one
      intro o1 o2
      refine r_ixLs (j := 2) upd_same rfl rfl ?_
      walk_at "rd"
      refine r_I ⟨by decide, by decide, by omega⟩ ?_
      walk_at "rd"
      refine r_I h1 ?_
      walk_at "rd"
      exact k _ _ (Int.emod_nonneg _ (by omega)) (Int.emod_lt_of_pos _ h1) ⟨x, y, z + 1, upd_same, x0, y0, y1, by omega, by omega⟩ Off.upd
theorem c_law_take (T : Txt K mg w C_NoPart C_NoIns C_Worker) : Cal P w K mg base (L2.CX P w) 1 "_law_take" ["box", "most"] spTake :=
  T.d_law_take.cal (fun F => ok_law_take T F) fun _ _ _ _ _ _ us hl => match us, hl with | [_, _], _ => rfl
def spCell (K : PySem.W.Frag) : Sp := fun vs H Q _ => ∃ (a : Addr) (ns : List Int) (j : Nat), vs = [.ref a, .int (j : Int)] ∧ SqL K H a (ns.map V.int) ∧ ∀ i : Int, Q (.int i) H
theorem sc_law_cell : FnScope ["script", "k"] ["script", "k"] (defScope s_law_cell) := ⟨rfl, rfl, rfl, by decide +kernel, rfl, by decide +kernel, by decide +kernel⟩
theorem ok_law_cell (T : Txt K mg w C_NoPart C_NoIns C_Worker) (F : Fun K "_law_cell" "_law_cell" s_law_cell f fd) : FnG P w K mg base (L2.CX P w) 1 f fd ["script", "k"] (spCell K) := by
  refine fnG F sc_law_cell (fun vs H Q E h => ?_) (fun cdv A outer s H vs Q E hG hr h => ?_)
  · obtain ⟨a, ns, j, rfl, hS, q⟩ := h
    all_goals rfl
  · obtain ⟨a, ns, j, rfl, hS, q⟩ := h
    have nd := sc_law_cell.nd
    refine ⟨_, (pss_cons (ps_if (pt_cmpR op_lt (pv 1) (pe_callB call_len_seq (by rfl) T.n_len PySem.boot_len (pa_cons (pv 0) pa_nil)) (nomark _)) (pss_one (ps_ret (pe_ix ix_list (pv 0) (pv 1) (fun _ _ => rfl)))) pss_nil)
        (pss_one (ps_ret (pe_op op_add (pe_op op_mul pe_int (pv 1)) pe_int)))), ?_⟩
    walk_at "rd"
    refine ⟨a, _, rfl, .inl hS, ?_⟩
    walk_at "rd"
    refine ite2 (fun c => ?_) (fun c => ?_)
    · have c' : (j : Int) < ((ns.map V.int).length : Int) := of_decide_eq_true c
      have hj : j < ns.length := by rw [List.length_map] at c'; omega
      walk_at "rd"
      refine r_ixL (j := j) (v := .int ns[j]) hS rfl (by simp [hj]) ?_
      exact q _
    · walk_at "rd"
      exact q _
theorem c_law_cell (T : Txt K mg w C_NoPart C_NoIns C_Worker) : Cal P w K mg base (L2.CX P w) 1 "_law_cell" ["script", "k"] (spCell K) :=
  T.d_law_cell.cal (fun F => ok_law_cell T F) fun _ _ _ _ _ _ us hl => match us, hl with | [_, _], _ => rfl
def spBox : Sp := fun vs H Q _ => ∃ i : Int, vs = [.int i] ∧ ∀ b H', H b = none → Bx 0 H' b → Same H H' → Q (.ref b) H'
theorem sc_law_box : FnScope ["cell"] ["cell"] (defScope s_law_box) := ⟨rfl, rfl, rfl, by decide +kernel, rfl, by decide +kernel, by decide +kernel⟩
theorem ok_law_box (T : Txt K mg w C_NoPart C_NoIns C_Worker) (F : Fun K "_law_box" "_law_box" s_law_box f fd) : FnG P w K mg base (L2.CX P w) 1 f fd ["cell"] spBox := by
  refine fnG F sc_law_box (fun vs H Q E h => ?_) (fun cdv A outer s H vs Q E hG hr h => ?_)
  · obtain ⟨i, rfl, q⟩ := h
    all_goals rfl
  · obtain ⟨i, rfl, q⟩ := h
    have nd := sc_law_box.nd
    refine ⟨_, (pss_one (ps_ret (pe_lst (pa_cons (pe_callB (call_max2 rfl) (by rfl) T.n_max (by decide +kernel) (pa_cons pe_int (pa_cons (pe_op op_sub (pv 0) (pe_op op_pow pe_int pe_int)) pa_nil))) (pa_cons (pe_op op_mod (pv 0) pe_int) (pa_cons pe_int pa_nil)))))), ?_⟩
    walk_at "rd"
    refine ⟨_, _, rfl, ?_⟩
    walk_at "rd"
    refine newL rfl fun b H2 hb s2 e2 => ?_
    refine q b _ hb ⟨_, _, 0, e2, ?_, Int.emod_nonneg _ (by decide), ?_, by decide, by decide⟩ s2
    · split <;> omega
    · have := Int.emod_lt_of_pos i (show (0 : Int) < 2147483629 by decide)
      omega
theorem c_law_box (T : Txt K mg w C_NoPart C_NoIns C_Worker) : Cal P w K mg base (L2.CX P w) 1 "_law_box" ["cell"] spBox :=
  T.d_law_box.cal (fun F => ok_law_box T F) fun _ _ _ _ _ _ us hl => match us, hl with | [_], _ => rfl
/-! ### numbers.py -/
theorem sc_is_number : FnScope ["thing"] ["thing"] (defScope s_is_number) := ⟨rfl, rfl, rfl, by decide +kernel, rfl, by decide +kernel, by decide +kernel⟩
theorem ok_is_number (T : Txt K mg w C_NoPart C_NoIns C_Worker) (F : Fun K "is_number" "is_number" s_is_number f fd) : FnOk P w K mg base (L2.CX P w) 1 f fd ["thing"] (spNumber K) := by
  refine F.okX sc_is_number (fun vs H Q E h => ?_) (fun cdv A outer s H vs Q E hr h => ?_)
  · obtain ⟨v, bi, bb, rfl, h1, h2, q⟩ := h
    all_goals rfl
  · obtain ⟨v, bi, bb, rfl, h1, h2, q⟩ := h
    have nd := sc_is_number.nd
    refine ⟨_, (pss_one (ps_ret (pe_and (pe_callB call_is2 (by rfl) T.n_isinstance (by decide +kernel) (pa_cons (pv 0) (pa_cons (pe_tyn "int" T.n_int (by decide +kernel)) pa_nil))) (pe_one (pe_not (pe_callB call_is2 (by rfl) T.n_isinstance (by decide +kernel) (pa_cons (pv 0) (pa_cons (pe_tyn "bool" T.n_bool (by decide +kernel)) pa_nil)))))))), ?_⟩
    walk_at "rd"
    refine r_andV ?_
    walk_at "rd"
    refine ⟨v, "int", bi, rfl, h1, ?_⟩
    walk_at "rd"
    cases bi with
    | false =>
      walk_at "rd"
      exact q
    | true =>
      walk_at "rd"
      refine ⟨v, "bool", bb, rfl, h2 rfl, ?_⟩
      walk_at "rd"
      exact q
theorem c_is_number (T : Txt K mg w C_NoPart C_NoIns C_Worker) : CalO P w K mg base 1 "is_number" ["thing"] (spNumber K) :=
  T.d_is_number.calo (fun F => ok_is_number T F) fun _ _ _ _ _ _ us hl => match us, hl with | [_], _ => rfl
theorem sc_is_whole : FnScope ["thing", "low", "high"] ["thing", "low", "high"] (defScope s_is_whole) := ⟨rfl, rfl, rfl, by decide +kernel, rfl, by decide +kernel, by decide +kernel⟩
theorem ok_is_whole (T : Txt K mg w C_NoPart C_NoIns C_Worker) (F : Fun K "is_whole" "is_whole" s_is_whole f fd) : FnOk P w K mg base (L2.CX P w) 2 f fd ["thing", "low", "high"] (spWhole K) := by
  refine F.okX sc_is_whole (fun vs H Q E h => ?_) (fun cdv A outer s H vs Q E hr h => ?_)
  · obtain ⟨v, lo, hi, b, rfl, h1, q⟩ := h
    all_goals rfl
  · obtain ⟨v, lo, hi, b, rfl, h1, q⟩ := h
    have nd := sc_is_whole.nd
    refine ⟨_, (pss_one (ps_ret (pe_and (pe_o (c_is_number T) (hr.mono (by decide)) (fun _ => passS) (pa_cons (pv 0) pa_nil)) (pe_one (pe_chain op_le op_le (pv 1) (pv 0) (pv 2)))))), ?_⟩
    walk_at "rd"
    refine r_andV ?_
    walk_at "rd"
    rcases h1 with ⟨i, rfl, rfl⟩ | ⟨n, rfl⟩
    · refine ⟨_, true, false, rfl, isI_int (by decide +kernel), fun _ => isI_int (by decide +kernel), ?_⟩
      walk_at "rd"
      refine iteT ?_
      walk_at "rd"
      by_cases c : lo ≤ i
      · rw [decide_eq_true c] at q ⊢
        walk_at "rd"
        exact q
      · rw [decide_eq_false c] at q ⊢
        walk_at "rd"
        exact q
    · rcases n with ⟨c, rfl⟩ | n
      · refine ⟨_, true, true, rfl, isI_bl (by decide +kernel), fun _ => isI_bl (by decide +kernel), ?_⟩
        walk_at "rd"
        exact iteF q
      · refine ⟨_, false, false, rfl, n, fun z => (by cases z), ?_⟩
        walk_at "rd"
        exact iteF q
theorem c_is_whole (T : Txt K mg w C_NoPart C_NoIns C_Worker) : CalO P w K mg base 2 "is_whole" ["thing", "low", "high"] (spWhole K) :=
  T.d_is_whole.calo (fun F => ok_is_whole T F) fun _ _ _ _ _ _ us hl => match us, hl with | [_, _, _], _ => rfl
theorem sc_is_worth : FnScope ["thing"] ["thing"] (defScope s_is_worth) := ⟨rfl, rfl, rfl, by decide +kernel, rfl, by decide +kernel, by decide +kernel⟩
theorem ok_is_worth (T : Txt K mg w C_NoPart C_NoIns C_Worker) (F : Fun K "is_worth" "is_worth" s_is_worth f fd) : FnOk P w K mg base (L2.CX P w) 3 f fd ["thing"] (spWorth K) := by
  refine F.okX sc_is_worth (fun vs H Q E h => ?_) (fun cdv A outer s H vs Q E hr h => ?_)
  · obtain ⟨v, b, rfl, h1, q⟩ := h
    all_goals rfl
  · obtain ⟨v, b, rfl, h1, q⟩ := h
    have nd := sc_is_worth.nd
    refine ⟨_, (pss_one (ps_ret (pe_o (c_is_whole T) (hr.mono (by decide)) (fun _ => passS) (pa_cons (pv 0) (pa_cons (pe_gc T.g_LEAST) (pa_cons (pe_gc T.g_GREATEST) pa_nil)))))), ?_⟩
    walk_at "rd"
    exact ⟨v, -2048, 2047, b, rfl, h1, q⟩
theorem c_is_worth (T : Txt K mg w C_NoPart C_NoIns C_Worker) : CalO P w K mg base 3 "is_worth" ["thing"] (spWorth K) :=
  T.d_is_worth.calo (fun F => ok_is_worth T F) fun _ _ _ _ _ _ us hl => match us, hl with | [_], _ => rfl
theorem sc_is_name : FnScope ["thing", "sign"] ["thing"] (defScope s_is_name) := ⟨rfl, rfl, rfl, by decide +kernel, rfl, by decide +kernel, by decide +kernel⟩
theorem ok_is_name (T : Txt K mg w C_NoPart C_NoIns C_Worker) (F : Fun K "is_name" "is_name" s_is_name f fd) : FnOk P w K mg base (L2.CX P w) 1 f fd ["thing"] (spName K) := by
  refine F.okX sc_is_name (fun vs H Q E h => ?_) (fun cdv A outer s H vs Q E hr h => ?_)
  · obtain ⟨v, b, rfl, h1, q⟩ := h
    all_goals rfl
  · obtain ⟨v, b, rfl, h1, q⟩ := h
    have nd := sc_is_name.nd
    refine ⟨_, (pss_cons (ps_if (PW.pt (pw_or (pt_not (pt_val (pe_callB call_is2 (by rfl) T.n_isinstance (by decide +kernel) (pa_cons (pv 0) (pa_cons (pe_tyn "str" T.n_str (by decide +kernel)) pa_nil))))) (pw_or1 (pt_not (pt_chain op_le op_le pe_int (pe_callB call_len_str (by rfl) T.n_len PySem.boot_len (pa_cons (pv 0) pa_nil)) (pe_gc T.g_NAME_LENGTH)))))) (pss_one (ps_ret pe_bl)) pss_nil)
        (pss_one (ps_ret (pe_callB (cr_all rfl) (by rfl) T.n_all (by decide +kernel) (pa_cons (pe_lc (own := [("sign", 1)]) (g := gName 1) (tt := tYes) rfl nd (pi_str (pv 0)) (blkOk_by (N := ["thing", "sign"]) (sc := defScope s_is_name) (by decide +kernel)) (fun _ _ _ _ _ => pg_name (i := 1) nd rfl (Or.inl rfl)) (fun _ _ _ _ _ => pts_nil) (fun _ _ _ _ _ => (pe_chain op_le_str op_le_str pe_str (pv 1) pe_str))) pa_nil))))), ?_⟩
    walk_at "rd"
    rcases h1 with ⟨z, rfl, hz, rfl⟩ | ⟨n, rfl⟩
    · refine ⟨_, "str", true, rfl, isI_str (by decide +kernel), ?_⟩
      walk_at "rd"
      refine ⟨z, rfl, Nat.le_trans hz (by decide), ?_⟩
      walk_at "rd"
      unfold nameB at q
      cases h1 : decide ((1 : Int) ≤ z.length) with
      | false =>
        rw [h1] at q
        walk_at "rd"
        exact q H (Same.refl H)
      | true =>
        rw [h1] at q
        walk_at "rd"
        cases h2 : decide ((z.length : Int) ≤ 8) with
        | false =>
          rw [h2] at q
          walk_at "rd"
          exact q H (Same.refl H)
        | true =>
          rw [h2] at q
          walk_at "rd"
          refine r_lcS (z := z) (fun c => .bl (lower c)) (fun _ => true) (fun R r => r_var rfl r) (Nat.le_trans hz (by decide)) (fun _ => rfl) (fun _ _ _ r => r) (fun c H1 Q1 r => ?_) (fun D hD => ?_)
          · walk_at "rd"
            refine ⟨_, _, rfl, rfl, ?_⟩
            walk_at "rd"
            have e1 : (!decide (([c] : List Nat) < [97])) = decide (97 ≤ c) := by rw [lex1]; by_cases h : c < 97 <;> simp [h] <;> omega
            have e2 : (!decide (([122] : List Nat) < [c])) = decide (c ≤ 122) := by rw [lex1]; by_cases h : 122 < c <;> simp [h] <;> omega
            show ite ((!decide (([c] : List Nat) < [97])) = true) _ _
            rw [e1]
            cases h3 : decide (97 ≤ c) with
            | false =>
              walk_at "rd"
              unfold lower at r
              rw [h3] at r
              exact r
            | true =>
              walk_at "rd"
              refine ⟨_, _, rfl, rfl, ?_⟩
              show Q1 (.bl (!decide (([122] : List Nat) < [c]))) H1
              rw [e2]
              unfold lower at r
              rw [h3] at r
              exact r
          · walk_at "rd"
            refine ⟨D, z.cps.toList.map lower, rfl, SqL.of ?_, ?_⟩
            · have e : List.filter (fun _ => true) z.cps.toList = z.cps.toList := List.filter_eq_self.mpr fun _ _ => rfl
              rw [upd_same, e, List.map_map]
              rfl
            · have e : (z.cps.toList.map lower).all id = z.cps.toList.all lower := by simp
              rw [e]
              exact q _ fun b o hb => by rw [upd_ne (ne_of_none hb hD)]; exact hb
    · refine ⟨_, "str", false, rfl, n, ?_⟩
      walk_at "rd"
      exact q H (Same.refl H)
theorem c_is_name (T : Txt K mg w C_NoPart C_NoIns C_Worker) : CalO P w K mg base 1 "is_name" ["thing"] (spName K) :=
  T.d_is_name.calo (fun F => ok_is_name T F) fun _ _ _ _ _ _ us hl => match us, hl with | [_], _ => rfl
theorem sc_is_manner : FnScope ["thing"] ["thing"] (defScope s_is_manner) := ⟨rfl, rfl, rfl, by decide +kernel, rfl, by decide +kernel, by decide +kernel⟩
theorem ok_is_manner (T : Txt K mg w C_NoPart C_NoIns C_Worker) (F : Fun K "is_manner" "is_manner" s_is_manner f fd) : FnOk P w K mg base (L2.CX P w) 1 f fd ["thing"] (spIn K manners) := by
  obtain ⟨a_MANNERS, g_MANNERS, hm⟩ := T.g_MANNERS
  refine F.okX sc_is_manner (fun vs H Q E h => ?_) (fun cdv A outer s H vs Q E hr h => ?_)
  · obtain ⟨v, b, rfl, h1, q⟩ := h
    all_goals rfl
  · obtain ⟨v, b, rfl, h1, q⟩ := h
    have nd := sc_is_manner.nd
    refine ⟨_, (pss_one (ps_ret (pe_and (pe_callB call_is2 (by rfl) T.n_isinstance (by decide +kernel) (pa_cons (pv 0) (pa_cons (pe_tyn "str" T.n_str (by decide +kernel)) pa_nil))) (pe_one (pe_cmpR op_in_seq (pv 0) (pe_gc (v := .ref a_MANNERS) ⟨_, g_MANNERS, rfl⟩) (by rfl)))))), ?_⟩
    walk_at "rd"
    refine r_andV ?_
    walk_at "rd"
    rcases h1 with ⟨z, rfl, rfl⟩ | ⟨n, rfl⟩
    · refine ⟨_, "str", true, rfl, isI_str (by decide +kernel), ?_⟩
      walk_at "rd"
      exact ⟨a_MANNERS, _, rfl, .inr (hm H), rfl, rfl, q⟩
    · refine ⟨_, "str", false, rfl, n, ?_⟩
      walk_at "rd"
      exact q
theorem c_is_manner (T : Txt K mg w C_NoPart C_NoIns C_Worker) : CalO P w K mg base 1 "is_manner" ["thing"] (spIn K manners) :=
  T.d_is_manner.calo (fun F => ok_is_manner T F) fun _ _ _ _ _ _ us hl => match us, hl with | [_], _ => rfl
theorem sc_is_table : FnScope ["thing"] ["thing"] (defScope s_is_table) := ⟨rfl, rfl, rfl, by decide +kernel, rfl, by decide +kernel, by decide +kernel⟩
theorem ok_is_table (T : Txt K mg w C_NoPart C_NoIns C_Worker) (F : Fun K "is_table" "is_table" s_is_table f fd) : FnOk P w K mg base (L2.CX P w) 1 f fd ["thing"] (spIn K tables) := by
  obtain ⟨a_TABLES, g_TABLES, hm⟩ := T.g_TABLES
  refine F.okX sc_is_table (fun vs H Q E h => ?_) (fun cdv A outer s H vs Q E hr h => ?_)
  · obtain ⟨v, b, rfl, h1, q⟩ := h
    all_goals rfl
  · obtain ⟨v, b, rfl, h1, q⟩ := h
    have nd := sc_is_table.nd
    refine ⟨_, (pss_one (ps_ret (pe_and (pe_callB call_is2 (by rfl) T.n_isinstance (by decide +kernel) (pa_cons (pv 0) (pa_cons (pe_tyn "str" T.n_str (by decide +kernel)) pa_nil))) (pe_one (pe_cmpR op_in_seq (pv 0) (pe_gc (v := .ref a_TABLES) ⟨_, g_TABLES, rfl⟩) (by rfl)))))), ?_⟩
    walk_at "rd"
    refine r_andV ?_
    walk_at "rd"
    rcases h1 with ⟨z, rfl, rfl⟩ | ⟨n, rfl⟩
    · refine ⟨_, "str", true, rfl, isI_str (by decide +kernel), ?_⟩
      walk_at "rd"
      exact ⟨a_TABLES, _, rfl, .inr (hm H), rfl, rfl, q⟩
    · refine ⟨_, "str", false, rfl, n, ?_⟩
      walk_at "rd"
      exact q
theorem c_is_table (T : Txt K mg w C_NoPart C_NoIns C_Worker) : CalO P w K mg base 1 "is_table" ["thing"] (spIn K tables) :=
  T.d_is_table.calo (fun F => ok_is_table T F) fun _ _ _ _ _ _ us hl => match us, hl with | [_], _ => rfl
def spBack : Sp := fun vs H Q _ => ∃ i, vs = [.int i] ∧ Q (.int (dFold i)) H
theorem sc_turned_back : FnScope ["number", "way"] ["number"] (defScope s_turned_back) := ⟨rfl, rfl, rfl, by decide +kernel, rfl, by decide +kernel, by decide +kernel⟩
theorem ok_turned_back (T : Txt K mg w C_NoPart C_NoIns C_Worker) (F : Fun K "_turned_back" "_turned_back" s_turned_back f fd) : FnOk P w K mg base (L2.CX P w) 1 f fd ["number"] spBack := by
  refine F.okX sc_turned_back (fun vs H Q E h => ?_) (fun cdv A outer s H vs Q E hr h => ?_)
  · obtain ⟨i, rfl, q⟩ := h
    all_goals rfl
  · obtain ⟨i, rfl, q⟩ := h
    have nd := sc_turned_back.nd
    refine ⟨_, (pss_cons (ps_set (i := 1) nd rfl (Or.inl rfl) (pe_op op_mod (pe_op op_sub (pv 0) (pe_gc T.g_LEAST)) (pe_op op_mul pe_int (pe_gc T.g_WIDTH))))
        (pss_cons (ps_if (pt_cmpR op_lt (pv 1) (pe_gc T.g_WIDTH) (nomark _)) (pss_one (ps_ret (pe_op op_add (pv 1) (pe_gc T.g_LEAST)))) pss_nil)
        (pss_one (ps_ret (pe_op op_add (pe_op op_sub (pe_op op_sub (pe_op op_mul pe_int (pe_gc T.g_WIDTH)) pe_int) (pv 1)) (pe_gc T.g_LEAST)))))), ?_⟩
    walk_at "rd"
    unfold dFold at q
    refine ite2 (fun c => ?_) (fun c => ?_)
    · have c : (i - -2048) % (2 * 4096) < 4096 := of_decide_eq_true c
      walk_at "rd"
      rw [if_pos (by omega)] at q
      refine (congrArg (fun n => Q (.int n) H) ?_).mp q
      omega
    · have c : ¬ (i - -2048) % (2 * 4096) < 4096 := fun z => c (decide_eq_true z)
      walk_at "rd"
      rw [if_neg (by omega)] at q
      refine (congrArg (fun n => Q (.int n) H) ?_).mp q
      omega
theorem c_turned_back (T : Txt K mg w C_NoPart C_NoIns C_Worker) : CalO P w K mg base 1 "_turned_back" ["number"] spBack :=
  T.d_turned_back.calo (fun F => ok_turned_back T F) fun _ _ _ _ _ _ us hl => match us, hl with | [_], _ => rfl
def spFold : Sp := fun vs H Q _ => ∃ i z, vs = [.int i, .str z] ∧ manOk z ∧ Q (.int (dBy z i)) H
theorem sc_folded : FnScope ["number", "manner"] ["number", "manner"] (defScope s_folded) := ⟨rfl, rfl, rfl, by decide +kernel, rfl, by decide +kernel, by decide +kernel⟩
theorem ok_folded (T : Txt K mg w C_NoPart C_NoIns C_Worker) (F : Fun K "folded" "folded" s_folded f fd) : FnOk P w K mg base (L2.CX P w) 3 f fd ["number", "manner"] spFold := by
  refine F.okX sc_folded (fun vs H Q E h => ?_) (fun cdv A outer s H vs Q E hr h => ?_)
  · obtain ⟨i, z, rfl, wy, q⟩ := h
    all_goals rfl
  · obtain ⟨i, z, rfl, wy, q⟩ := h
    have nd := sc_folded.nd
    refine ⟨_, (pss_cons (ps_if (pt_not (pt_val (pe_o (c_is_number T) (hr.mono (by decide)) (fun _ => passS) (pa_cons (pv 0) pa_nil)))) (pss_one ps_never) pss_nil)
        (pss_cons (ps_if (pt_not (pt_val (pe_o (c_is_manner T) (hr.mono (by decide)) (fun _ => passS) (pa_cons (pv 1) pa_nil)))) (pss_one ps_never) pss_nil)
        (pss_cons (ps_if (pt_cmpR op_eq (pv 1) pe_str (nomark _)) (pss_one (ps_ret (pe_callB (call_max2 rfl) (by rfl) T.n_max (by decide +kernel) (pa_cons (pe_gc T.g_LEAST) (pa_cons (pe_callB (call_min2 rfl) (by rfl) T.n_min (by decide +kernel) (pa_cons (pe_gc T.g_GREATEST) (pa_cons (pv 0) pa_nil))) pa_nil))))) pss_nil)
        (pss_cons (ps_if (pt_cmpR op_eq (pv 1) pe_str (nomark _)) (pss_one (ps_ret (pe_op op_add (pe_op op_mod (pe_op op_sub (pv 0) (pe_gc T.g_LEAST)) (pe_gc T.g_WIDTH)) (pe_gc T.g_LEAST)))) pss_nil)
        (pss_one (ps_ret (pe_o (c_turned_back T) (hr.mono (by decide)) (fun _ => passS) (pa_cons (pv 0) pa_nil)))))))), ?_⟩
    walk_at "rd"
    refine ⟨.int i, true, false, rfl, isI_int (by decide +kernel), fun _ => isI_int (by decide +kernel), ?_⟩
    walk_at "rd"
    refine iteFb rfl ?_
    walk_at "rd"
    refine ⟨_, true, rfl, .inl ⟨z, rfl, (man_in wy).symm⟩, ?_⟩
    walk_at "rd"
    rcases wy with rfl | rfl | rfl
    · refine iteTb (by decide +kernel) ?_
      walk_at "rd"
      refine ⟨_, _, rfl, ?_⟩
      walk_at "rd"
      refine ⟨_, _, rfl, ?_⟩
      walk_at "rd"
      refine (congrArg (fun n => Q (.int n) H) ?_).mp q
      show dClip i = _
      unfold dClip
      split <;> split <;> omega
    · refine iteFb (by decide +kernel) ?_
      walk_at "rd"
      refine iteTb (by decide +kernel) ?_
      walk_at "rd"
      refine (congrArg (fun n => Q (.int n) H) ?_).mp q
      show dWrap i = _
      unfold dWrap
      omega
    · refine iteFb (by decide +kernel) ?_
      walk_at "rd"
      refine iteFb (by decide +kernel) ?_
      walk_at "rd"
      exact ⟨i, rfl, q⟩
theorem c_folded (T : Txt K mg w C_NoPart C_NoIns C_Worker) : CalO P w K mg base 3 "folded" ["number", "manner"] spFold :=
  T.d_folded.calo (fun F => ok_folded T F) fun _ _ _ _ _ _ us hl => match us, hl with | [_, _], _ => rfl
def spIsFold : Sp := fun vs H Q _ => ∃ i z, vs = [.int i, .str z] ∧ manOk z ∧ Q (.bl (!decide (dBy z i = i))) H
theorem dec_int {i j : Int} : decide (V.int i = V.int j) = decide (i = j) := by
  by_cases h : i = j
  · rw [decide_eq_true h, decide_eq_true (congrArg V.int h)]
  · rw [decide_eq_false h, decide_eq_false fun z => h (V.int.inj z)]
theorem sc_is_folded : FnScope ["number", "manner"] ["number", "manner"] (defScope s_is_folded) := ⟨rfl, rfl, rfl, by decide +kernel, rfl, by decide +kernel, by decide +kernel⟩
theorem ok_is_folded (T : Txt K mg w C_NoPart C_NoIns C_Worker) (F : Fun K "is_folded" "is_folded" s_is_folded f fd) : FnOk P w K mg base (L2.CX P w) 4 f fd ["number", "manner"] spIsFold := by
  refine F.okX sc_is_folded (fun vs H Q E h => ?_) (fun cdv A outer s H vs Q E hr h => ?_)
  · obtain ⟨i, z, rfl, wy, q⟩ := h
    all_goals rfl
  · obtain ⟨i, z, rfl, wy, q⟩ := h
    have nd := sc_is_folded.nd
    refine ⟨_, (pss_one (ps_ret (pe_cmpR op_ne (pe_o (c_folded T) (hr.mono (by decide)) (fun _ => passS) (pa_cons (pv 0) (pa_cons (pv 1) pa_nil))) (pv 0) (nomark _)))), ?_⟩
    walk_at "rd"
    refine ⟨i, z, rfl, wy, ?_⟩
    walk_at "rd"
    rw [dec_int]
    exact q
theorem c_is_folded (T : Txt K mg w C_NoPart C_NoIns C_Worker) : CalO P w K mg base 4 "is_folded" ["number", "manner"] spIsFold :=
  T.d_is_folded.calo (fun F => ok_is_folded T F) fun _ _ _ _ _ _ us hl => match us, hl with | [_, _], _ => rfl
def spT (g : Int → Int) : Sp := fun vs H Q _ => ∃ p, vs = [.int p] ∧ 0 ≤ p ∧ p < 64 ∧ Q (.int (g p)) H
theorem sc_saw : FnScope ["place"] ["place"] (defScope s_saw) := ⟨rfl, rfl, rfl, by decide +kernel, rfl, by decide +kernel, by decide +kernel⟩
theorem ok_saw (T : Txt K mg w C_NoPart C_NoIns C_Worker) (F : Fun K "_saw" "_saw" s_saw f fd) : FnOk P w K mg base (L2.CX P w) 1 f fd ["place"] (spT gSaw) := by
  refine F.okX sc_saw (fun vs H Q E h => ?_) (fun cdv A outer s H vs Q E hr h => ?_)
  · obtain ⟨p, rfl, p0, p1, q⟩ := h
    all_goals rfl
  · obtain ⟨p, rfl, p0, p1, q⟩ := h
    have nd := sc_saw.nd
    refine ⟨_, (pss_one (ps_ret (pe_op op_sub (pe_op op_mul pe_int (pv 0)) pe_int))), ?_⟩
    walk_at "rd"
    exact q
theorem c_saw (T : Txt K mg w C_NoPart C_NoIns C_Worker) : CalO P w K mg base 1 "_saw" ["place"] (spT gSaw) :=
  T.d_saw.calo (fun F => ok_saw T F) fun _ _ _ _ _ _ us hl => match us, hl with | [_], _ => rfl
theorem sc_square : FnScope ["place"] ["place"] (defScope s_square) := ⟨rfl, rfl, rfl, by decide +kernel, rfl, by decide +kernel, by decide +kernel⟩
theorem ok_square (T : Txt K mg w C_NoPart C_NoIns C_Worker) (F : Fun K "_square" "_square" s_square f fd) : FnOk P w K mg base (L2.CX P w) 1 f fd ["place"] (spT gSquare) := by
  refine F.okX sc_square (fun vs H Q E h => ?_) (fun cdv A outer s H vs Q E hr h => ?_)
  · obtain ⟨p, rfl, p0, p1, q⟩ := h
    all_goals rfl
  · obtain ⟨p, rfl, p0, p1, q⟩ := h
    have nd := sc_square.nd
    refine ⟨_, (pss_one (ps_ret (pe_ifExp (pt_cmpR op_lt (pv 0) pe_int (nomark _)) (pe_gc T.g_GREATEST) (pe_gc T.g_LEAST)))), ?_⟩
    walk_at "rd"
    unfold gSquare at q
    refine ite2 (fun c => ?_) (fun c => ?_)
    · walk_at "rd"
      rwa [if_pos (of_decide_eq_true c)] at q
    · walk_at "rd"
      rwa [if_neg fun z => c (decide_eq_true z)] at q
theorem c_square (T : Txt K mg w C_NoPart C_NoIns C_Worker) : CalO P w K mg base 1 "_square" ["place"] (spT gSquare) :=
  T.d_square.calo (fun F => ok_square T F) fun _ _ _ _ _ _ us hl => match us, hl with | [_], _ => rfl
theorem sc_tri : FnScope ["place"] ["place"] (defScope s_tri) := ⟨rfl, rfl, rfl, by decide +kernel, rfl, by decide +kernel, by decide +kernel⟩
theorem ok_tri (T : Txt K mg w C_NoPart C_NoIns C_Worker) (F : Fun K "_tri" "_tri" s_tri f fd) : FnOk P w K mg base (L2.CX P w) 1 f fd ["place"] (spT gTri) := by
  refine F.okX sc_tri (fun vs H Q E h => ?_) (fun cdv A outer s H vs Q E hr h => ?_)
  · obtain ⟨p, rfl, p0, p1, q⟩ := h
    all_goals rfl
  · obtain ⟨p, rfl, p0, p1, q⟩ := h
    have nd := sc_tri.nd
    refine ⟨_, (pss_cons (ps_if (pt_cmpR op_lt (pv 0) pe_int (nomark _)) (pss_one (ps_ret (pe_op op_sub (pe_op op_mul pe_int (pv 0)) pe_int))) pss_nil)
        (pss_one (ps_ret (pe_op op_sub pe_int (pe_op op_mul pe_int (pe_op op_sub (pv 0) pe_int)))))), ?_⟩
    walk_at "rd"
    unfold gTri at q
    refine ite2 (fun c => ?_) (fun c => ?_)
    · walk_at "rd"
      rwa [if_pos (of_decide_eq_true c)] at q
    · walk_at "rd"
      rwa [if_neg fun z => c (decide_eq_true z)] at q
theorem c_tri (T : Txt K mg w C_NoPart C_NoIns C_Worker) : CalO P w K mg base 1 "_tri" ["place"] (spT gTri) :=
  T.d_tri.calo (fun F => ok_tri T F) fun _ _ _ _ _ _ us hl => match us, hl with | [_], _ => rfl
theorem sc_pulse : FnScope ["place"] ["place"] (defScope s_pulse) := ⟨rfl, rfl, rfl, by decide +kernel, rfl, by decide +kernel, by decide +kernel⟩
theorem ok_pulse (T : Txt K mg w C_NoPart C_NoIns C_Worker) (F : Fun K "_pulse" "_pulse" s_pulse f fd) : FnOk P w K mg base (L2.CX P w) 1 f fd ["place"] (spT gPulse) := by
  refine F.okX sc_pulse (fun vs H Q E h => ?_) (fun cdv A outer s H vs Q E hr h => ?_)
  · obtain ⟨p, rfl, p0, p1, q⟩ := h
    all_goals rfl
  · obtain ⟨p, rfl, p0, p1, q⟩ := h
    have nd := sc_pulse.nd
    refine ⟨_, (pss_one (ps_ret (pe_ifExp (pt_cmpR op_lt (pv 0) pe_int (nomark _)) (pe_gc T.g_GREATEST) (pe_gc T.g_LEAST)))), ?_⟩
    walk_at "rd"
    unfold gPulse at q
    refine ite2 (fun c => ?_) (fun c => ?_)
    · walk_at "rd"
      rwa [if_pos (of_decide_eq_true c)] at q
    · walk_at "rd"
      rwa [if_neg fun z => c (decide_eq_true z)] at q
theorem c_pulse (T : Txt K mg w C_NoPart C_NoIns C_Worker) : CalO P w K mg base 1 "_pulse" ["place"] (spT gPulse) :=
  T.d_pulse.calo (fun F => ok_pulse T F) fun _ _ _ _ _ _ us hl => match us, hl with | [_], _ => rfl
theorem sc_hump : FnScope ["place"] ["place"] (defScope s_hump) := ⟨rfl, rfl, rfl, by decide +kernel, rfl, by decide +kernel, by decide +kernel⟩
theorem ok_hump (T : Txt K mg w C_NoPart C_NoIns C_Worker) (F : Fun K "_hump" "_hump" s_hump f fd) : FnOk P w K mg base (L2.CX P w) 1 f fd ["place"] (spT gHump) := by
  refine F.okX sc_hump (fun vs H Q E h => ?_) (fun cdv A outer s H vs Q E hr h => ?_)
  · obtain ⟨p, rfl, p0, p1, q⟩ := h
    all_goals rfl
  · obtain ⟨p, rfl, p0, p1, q⟩ := h
    have nd := sc_hump.nd
    refine ⟨_, (pss_cons (ps_if (pt_cmpR op_lt (pv 0) pe_int (nomark _)) (pss_one (ps_ret (pe_callB (call_min2 rfl) (by rfl) T.n_min (by decide +kernel) (pa_cons pe_int (pa_cons (pe_op op_mul (pe_op op_mul pe_int (pv 0)) (pe_op op_sub pe_int (pv 0))) pa_nil))))) pss_nil)
        (pss_one (ps_ret (pe_op op_sub pe_int (pe_op op_mul (pe_op op_mul pe_int (pe_op op_sub (pv 0) pe_int)) (pe_op op_sub pe_int (pv 0))))))), ?_⟩
    walk_at "rd"
    unfold gHump at q
    refine ite2 (fun c => ?_) (fun c => ?_)
    · walk_at "rd"
      refine r_I (show CMul _ _ from .inl ⟨by omega, by omega⟩) ?_
      walk_at "rd"
      refine ⟨_, _, rfl, ?_⟩
      walk_at "rd"
      rw [if_pos (of_decide_eq_true c)] at q
      refine (congrArg (fun n => Q (.int n) H) ?_).mp q
      split <;> omega
    · walk_at "rd"
      refine r_I (show CMul _ _ from .inl ⟨by omega, by omega⟩) ?_
      walk_at "rd"
      rwa [if_neg fun z => c (decide_eq_true z)] at q
theorem c_hump (T : Txt K mg w C_NoPart C_NoIns C_Worker) : CalO P w K mg base 1 "_hump" ["place"] (spT gHump) :=
  T.d_hump.calo (fun F => ok_hump T F) fun _ _ _ _ _ _ us hl => match us, hl with | [_], _ => rfl
def spWorthT : Sp := fun vs H Q _ => ∃ z p, vs = [.str z, .int p] ∧ tabOk z ∧ 0 ≤ p ∧ p < 64 ∧ Q (.int (gTab z p)) H
theorem sc_table_worth : FnScope ["table", "place", "tell"] ["table", "place"] (defScope s_table_worth) := ⟨rfl, rfl, rfl, by decide +kernel, rfl, by decide +kernel, by decide +kernel⟩
theorem ok_table_worth (T : Txt K mg w C_NoPart C_NoIns C_Worker) (F : Fun K "table_worth" "table_worth" s_table_worth f fd) : FnOk P w K mg base (L2.CX P w) 4 f fd ["table", "place"] spWorthT := by
  obtain ⟨a__TABLE_WORTHS, g__TABLE_WORTHS, es, en, kD, ks, ⟨f1, n1, m1⟩, ⟨f2, n2, m2⟩, ⟨f3, n3, m3⟩, ⟨f4, n4, m4⟩, ⟨f5, n5, m5⟩, -⟩ := T.g__TABLE_WORTHS
  have cl : ∀ a sp, (a = f1 ∧ sp = spT gSaw) ∨ (a = f2 ∧ sp = spT gSquare) ∨ (a = f3 ∧ sp = spT gTri) ∨ (a = f4 ∧ sp = spT gPulse) ∨ (a = f5 ∧ sp = spT gHump) → ∃ fd ps, FnOk P w K mg base (L2.CX P w) 1 a fd ps sp ∧ PySem.W.keepIn K (.ref a) = true ∧ Binds K fd ps [] := by rintro a sp (⟨rfl, rfl⟩ | ⟨rfl, rfl⟩ | ⟨rfl, rfl⟩ | ⟨rfl, rfl⟩ | ⟨rfl, rfl⟩) <;> first | exact (c_saw T).at m1 | exact (c_square T).at m2 | exact (c_tri T).at m3 | exact (c_pulse T).at m4 | exact (c_hump T).at m5
  refine F.okX sc_table_worth (fun vs H Q E h => ?_) (fun cdv A outer s H vs Q E hr h => ?_)
  · obtain ⟨z, p, rfl, tb, p0, p1, q⟩ := h
    all_goals rfl
  · obtain ⟨z, p, rfl, tb, p0, p1, q⟩ := h
    have nd := sc_table_worth.nd
    refine ⟨_, (pss_cons (ps_if (pt_not (pt_val (pe_o (c_is_table T) (hr.mono (by decide)) (fun _ => passS) (pa_cons (pv 0) pa_nil)))) (pss_one ps_never) pss_nil)
        (pss_cons (ps_if (pt_not (pt_val (pe_o (c_is_whole T) (hr.mono (by decide)) (fun _ => passS) (pa_cons (pv 1) (pa_cons pe_int (pa_cons (pe_op op_sub (pe_gc T.g_PLACES) pe_int) pa_nil)))))) (pss_one ps_never) pss_nil)
        (pss_cons (ps_set (i := 2) nd rfl (Or.inl rfl) (pe_ix ix_kdict (pe_gc (v := .ref a__TABLE_WORTHS) ⟨_, g__TABLE_WORTHS, rfl⟩) (pv 0) (fun _ _ => rfl)))
        (pss_one (ps_ret (pe_calo cl (hr.mono (by decide)) (fun _ => passS) (pv 2) (pa_cons (pv 1) pa_nil))))))), ?_⟩
    walk_at "rd"
    refine ⟨_, true, rfl, .inl ⟨z, rfl, (tab_in tb).symm⟩, ?_⟩
    walk_at "rd"
    refine ⟨_, _, _, true, rfl, .inl ⟨p, rfl, ?_⟩, ?_⟩
    · rw [decide_eq_true p0, decide_eq_true (show p ≤ 64 - 1 by omega)]
      rfl
    walk_at "rd"
    rcases tb with rfl | rfl | rfl | rfl | rfl
    · refine ⟨_, _, _, rfl, rfl, kd_dct kD n1, ?_⟩
      walk_at "rd"
      refine r_calv ?_
      walk_at "rd"
      refine ⟨f1, _, rfl, .inl ⟨rfl, rfl⟩, ?_⟩
      walk_at "rd"
      exact ⟨p, rfl, p0, p1, q⟩
    · refine ⟨_, _, _, rfl, rfl, kd_dct kD n2, ?_⟩
      walk_at "rd"
      refine r_calv ?_
      walk_at "rd"
      refine ⟨f2, _, rfl, .inr (.inl ⟨rfl, rfl⟩), ?_⟩
      walk_at "rd"
      exact ⟨p, rfl, p0, p1, q⟩
    · refine ⟨_, _, _, rfl, rfl, kd_dct kD n3, ?_⟩
      walk_at "rd"
      refine r_calv ?_
      walk_at "rd"
      refine ⟨f3, _, rfl, .inr (.inr (.inl ⟨rfl, rfl⟩)), ?_⟩
      walk_at "rd"
      exact ⟨p, rfl, p0, p1, q⟩
    · refine ⟨_, _, _, rfl, rfl, kd_dct kD n4, ?_⟩
      walk_at "rd"
      refine r_calv ?_
      walk_at "rd"
      refine ⟨f4, _, rfl, .inr (.inr (.inr (.inl ⟨rfl, rfl⟩))), ?_⟩
      walk_at "rd"
      exact ⟨p, rfl, p0, p1, q⟩
    · refine ⟨_, _, _, rfl, rfl, kd_dct kD n5, ?_⟩
      walk_at "rd"
      refine r_calv ?_
      walk_at "rd"
      refine ⟨f5, _, rfl, .inr (.inr (.inr (.inr ⟨rfl, rfl⟩))), ?_⟩
      walk_at "rd"
      exact ⟨p, rfl, p0, p1, q⟩
theorem c_table_worth (T : Txt K mg w C_NoPart C_NoIns C_Worker) : CalO P w K mg base 4 "table_worth" ["table", "place"] spWorthT :=
  T.d_table_worth.calo (fun F => ok_table_worth T F) fun _ _ _ _ _ _ us hl => match us, hl with | [_, _], _ => rfl
def spNoise : Sp := fun vs H Q _ => ∃ p, vs = [.int p] ∧ 0 ≤ p ∧ p < 4096 ∧ Q (.int ((1229 * p + 351) % 4096)) H
theorem sc_next_noise : FnScope ["state"] ["state"] (defScope s_next_noise) := ⟨rfl, rfl, rfl, by decide +kernel, rfl, by decide +kernel, by decide +kernel⟩
theorem ok_next_noise (T : Txt K mg w C_NoPart C_NoIns C_Worker) (F : Fun K "next_noise" "next_noise" s_next_noise f fd) : FnOk P w K mg base (L2.CX P w) 4 f fd ["state"] spNoise := by
  refine F.okX sc_next_noise (fun vs H Q E h => ?_) (fun cdv A outer s H vs Q E hr h => ?_)
  · obtain ⟨p, rfl, p0, p1, q⟩ := h
    all_goals rfl
  · obtain ⟨p, rfl, p0, p1, q⟩ := h
    have nd := sc_next_noise.nd
    refine ⟨_, (pss_cons (ps_if (pt_not (pt_val (pe_o (c_is_whole T) (hr.mono (by decide)) (fun _ => passS) (pa_cons (pv 0) (pa_cons pe_int (pa_cons (pe_op op_sub (pe_gc T.g_WIDTH) pe_int) pa_nil)))))) (pss_one ps_never) pss_nil)
        (pss_one (ps_ret (pe_op op_mod (pe_op op_add (pe_op op_mul pe_int (pv 0)) pe_int) (pe_gc T.g_WIDTH))))), ?_⟩
    walk_at "rd"
    refine ⟨_, _, _, true, rfl, .inl ⟨p, rfl, ?_⟩, ?_⟩
    · rw [decide_eq_true p0, decide_eq_true (show p ≤ 4096 - 1 by omega)]
      rfl
    walk_at "rd"
    exact q
theorem c_next_noise (T : Txt K mg w C_NoPart C_NoIns C_Worker) : CalO P w K mg base 4 "next_noise" ["state"] spNoise :=
  T.d_next_noise.calo (fun F => ok_next_noise T F) fun _ _ _ _ _ _ us hl => match us, hl with | [_], _ => rfl
end
end KB
set_option linter.all false
set_option maxRecDepth 100000
set_option maxHeartbeats 4000000
namespace KB
open PySem PySem.Spec PyProof.Rows L2 Gx
local macro_rules | `(tactic| walk_at "rd1") => `(tactic| with_reducible first
  | refine r_var rfl ?_ | refine r_c ?_ | refine r_op ?_ | refine r_un ?_ | refine r_I0 ?_ | refine r_neg ?_ | refine r_test ?_ | refine r_B ?_ | refine r_bl ?_ | refine r_blx ?_
  | refine r_seq ?_ | refine r_ret ?_ | refine r_asg ?_ | refine r_name ?_ | refine r_gsub ?_ | refine r_if ?_ | refine r_next ?_ | refine r_drop ?_ | refine r_cb ?_ | refine r_nil ?_ | refine r_cons ?_
  | refine r_g ?_ | refine r_k ?_ | refine r_lstN ?_ | refine r_tupN ?_ | refine r_notV ?_ | refine r_ifE ?_ | refine r_and ?_ | refine r_or ?_ | refine r_not ?_ | refine r_chain ?_
  | refine r_sl ?_ | refine r_part ?_ | refine r_nop ?_ | refine r_par3 ?_ | refine r_is3 ?_ | refine r_par2 ?_ | refine r_is2 ?_ | refine r_m0 ?_ | refine r_ei ?_ | refine r_nx ?_ | refine r_rt ?_ | refine r_ct ?_ | refine r_eq rfl ?_ | refine r_ne rfl ?_ | refine iteT ?_ | refine iteF ?_ | refine iteNF ?_ | refine iteNT ?_
  | (refine r_fdivK ?hc ?_; (case hc => decide +kernel)) | (refine r_modK ?hc ?_; (case hc => decide +kernel)) | (refine r_mulL ?hc ?_; (case hc => decide +kernel)) | (refine r_mulR ?hc ?_; (case hc => decide +kernel)) | (refine r_powK ?hc ?_; (case hc => decide +kernel)) | fail "no step")
local macro_rules | `(tactic| walk_at "rd") => `(tactic| repeat' walk_at "rd1")
section
variable {P : Program} {w : World} {K : PySem.W.Frag} {mg : Str → Option Value} {base : Heap} {f : Addr} {fd : FuncData} {C_NoPart C_NoIns C_Worker : Addr}
/-! ### parts.py -/
theorem sc_is_from : FnScope ["part"] ["part"] (defScope s_is_from) := ⟨rfl, rfl, rfl, by decide +kernel, rfl, by decide +kernel, by decide +kernel⟩
theorem ok_is_from (T : Txt K mg w C_NoPart C_NoIns C_Worker) (F : Fun K "_is_from" "_is_from" s_is_from f fd) : FnOk P w K mg base (L2.CX P w) 2 f fd ["part"] (spChk cFrom) := by
  refine F.okX sc_is_from (fun vs H Q E h => ?_) (fun cdv A outer s H vs Q E hr h => ?_)
  · obtain ⟨a, xs, ds, rfl, ha, hd, ht, q⟩ := h
    all_goals rfl
  · obtain ⟨a, xs, ds, rfl, ha, hd, ht, q⟩ := h
    have nd := sc_is_from.nd
    refine ⟨_, (pss_one (ps_ret (pe_and (pe_cmpR op_eq (pe_callB call_len_seq (by rfl) T.n_len PySem.boot_len (pa_cons (pv 0) pa_nil)) pe_int (nomark _)) (pe_one (pe_o (c_is_name T) (hr.mono (by decide)) (fun _ => passS) (pa_cons (pe_ix ix_tup (pv 0) pe_int (fun _ _ => rfl)) pa_nil)))))), ?_⟩
    walk_at "rd"
    refine r_andV ?_
    walk_at "rd"
    refine ⟨a, _, rfl, .inr (SqT.of ha), ?_⟩
    walk_at "rd"
    rcases len2 hd with ⟨v0, v1, d0, d1, rfl, rfl, h0, h1⟩ | ⟨n, m⟩
    · refine iteTb rfl ?_
      walk_at "rd"
      refine ⟨a, _, 1, _, rfl, rfl, SqT.of ha, rfl, ?_⟩
      walk_at "rd"
      refine sp_name h1 ?_ fun H1 s1 => ?_
      · simp at ht
        exact ht.2
      · walk_at "rd"
        exact q H1 s1
    · refine iteFb (len_ne n) ?_
      rw [cFrom_ne m] at q
      exact q H (Same.refl H)
theorem c_is_from (T : Txt K mg w C_NoPart C_NoIns C_Worker) : CalO P w K mg base 2 "_is_from" ["part"] (spChk cFrom) :=
  T.d_is_from.calo (fun F => ok_is_from T F) fun _ _ _ _ _ _ us hl => match us, hl with | [_], _ => rfl
theorem sc_is_wave : FnScope ["part"] ["part"] (defScope s_is_wave) := ⟨rfl, rfl, rfl, by decide +kernel, rfl, by decide +kernel, by decide +kernel⟩
theorem ok_is_wave (T : Txt K mg w C_NoPart C_NoIns C_Worker) (F : Fun K "_is_wave" "_is_wave" s_is_wave f fd) : FnOk P w K mg base (L2.CX P w) 3 f fd ["part"] (spChk cWave) := by
  refine F.okX sc_is_wave (fun vs H Q E h => ?_) (fun cdv A outer s H vs Q E hr h => ?_)
  · obtain ⟨a, xs, ds, rfl, ha, hd, ht, q⟩ := h
    all_goals rfl
  · obtain ⟨a, xs, ds, rfl, ha, hd, ht, q⟩ := h
    have nd := sc_is_wave.nd
    refine ⟨_, (pss_one (ps_ret (pe_and (pe_cmpR op_eq (pe_callB call_len_seq (by rfl) T.n_len PySem.boot_len (pa_cons (pv 0) pa_nil)) pe_int (nomark _)) (pe_and (pe_o (c_is_table T) (hr.mono (by decide)) (fun _ => passS) (pa_cons (pe_ix ix_tup (pv 0) pe_int (fun _ _ => rfl)) pa_nil)) (pe_one (pe_o (c_is_whole T) (hr.mono (by decide)) (fun _ => passS) (pa_cons (pe_ix ix_tup (pv 0) pe_int (fun _ _ => rfl)) (pa_cons pe_int (pa_cons pe_int pa_nil))))))))), ?_⟩
    walk_at "rd"
    refine r_andV ?_
    walk_at "rd"
    refine ⟨a, _, rfl, .inr (SqT.of ha), ?_⟩
    walk_at "rd"
    rcases len3 hd with ⟨v0, v1, v2, d0, d1, d2, rfl, rfl, h0, h1, h2⟩ | ⟨n, m⟩
    · refine iteTb rfl ?_
      refine r_and2 (inD tables d1) (wholeD 0 2048 d2) (fun R r => ?_) (fun _ R r => ?_) (q H (Same.refl H))
      · walk_at "rd"
        refine ⟨a, _, 1, _, rfl, rfl, SqT.of ha, rfl, ?_⟩
        walk_at "rd"
        exact sp_in h1 r
      · walk_at "rd"
        refine ⟨a, _, 2, _, rfl, rfl, SqT.of ha, rfl, ?_⟩
        walk_at "rd"
        exact sp_whole h2 r
    · refine iteFb (len_ne n) ?_
      rw [cWave_ne m] at q
      exact q H (Same.refl H)
theorem c_is_wave (T : Txt K mg w C_NoPart C_NoIns C_Worker) : CalO P w K mg base 3 "_is_wave" ["part"] (spChk cWave) :=
  T.d_is_wave.calo (fun F => ok_is_wave T F) fun _ _ _ _ _ _ us hl => match us, hl with | [_], _ => rfl
theorem sc_is_noise : FnScope ["part"] ["part"] (defScope s_is_noise) := ⟨rfl, rfl, rfl, by decide +kernel, rfl, by decide +kernel, by decide +kernel⟩
theorem ok_is_noise (T : Txt K mg w C_NoPart C_NoIns C_Worker) (F : Fun K "_is_noise" "_is_noise" s_is_noise f fd) : FnOk P w K mg base (L2.CX P w) 3 f fd ["part"] (spChk cNoise) := by
  refine F.okX sc_is_noise (fun vs H Q E h => ?_) (fun cdv A outer s H vs Q E hr h => ?_)
  · obtain ⟨a, xs, ds, rfl, ha, hd, ht, q⟩ := h
    all_goals rfl
  · obtain ⟨a, xs, ds, rfl, ha, hd, ht, q⟩ := h
    have nd := sc_is_noise.nd
    refine ⟨_, (pss_one (ps_ret (pe_and (pe_cmpR op_eq (pe_callB call_len_seq (by rfl) T.n_len PySem.boot_len (pa_cons (pv 0) pa_nil)) pe_int (nomark _)) (pe_one (pe_o (c_is_whole T) (hr.mono (by decide)) (fun _ => passS) (pa_cons (pe_ix ix_tup (pv 0) pe_int (fun _ _ => rfl)) (pa_cons pe_int (pa_cons pe_int pa_nil)))))))), ?_⟩
    walk_at "rd"
    refine r_andV ?_
    walk_at "rd"
    refine ⟨a, _, rfl, .inr (SqT.of ha), ?_⟩
    walk_at "rd"
    rcases len2 hd with ⟨v0, v1, d0, d1, rfl, rfl, h0, h1⟩ | ⟨n, m⟩
    · refine iteTb rfl ?_
      walk_at "rd"
      refine ⟨a, _, 1, _, rfl, rfl, SqT.of ha, rfl, ?_⟩
      walk_at "rd"
      refine sp_whole h1 ?_
      exact q H (Same.refl H)
    · refine iteFb (len_ne n) ?_
      rw [cNoise_ne m] at q
      exact q H (Same.refl H)
theorem c_is_noise (T : Txt K mg w C_NoPart C_NoIns C_Worker) : CalO P w K mg base 3 "_is_noise" ["part"] (spChk cNoise) :=
  T.d_is_noise.calo (fun F => ok_is_noise T F) fun _ _ _ _ _ _ us hl => match us, hl with | [_], _ => rfl
theorem sc_is_shape : FnScope ["part", "_", "up", "down", "stay", "away", "step"] ["part"] (defScope s_is_shape) := ⟨rfl, rfl, rfl, by decide +kernel, rfl, by decide +kernel, by decide +kernel⟩
theorem ok_is_shape (T : Txt K mg w C_NoPart C_NoIns C_Worker) (F : Fun K "_is_shape" "_is_shape" s_is_shape f fd) : FnOk P w K mg base (L2.CX P w) 3 f fd ["part"] (spChk cShape) := by
  refine F.okX sc_is_shape (fun vs H Q E h => ?_) (fun cdv A outer s H vs Q E hr h => ?_)
  · obtain ⟨a, xs, ds, rfl, ha, hd, ht, q⟩ := h
    all_goals rfl
  · obtain ⟨a, xs, ds, rfl, ha, hd, ht, q⟩ := h
    have nd := sc_is_shape.nd
    refine ⟨_, (pss_cons (ps_if (pt_cmpR op_ne (pe_callB call_len_seq (by rfl) T.n_len PySem.boot_len (pa_cons (pv 0) pa_nil)) pe_int (nomark _)) (pss_one (ps_ret pe_bl)) pss_nil)
        (pss_cons (ps_asg (pv 0) (pg_tup rfl (pgs_cons (pg_name (i := 1) nd rfl (Or.inl rfl)) (pgs_cons (pg_name (i := 2) nd rfl (Or.inl rfl)) (pgs_cons (pg_name (i := 3) nd rfl (Or.inl rfl)) (pgs_cons (pg_name (i := 4) nd rfl (Or.inl rfl)) (pgs_cons (pg_name (i := 5) nd rfl (Or.inl rfl)) pgs_nil)))))))
        (pss_one (ps_ret (pe_and (pe_o (c_is_whole T) (hr.mono (by decide)) (fun _ => passS) (pa_cons (pv 4) (pa_cons pe_int (pa_cons pe_int pa_nil)))) (pe_one (pe_callB (cr_all rfl) (by rfl) T.n_all (by decide +kernel) (pa_cons (pe_lc (own := [("step", 6)]) (g := gName 6) (tt := tYes) rfl nd (pi_tup (pe_tup (pa_cons (pv 2) (pa_cons (pv 3) (pa_cons (pv 5) pa_nil))))) (blkOk_by (N := ["part", "_", "up", "down", "stay", "away", "step"]) (sc := defScope s_is_shape) (by decide +kernel)) (fun _ _ _ _ _ => pg_name (i := 6) nd rfl (Or.inl rfl)) (fun _ _ _ _ _ => pts_nil) (fun _ _ _ _ _ => (pe_o (c_is_whole T) (hr.mono (by decide)) (fun _ => passS) (pa_cons (pv 6) (pa_cons pe_int (pa_cons pe_int pa_nil)))))) pa_nil)))))))), ?_⟩
    walk_at "rd"
    refine ⟨a, _, rfl, .inr (SqT.of ha), ?_⟩
    walk_at "rd"
    rcases len5 hd with ⟨v0, v1, v2, v3, v4, d0, d1, d2, d3, d4, rfl, rfl, h0, h1, h2, h3, h4⟩ | ⟨n, m⟩
    · refine iteFb rfl ?_
      walk_at "rd"
      refine ⟨a, _, rfl, SqT.of ha, rfl, ?_⟩
      refine r_gc ?_
      walk_at "rd"
      refine r_gc ?_
      walk_at "rd"
      refine r_gc ?_
      walk_at "rd"
      refine r_gc ?_
      walk_at "rd"
      refine r_gc ?_
      walk_at "rd"
      refine r_gn ?_
      walk_at "rd"
      refine r_andV ?_
      walk_at "rd"
      refine sp_whole h3 ?_
      walk_at "rd"
      cases c : wholeD 0 2047 d3 with
      | false =>
        have e : cShape [d0, d1, d2, d3, d4] = false := by rw [cShape5, c]; rfl
        rw [e] at q
        exact iteF (q H (Same.refl H))
      | true =>
        have e : cShape [d0, d1, d2, d3, d4] = ([d1, d2, d4].map (wholeD 1 2047)).all id := by rw [cShape5, c]; rfl
        rw [e] at q
        refine iteT ?_
        walk_at "rd"
        refine r_lc ?_
        refine r_iTup ?_
        walk_at "rd"
        refine newT rfl fun t H1 _ s1 e1 => ?_
        refine ⟨t, rfl, ⟨_, SqT.of e1⟩, ?_⟩
        refine lc_allT (wholeD 1 2047) e1 (.cons (h1.same s1) (.cons (h2.same s1) (.cons (h4.same s1) .nil))) (Nat.le_of_ble_eq_true rfl) (fun _ => rfl) (fun x d H2 R s2 hx r => ?_) (fun D H2 s2 e2 => ?_)
        · walk_at "rd"
          exact sp_whole hx (r H2 (Same.refl H2))
        · walk_at "rd"
          refine ⟨D, _, rfl, SqL.of e2, ?_⟩
          exact q H2 (s1.trans s2)
    · refine iteTb (len_ne' n) ?_
      walk_at "rd"
      rw [cShape_ne m] at q
      exact q H (Same.refl H)
theorem c_is_shape (T : Txt K mg w C_NoPart C_NoIns C_Worker) : CalO P w K mg base 3 "_is_shape" ["part"] (spChk cShape) :=
  T.d_is_shape.calo (fun F => ok_is_shape T F) fun _ _ _ _ _ _ us hl => match us, hl with | [_], _ => rfl
theorem sc_are_factors : FnScope ["thing", "most", "factor"] ["thing", "most"] (defScope s_are_factors) := ⟨rfl, rfl, rfl, by decide +kernel, rfl, by decide +kernel, by decide +kernel⟩
theorem ok_are_factors (T : Txt K mg w C_NoPart C_NoIns C_Worker) (F : Fun K "_are_factors" "_are_factors" s_are_factors f fd) : FnOk P w K mg base (L2.CX P w) 3 f fd ["thing", "most"] spFac := by
  refine F.okX sc_are_factors (fun vs H Q E h => ?_) (fun cdv A outer s H vs Q E hr h => ?_)
  · obtain ⟨v, d, most, rfl, hv, hm, q⟩ := h
    all_goals rfl
  · obtain ⟨v, d, most, rfl, hv, hm, q⟩ := h
    have nd := sc_are_factors.nd
    refine ⟨_, (pss_cons (ps_if (PW.pt (pw_or (pt_not (pt_val (pe_callB call_is2 (by rfl) T.n_isinstance (by decide +kernel) (pa_cons (pv 0) (pa_cons (pe_tyn "tuple" T.n_tuple (by decide +kernel)) pa_nil))))) (pw_or1 (pt_not (pt_chain op_le op_le pe_int (pe_callB call_len_seq (by rfl) T.n_len PySem.boot_len (pa_cons (pv 0) pa_nil)) (pv 1)))))) (pss_one (ps_ret pe_bl)) pss_nil)
        (pss_one (ps_ret (pe_callB (cr_all rfl) (by rfl) T.n_all (by decide +kernel) (pa_cons (pe_lc (own := [("factor", 2)]) (g := gName 2) (tt := tYes) rfl nd (pi_tup (pv 0)) (blkOk_by (N := ["thing", "most", "factor"]) (sc := defScope s_are_factors) (by decide +kernel)) (fun _ _ _ _ _ => pg_name (i := 2) nd rfl (Or.inl rfl)) (fun _ _ _ _ _ => pts_nil) (fun _ _ _ _ _ => (pe_o (c_is_whole T) (hr.mono (by decide)) (fun _ => passS) (pa_cons (pv 2) (pa_cons (pe_un un_neg pe_int) (pa_cons pe_int pa_nil)))))) pa_nil))))), ?_⟩
    walk_at "rd"
    by_cases c : ∃ ds, d = .tuple ds
    · obtain ⟨ds, rfl⟩ := c
      cases hv with
      | @tup a xs _ ha hd =>
        refine ⟨_, "tuple", true, rfl, isI_tup ha (by decide +kernel), ?_⟩
        walk_at "rd"
        refine ⟨a, _, rfl, .inr (SqT.of ha), ?_⟩
        walk_at "rd"
        rw [hd.length]
        rw [factorsD_tup] at q
        cases h1 : decide ((1 : Int) ≤ ds.length) with
        | false =>
          rw [h1] at q
          walk_at "rd"
          exact q H (Same.refl H)
        | true =>
          rw [h1] at q
          walk_at "rd"
          cases h2 : decide ((ds.length : Int) ≤ most) with
          | false =>
            rw [h2] at q
            walk_at "rd"
            exact q H (Same.refl H)
          | true =>
            rw [h2] at q
            walk_at "rd"
            have hz := of_decide_eq_true h2
            refine r_lc ?_
            refine r_iTup ?_
            walk_at "rd"
            refine ⟨a, rfl, ⟨_, SqT.of ha⟩, ?_⟩
            refine lc_allT (wholeD (-256) 256) ha hd (by omega) (fun _ => rfl) (fun x d H2 R s2 hx r => ?_) (fun D H2 s2 e2 => ?_)
            · walk_at "rd"
              exact sp_whole hx (r H2 (Same.refl H2))
            · walk_at "rd"
              refine ⟨D, _, rfl, SqL.of e2, ?_⟩
              exact q H2 s2
    · refine ⟨v, "tuple", false, rfl, hv.noTup fun ds e => c ⟨ds, e⟩, ?_⟩
      walk_at "rd"
      have e : factorsD most d = false := by
        cases d with
        | tuple ds => exact absurd ⟨ds, rfl⟩ c
        | _ => rfl
      rw [e] at q
      exact q H (Same.refl H)
theorem c_are_factors (T : Txt K mg w C_NoPart C_NoIns C_Worker) : CalO P w K mg base 3 "_are_factors" ["thing", "most"] spFac :=
  T.d_are_factors.calo (fun F => ok_are_factors T F) fun _ _ _ _ _ _ us hl => match us, hl with | [_, _], _ => rfl
theorem sc_is_taps : FnScope ["part"] ["part"] (defScope s_is_taps) := ⟨rfl, rfl, rfl, by decide +kernel, rfl, by decide +kernel, by decide +kernel⟩
theorem ok_is_taps (T : Txt K mg w C_NoPart C_NoIns C_Worker) (F : Fun K "_is_taps" "_is_taps" s_is_taps f fd) : FnOk P w K mg base (L2.CX P w) 4 f fd ["part"] (spChk (cFac 8)) := by
  refine F.okX sc_is_taps (fun vs H Q E h => ?_) (fun cdv A outer s H vs Q E hr h => ?_)
  · obtain ⟨a, xs, ds, rfl, ha, hd, ht, q⟩ := h
    all_goals rfl
  · obtain ⟨a, xs, ds, rfl, ha, hd, ht, q⟩ := h
    have nd := sc_is_taps.nd
    refine ⟨_, (pss_one (ps_ret (pe_and (pe_cmpR op_eq (pe_callB call_len_seq (by rfl) T.n_len PySem.boot_len (pa_cons (pv 0) pa_nil)) pe_int (nomark _)) (pe_and (pe_o (c_are_factors T) (hr.mono (by decide)) (fun _ => passS) (pa_cons (pe_ix ix_tup (pv 0) pe_int (fun _ _ => rfl)) (pa_cons (pe_gc T.g_MOST_FACTORS) pa_nil))) (pe_one (pe_o (c_is_manner T) (hr.mono (by decide)) (fun _ => passS) (pa_cons (pe_ix ix_tup (pv 0) pe_int (fun _ _ => rfl)) pa_nil))))))), ?_⟩
    walk_at "rd"
    refine r_andV ?_
    walk_at "rd"
    refine ⟨a, _, rfl, .inr (SqT.of ha), ?_⟩
    walk_at "rd"
    rcases len3 hd with ⟨v0, v1, v2, d0, d1, d2, rfl, rfl, h0, h1, h2⟩ | ⟨n, m⟩
    · refine iteTb rfl ?_
      refine r_andV ?_
      walk_at "rd"
      refine ⟨a, _, 1, _, rfl, rfl, SqT.of ha, rfl, ?_⟩
      walk_at "rd"
      refine ⟨v1, d1, 8, rfl, h1, by decide, fun H1 s1 => ?_⟩
      walk_at "rd"
      refine iteAnd (c := inD manners d2) (fun _ r => ?_) (q H1 s1)
      walk_at "rd"
      refine ⟨a, _, 2, _, rfl, rfl, SqT.of (s1 _ _ ha), rfl, ?_⟩
      walk_at "rd"
      exact sp_in (h2.same s1) r
    · refine iteFb (len_ne n) ?_
      rw [cFac_ne m] at q
      exact q H (Same.refl H)
theorem c_is_taps (T : Txt K mg w C_NoPart C_NoIns C_Worker) : CalO P w K mg base 4 "_is_taps" ["part"] (spChk (cFac 8)) :=
  T.d_is_taps.calo (fun F => ok_is_taps T F) fun _ _ _ _ _ _ us hl => match us, hl with | [_], _ => rfl
theorem sc_is_mix : FnScope ["part"] ["part"] (defScope s_is_mix) := ⟨rfl, rfl, rfl, by decide +kernel, rfl, by decide +kernel, by decide +kernel⟩
theorem ok_is_mix (T : Txt K mg w C_NoPart C_NoIns C_Worker) (F : Fun K "_is_mix" "_is_mix" s_is_mix f fd) : FnOk P w K mg base (L2.CX P w) 4 f fd ["part"] (spChk (cFac 4)) := by
  obtain ⟨a_MIX_PORTS, g_MIX_PORTS, hm⟩ := T.g_MIX_PORTS
  refine F.okX sc_is_mix (fun vs H Q E h => ?_) (fun cdv A outer s H vs Q E hr h => ?_)
  · obtain ⟨a, xs, ds, rfl, ha, hd, ht, q⟩ := h
    all_goals rfl
  · obtain ⟨a, xs, ds, rfl, ha, hd, ht, q⟩ := h
    have nd := sc_is_mix.nd
    refine ⟨_, (pss_one (ps_ret (pe_and (pe_cmpR op_eq (pe_callB call_len_seq (by rfl) T.n_len PySem.boot_len (pa_cons (pv 0) pa_nil)) pe_int (nomark _)) (pe_and (pe_o (c_are_factors T) (hr.mono (by decide)) (fun _ => passS) (pa_cons (pe_ix ix_tup (pv 0) pe_int (fun _ _ => rfl)) (pa_cons (pe_callB call_len_seq (by rfl) T.n_len PySem.boot_len (pa_cons (pe_gc (v := .ref a_MIX_PORTS) ⟨_, g_MIX_PORTS, rfl⟩) pa_nil)) pa_nil))) (pe_one (pe_o (c_is_manner T) (hr.mono (by decide)) (fun _ => passS) (pa_cons (pe_ix ix_tup (pv 0) pe_int (fun _ _ => rfl)) pa_nil))))))), ?_⟩
    walk_at "rd"
    refine r_andV ?_
    walk_at "rd"
    refine ⟨a, _, rfl, .inr (SqT.of ha), ?_⟩
    walk_at "rd"
    rcases len3 hd with ⟨v0, v1, v2, d0, d1, d2, rfl, rfl, h0, h1, h2⟩ | ⟨n, m⟩
    · refine iteTb rfl ?_
      refine r_andV ?_
      walk_at "rd"
      refine ⟨a, _, 1, _, rfl, rfl, SqT.of ha, rfl, ?_⟩
      walk_at "rd"
      refine ⟨a_MIX_PORTS, _, rfl, .inr (hm H), ?_⟩
      walk_at "rd"
      refine ⟨v1, d1, 4, rfl, h1, by decide, fun H1 s1 => ?_⟩
      walk_at "rd"
      refine iteAnd (c := inD manners d2) (fun _ r => ?_) (q H1 s1)
      walk_at "rd"
      refine ⟨a, _, 2, _, rfl, rfl, SqT.of (s1 _ _ ha), rfl, ?_⟩
      walk_at "rd"
      exact sp_in (h2.same s1) r
    · refine iteFb (len_ne n) ?_
      rw [cFac_ne m] at q
      exact q H (Same.refl H)
theorem c_is_mix (T : Txt K mg w C_NoPart C_NoIns C_Worker) : CalO P w K mg base 4 "_is_mix" ["part"] (spChk (cFac 4)) :=
  T.d_is_mix.calo (fun F => ok_is_mix T F) fun _ _ _ _ _ _ us hl => match us, hl with | [_], _ => rfl
theorem sc_is_times : FnScope ["part"] ["part"] (defScope s_is_times) := ⟨rfl, rfl, rfl, by decide +kernel, rfl, by decide +kernel, by decide +kernel⟩
theorem ok_is_times (T : Txt K mg w C_NoPart C_NoIns C_Worker) (F : Fun K "_is_times" "_is_times" s_is_times f fd) : FnOk P w K mg base (L2.CX P w) 2 f fd ["part"] (spChk cTimes) := by
  refine F.okX sc_is_times (fun vs H Q E h => ?_) (fun cdv A outer s H vs Q E hr h => ?_)
  · obtain ⟨a, xs, ds, rfl, ha, hd, ht, q⟩ := h
    all_goals rfl
  · obtain ⟨a, xs, ds, rfl, ha, hd, ht, q⟩ := h
    have nd := sc_is_times.nd
    refine ⟨_, (pss_one (ps_ret (pe_and (pe_cmpR op_eq (pe_callB call_len_seq (by rfl) T.n_len PySem.boot_len (pa_cons (pv 0) pa_nil)) pe_int (nomark _)) (pe_one (pe_o (c_is_manner T) (hr.mono (by decide)) (fun _ => passS) (pa_cons (pe_ix ix_tup (pv 0) pe_int (fun _ _ => rfl)) pa_nil)))))), ?_⟩
    walk_at "rd"
    refine r_andV ?_
    walk_at "rd"
    refine ⟨a, _, rfl, .inr (SqT.of ha), ?_⟩
    walk_at "rd"
    rcases len2 hd with ⟨v0, v1, d0, d1, rfl, rfl, h0, h1⟩ | ⟨n, m⟩
    · refine iteTb rfl ?_
      walk_at "rd"
      refine ⟨a, _, 1, _, rfl, rfl, SqT.of ha, rfl, ?_⟩
      walk_at "rd"
      exact sp_in h1 (q H (Same.refl H))
    · refine iteFb (len_ne n) ?_
      rw [cTimes_ne m] at q
      exact q H (Same.refl H)
theorem c_is_times (T : Txt K mg w C_NoPart C_NoIns C_Worker) : CalO P w K mg base 2 "_is_times" ["part"] (spChk cTimes) :=
  T.d_is_times.calo (fun F => ok_is_times T F) fun _ _ _ _ _ _ us hl => match us, hl with | [_], _ => rfl
theorem sc_is_delay : FnScope ["part"] ["part"] (defScope s_is_delay) := ⟨rfl, rfl, rfl, by decide +kernel, rfl, by decide +kernel, by decide +kernel⟩
theorem ok_is_delay (T : Txt K mg w C_NoPart C_NoIns C_Worker) (F : Fun K "_is_delay" "_is_delay" s_is_delay f fd) : FnOk P w K mg base (L2.CX P w) 3 f fd ["part"] (spChk cDelay) := by
  refine F.okX sc_is_delay (fun vs H Q E h => ?_) (fun cdv A outer s H vs Q E hr h => ?_)
  · obtain ⟨a, xs, ds, rfl, ha, hd, ht, q⟩ := h
    all_goals rfl
  · obtain ⟨a, xs, ds, rfl, ha, hd, ht, q⟩ := h
    have nd := sc_is_delay.nd
    refine ⟨_, (pss_one (ps_ret (pe_and (pe_cmpR op_eq (pe_callB call_len_seq (by rfl) T.n_len PySem.boot_len (pa_cons (pv 0) pa_nil)) pe_int (nomark _)) (pe_one (pe_o (c_is_whole T) (hr.mono (by decide)) (fun _ => passS) (pa_cons (pe_ix ix_tup (pv 0) pe_int (fun _ _ => rfl)) (pa_cons pe_int (pa_cons pe_int pa_nil)))))))), ?_⟩
    walk_at "rd"
    refine r_andV ?_
    walk_at "rd"
    refine ⟨a, _, rfl, .inr (SqT.of ha), ?_⟩
    walk_at "rd"
    rcases len2 hd with ⟨v0, v1, d0, d1, rfl, rfl, h0, h1⟩ | ⟨n, m⟩
    · refine iteTb rfl ?_
      walk_at "rd"
      refine ⟨a, _, 1, _, rfl, rfl, SqT.of ha, rfl, ?_⟩
      walk_at "rd"
      exact sp_whole h1 (q H (Same.refl H))
    · refine iteFb (len_ne n) ?_
      rw [cDelay_ne m] at q
      exact q H (Same.refl H)
theorem c_is_delay (T : Txt K mg w C_NoPart C_NoIns C_Worker) : CalO P w K mg base 3 "_is_delay" ["part"] (spChk cDelay) :=
  T.d_is_delay.calo (fun F => ok_is_delay T F) fun _ _ _ _ _ _ us hl => match us, hl with | [_], _ => rfl
theorem sc_is_follow : FnScope ["part"] ["part"] (defScope s_is_follow) := ⟨rfl, rfl, rfl, by decide +kernel, rfl, by decide +kernel, by decide +kernel⟩
theorem ok_is_follow (T : Txt K mg w C_NoPart C_NoIns C_Worker) (F : Fun K "_is_follow" "_is_follow" s_is_follow f fd) : FnOk P w K mg base (L2.CX P w) 3 f fd ["part"] (spChk cFollow) := by
  refine F.okX sc_is_follow (fun vs H Q E h => ?_) (fun cdv A outer s H vs Q E hr h => ?_)
  · obtain ⟨a, xs, ds, rfl, ha, hd, ht, q⟩ := h
    all_goals rfl
  · obtain ⟨a, xs, ds, rfl, ha, hd, ht, q⟩ := h
    have nd := sc_is_follow.nd
    refine ⟨_, (pss_one (ps_ret (pe_and (pe_cmpR op_eq (pe_callB call_len_seq (by rfl) T.n_len PySem.boot_len (pa_cons (pv 0) pa_nil)) pe_int (nomark _)) (pe_one (pe_o (c_is_whole T) (hr.mono (by decide)) (fun _ => passS) (pa_cons (pe_ix ix_tup (pv 0) pe_int (fun _ _ => rfl)) (pa_cons pe_int (pa_cons pe_int pa_nil)))))))), ?_⟩
    walk_at "rd"
    refine r_andV ?_
    walk_at "rd"
    refine ⟨a, _, rfl, .inr (SqT.of ha), ?_⟩
    walk_at "rd"
    rcases len2 hd with ⟨v0, v1, d0, d1, rfl, rfl, h0, h1⟩ | ⟨n, m⟩
    · refine iteTb rfl ?_
      walk_at "rd"
      refine ⟨a, _, 1, _, rfl, rfl, SqT.of ha, rfl, ?_⟩
      walk_at "rd"
      exact sp_whole h1 (q H (Same.refl H))
    · refine iteFb (len_ne n) ?_
      rw [cFollow_ne m] at q
      exact q H (Same.refl H)
theorem c_is_follow (T : Txt K mg w C_NoPart C_NoIns C_Worker) : CalO P w K mg base 3 "_is_follow" ["part"] (spChk cFollow) :=
  T.d_is_follow.calo (fun F => ok_is_follow T F) fun _ _ _ _ _ _ us hl => match us, hl with | [_], _ => rfl
theorem sc_is_part : FnScope ["thing", "kind", "check"] ["thing"] (defScope s_is_part) := ⟨rfl, rfl, rfl, by decide +kernel, rfl, by decide +kernel, by decide +kernel⟩
theorem ok_is_part (T : Txt K mg w C_NoPart C_NoIns C_Worker) (F : Fun K "is_part" "is_part" s_is_part f fd) : FnOk P w K mg base (L2.CX P w) 5 f fd ["thing"] spPart := by
  obtain ⟨a__CHECKS, g__CHECKS, es, en, kD, ks, ⟨f0, n0, m0⟩, ⟨f1, n1, m1⟩, ⟨f2, n2, m2⟩, ⟨f3, n3, m3⟩, ⟨f4, n4, m4⟩, ⟨f5, n5, m5⟩, ⟨f6, n6, m6⟩, ⟨f7, n7, m7⟩, ⟨f8, n8, m8⟩, ⟨f9, n9, m9⟩, -⟩ := T.g__CHECKS
  have up : ∀ {x : Str} {ps : List Str} {sp : Sp} {a : Addr} {j : Nat}, j ≤ 4 → CalO P w K mg base j x ps sp → mg x = some (.ref a) → ∃ fd ps, FnOk P w K mg base (L2.CX P w) 4 a fd ps sp ∧ PySem.W.keepIn K (.ref a) = true ∧ Binds K fd ps [] := fun l C hm => by obtain ⟨fd, ps, F, r⟩ := C.at hm; exact ⟨fd, ps, okUp F l, r⟩
  have cl : ∀ a sp, (a = f0 ∧ sp = spChk cFrom) ∨ (a = f1 ∧ sp = spChk cWave) ∨ (a = f2 ∧ sp = spChk cWave) ∨ (a = f3 ∧ sp = spChk cNoise) ∨ (a = f4 ∧ sp = spChk cShape) ∨ (a = f5 ∧ sp = spChk (cFac 8)) ∨ (a = f6 ∧ sp = spChk (cFac 4)) ∨ (a = f7 ∧ sp = spChk cTimes) ∨ (a = f8 ∧ sp = spChk cDelay) ∨ (a = f9 ∧ sp = spChk cFollow) → ∃ fd ps, FnOk P w K mg base (L2.CX P w) 4 a fd ps sp ∧ PySem.W.keepIn K (.ref a) = true ∧ Binds K fd ps [] := by rintro a sp (⟨rfl, rfl⟩ | ⟨rfl, rfl⟩ | ⟨rfl, rfl⟩ | ⟨rfl, rfl⟩ | ⟨rfl, rfl⟩ | ⟨rfl, rfl⟩ | ⟨rfl, rfl⟩ | ⟨rfl, rfl⟩ | ⟨rfl, rfl⟩ | ⟨rfl, rfl⟩) <;> first | exact up (by decide) (c_is_from T) m0 | exact up (by decide) (c_is_wave T) m1 | exact up (by decide) (c_is_wave T) m2 | exact up (by decide) (c_is_noise T) m3 | exact up (by decide) (c_is_shape T) m4 | exact up (by decide) (c_is_taps T) m5 | exact up (by decide) (c_is_mix T) m6 | exact up (by decide) (c_is_times T) m7 | exact up (by decide) (c_is_delay T) m8 | exact up (by decide) (c_is_follow T) m9
  refine F.okX sc_is_part (fun vs H Q E h => ?_) (fun cdv A outer s H vs Q E hr h => ?_)
  · obtain ⟨v, d, rfl, hv, hz, q⟩ := h
    all_goals rfl
  · obtain ⟨v, d, rfl, hv, hz, q⟩ := h
    have nd := sc_is_part.nd
    refine ⟨_, (pss_cons (ps_if (PW.pt (pw_or (pt_not (pt_val (pe_callB call_is2 (by rfl) T.n_isinstance (by decide +kernel) (pa_cons (pv 0) (pa_cons (pe_tyn "tuple" T.n_tuple (by decide +kernel)) pa_nil))))) (pw_or1 (pt_cmpR op_eq (pe_callB call_len_seq (by rfl) T.n_len PySem.boot_len (pa_cons (pv 0) pa_nil)) pe_int (nomark _))))) (pss_one (ps_ret pe_bl)) pss_nil)
        (pss_cons (ps_set (i := 1) nd rfl (Or.inl rfl) (pe_ix ix_tup (pv 0) pe_int (fun _ _ => rfl)))
        (pss_cons (ps_if (PW.pt (pw_or (pt_not (pt_val (pe_callB call_is2 (by rfl) T.n_isinstance (by decide +kernel) (pa_cons (pv 1) (pa_cons (pe_tyn "str" T.n_str (by decide +kernel)) pa_nil))))) (pw_or1 (pt_cmpR (op_notIn_kd kD) (pv 1) (pe_gc (v := .ref a__CHECKS) ⟨_, g__CHECKS, rfl⟩) (by rfl))))) (pss_one (ps_ret pe_bl)) pss_nil)
        (pss_cons (ps_set (i := 2) nd rfl (Or.inl rfl) (pe_ix ix_kdict (pe_gc (v := .ref a__CHECKS) ⟨_, g__CHECKS, rfl⟩) (pv 1) (fun _ _ => rfl)))
        (pss_one (ps_ret (pe_calo cl (hr.mono (by decide)) (fun _ => passS) (pv 2) (pa_cons (pv 0) pa_nil)))))))), ?_⟩
    walk_at "rd"
    by_cases c : ∃ ds, d = .tuple ds
    · obtain ⟨ds, rfl⟩ := c
      cases hv with
      | @tup a xs _ ha hd =>
        refine ⟨_, "tuple", true, rfl, isI_tup ha (by decide +kernel), ?_⟩
        walk_at "rd"
        refine ⟨a, _, rfl, .inr (SqT.of ha), ?_⟩
        walk_at "rd"
        cases hd with
        | nil =>
          refine iteTb rfl ?_
          walk_at "rd"
          exact q H (Same.refl H)
        | @cons v0 d0 vs ds h0 hd =>
          have len0 : decide (V.int (((v0 :: vs).length : Nat) : Int) = V.int 0) = false := len_ne (by simp only [List.length_cons]; omega)
          refine iteFb len0 ?_
          walk_at "rd"
          refine ⟨a, _, 0, _, rfl, rfl, SqT.of ha, atI_nat (j := 0) rfl, ?_⟩
          walk_at "rd"
          by_cases c : ∃ k, d0 = .str k
          · obtain ⟨k, rfl⟩ := c
            cases h0
            refine ⟨_, "str", true, rfl, isI_str (by decide +kernel), ?_⟩
            walk_at "rd"
            have hd := DtL.cons (Dt.str (H := H) k) hd
            rcases kind_cases k with rfl | rfl | rfl | rfl | rfl | rfl | rfl | rfl | rfl | rfl | ⟨no, nk⟩
            · refine ⟨"from", _, rfl, rfl, n0, ?_⟩
              walk_at "rd"
              refine iteFb rfl ?_
              walk_at "rd"
              refine ⟨a__CHECKS, "from", .ref f0, rfl, rfl, kd_dct kD n0, ?_⟩
              walk_at "rd"
              refine r_calv ?_
              walk_at "rd"
              refine ⟨f0, _, rfl, .inl ⟨rfl, rfl⟩, ?_⟩
              walk_at "rd"
              exact ⟨a, _, _, rfl, ha, hd, hz, q⟩
            · refine ⟨"wave", _, rfl, rfl, n1, ?_⟩
              walk_at "rd"
              refine iteFb rfl ?_
              walk_at "rd"
              refine ⟨a__CHECKS, "wave", .ref f1, rfl, rfl, kd_dct kD n1, ?_⟩
              walk_at "rd"
              refine r_calv ?_
              walk_at "rd"
              refine ⟨f1, _, rfl, .inr (.inl ⟨rfl, rfl⟩), ?_⟩
              walk_at "rd"
              exact ⟨a, _, _, rfl, ha, hd, hz, q⟩
            · refine ⟨"slow", _, rfl, rfl, n2, ?_⟩
              walk_at "rd"
              refine iteFb rfl ?_
              walk_at "rd"
              refine ⟨a__CHECKS, "slow", .ref f2, rfl, rfl, kd_dct kD n2, ?_⟩
              walk_at "rd"
              refine r_calv ?_
              walk_at "rd"
              refine ⟨f2, _, rfl, .inr (.inr (.inl ⟨rfl, rfl⟩)), ?_⟩
              walk_at "rd"
              exact ⟨a, _, _, rfl, ha, hd, hz, q⟩
            · refine ⟨"noise", _, rfl, rfl, n3, ?_⟩
              walk_at "rd"
              refine iteFb rfl ?_
              walk_at "rd"
              refine ⟨a__CHECKS, "noise", .ref f3, rfl, rfl, kd_dct kD n3, ?_⟩
              walk_at "rd"
              refine r_calv ?_
              walk_at "rd"
              refine ⟨f3, _, rfl, .inr (.inr (.inr (.inl ⟨rfl, rfl⟩))), ?_⟩
              walk_at "rd"
              exact ⟨a, _, _, rfl, ha, hd, hz, q⟩
            · refine ⟨"shape", _, rfl, rfl, n4, ?_⟩
              walk_at "rd"
              refine iteFb rfl ?_
              walk_at "rd"
              refine ⟨a__CHECKS, "shape", .ref f4, rfl, rfl, kd_dct kD n4, ?_⟩
              walk_at "rd"
              refine r_calv ?_
              walk_at "rd"
              refine ⟨f4, _, rfl, .inr (.inr (.inr (.inr (.inl ⟨rfl, rfl⟩)))), ?_⟩
              walk_at "rd"
              exact ⟨a, _, _, rfl, ha, hd, hz, q⟩
            · refine ⟨"taps", _, rfl, rfl, n5, ?_⟩
              walk_at "rd"
              refine iteFb rfl ?_
              walk_at "rd"
              refine ⟨a__CHECKS, "taps", .ref f5, rfl, rfl, kd_dct kD n5, ?_⟩
              walk_at "rd"
              refine r_calv ?_
              walk_at "rd"
              refine ⟨f5, _, rfl, .inr (.inr (.inr (.inr (.inr (.inl ⟨rfl, rfl⟩))))), ?_⟩
              walk_at "rd"
              exact ⟨a, _, _, rfl, ha, hd, hz, q⟩
            · refine ⟨"mix", _, rfl, rfl, n6, ?_⟩
              walk_at "rd"
              refine iteFb rfl ?_
              walk_at "rd"
              refine ⟨a__CHECKS, "mix", .ref f6, rfl, rfl, kd_dct kD n6, ?_⟩
              walk_at "rd"
              refine r_calv ?_
              walk_at "rd"
              refine ⟨f6, _, rfl, .inr (.inr (.inr (.inr (.inr (.inr (.inl ⟨rfl, rfl⟩)))))), ?_⟩
              walk_at "rd"
              exact ⟨a, _, _, rfl, ha, hd, hz, q⟩
            · refine ⟨"times", _, rfl, rfl, n7, ?_⟩
              walk_at "rd"
              refine iteFb rfl ?_
              walk_at "rd"
              refine ⟨a__CHECKS, "times", .ref f7, rfl, rfl, kd_dct kD n7, ?_⟩
              walk_at "rd"
              refine r_calv ?_
              walk_at "rd"
              refine ⟨f7, _, rfl, .inr (.inr (.inr (.inr (.inr (.inr (.inr (.inl ⟨rfl, rfl⟩))))))), ?_⟩
              walk_at "rd"
              exact ⟨a, _, _, rfl, ha, hd, hz, q⟩
            · refine ⟨"delay", _, rfl, rfl, n8, ?_⟩
              walk_at "rd"
              refine iteFb rfl ?_
              walk_at "rd"
              refine ⟨a__CHECKS, "delay", .ref f8, rfl, rfl, kd_dct kD n8, ?_⟩
              walk_at "rd"
              refine r_calv ?_
              walk_at "rd"
              refine ⟨f8, _, rfl, .inr (.inr (.inr (.inr (.inr (.inr (.inr (.inr (.inl ⟨rfl, rfl⟩)))))))), ?_⟩
              walk_at "rd"
              exact ⟨a, _, _, rfl, ha, hd, hz, q⟩
            · refine ⟨"follow", _, rfl, rfl, n9, ?_⟩
              walk_at "rd"
              refine iteFb rfl ?_
              walk_at "rd"
              refine ⟨a__CHECKS, "follow", .ref f9, rfl, rfl, kd_dct kD n9, ?_⟩
              walk_at "rd"
              refine r_calv ?_
              walk_at "rd"
              refine ⟨f9, _, rfl, .inr (.inr (.inr (.inr (.inr (.inr (.inr (.inr (.inr (⟨rfl, rfl⟩))))))))), ?_⟩
              walk_at "rd"
              exact ⟨a, _, _, rfl, ha, hd, hz, q⟩
            · refine ⟨k, none, rfl, rfl, ns_none kD (by rw [ks]; exact no), ?_⟩
              walk_at "rd"
              refine iteTb rfl ?_
              walk_at "rd"
              have e : partD (.tuple (.str k :: ds)) = false := nk _
              rw [e] at q
              exact q H (Same.refl H)
          · refine ⟨_, "str", false, rfl, h0.noStr fun k e => c ⟨k, e⟩, ?_⟩
            walk_at "rd"
            have e : partD (.tuple (d0 :: ds)) = false := by
              cases d0 with
              | str k => exact absurd ⟨k, rfl⟩ c
              | _ => rfl
            rw [e] at q
            exact q H (Same.refl H)
    · refine ⟨v, "tuple", false, rfl, hv.noTup fun ds e => c ⟨ds, e⟩, ?_⟩
      walk_at "rd"
      have e : partD d = false := by
        cases d with
        | tuple ds => exact absurd ⟨ds, rfl⟩ c
        | _ => rfl
      rw [e] at q
      exact q H (Same.refl H)
theorem c_is_part (T : Txt K mg w C_NoPart C_NoIns C_Worker) : CalO P w K mg base 5 "is_part" ["thing"] spPart :=
  T.d_is_part.calo (fun F => ok_is_part T F) fun _ _ _ _ _ _ us hl => match us, hl with | [_], _ => rfl
end
end KB
set_option linter.all false
set_option maxRecDepth 100000
set_option maxHeartbeats 4000000
namespace KB
open PySem PySem.Spec PyProof.Rows L2 Gx
local macro_rules | `(tactic| walk_at "rd1") => `(tactic| with_reducible first
  | refine r_var rfl ?_ | refine r_c ?_ | refine r_op ?_ | refine r_un ?_ | refine r_I0 ?_ | refine r_neg ?_ | refine r_test ?_ | refine r_B ?_ | refine r_bl ?_ | refine r_blx ?_
  | refine r_seq ?_ | refine r_ret ?_ | refine r_asg ?_ | refine r_name ?_ | refine r_gsub ?_ | refine r_if ?_ | refine r_next ?_ | refine r_drop ?_ | refine r_cb ?_ | refine r_nil ?_ | refine r_cons ?_
  | refine r_g ?_ | refine r_k ?_ | refine r_lstN ?_ | refine r_tupN ?_ | refine r_notV ?_ | refine r_ifE ?_ | refine r_and ?_ | refine r_or ?_ | refine r_not ?_ | refine r_chain ?_
  | refine r_sl ?_ | refine r_part ?_ | refine r_nop ?_ | refine r_par3 ?_ | refine r_is3 ?_ | refine r_par2 ?_ | refine r_is2 ?_ | refine r_m0 ?_ | refine r_ei ?_ | refine r_nx ?_ | refine r_rt ?_ | refine r_ct ?_ | refine r_eq rfl ?_ | refine r_ne rfl ?_ | refine iteT ?_ | refine iteF ?_ | refine iteNF ?_ | refine iteNT ?_
  | (refine r_fdivK ?hc ?_; (case hc => decide +kernel)) | (refine r_modK ?hc ?_; (case hc => decide +kernel)) | (refine r_mulL ?hc ?_; (case hc => decide +kernel)) | (refine r_mulR ?hc ?_; (case hc => decide +kernel)) | (refine r_powK ?hc ?_; (case hc => decide +kernel)) | fail "no step")
local macro_rules | `(tactic| walk_at "rd") => `(tactic| repeat' walk_at "rd1")
section
variable {P : Program} {w : World} {K : PySem.W.Frag} {mg : Str → Option Value} {base : Heap} {f : Addr} {fd : FuncData} {C_NoPart C_NoIns C_Worker : Addr}
/-! ### workers.py -/
def spFirst (K : PySem.W.Frag) : Sp := fun vs H Q _ => ∃ (x : Addr) (p : Prt), vs = [.ref x] ∧ PAt H x p ∧ p.ok ∧ ∀ k H', Same H H' → KAt K H' k (first p) → Q (.ref k) H'
theorem sc_kept_at_first : FnScope ["part", "kind"] ["part"] (defScope s_kept_at_first) := ⟨rfl, rfl, rfl, by decide +kernel, rfl, by decide +kernel, by decide +kernel⟩
theorem ok_kept_at_first (T : Txt K mg w C_NoPart C_NoIns C_Worker) (F : Fun K "_kept_at_first" "_kept_at_first" s_kept_at_first f fd) : FnOk P w K mg base (L2.CX P w) 1 f fd ["part"] (spFirst K) := by
  obtain ⟨a__AT_FIRST, g__AT_FIRST, es, en, kD, ks, ⟨t0, n0, u0⟩, ⟨t1, n1, u1⟩, ⟨t2, n2, u2⟩, ⟨t3, n3, u3⟩, ⟨t4, n4, u4⟩, ⟨t5, n5, u5⟩, ⟨t6, n6, u6⟩, -⟩ := T.g__AT_FIRST
  refine F.okX sc_kept_at_first (fun vs H Q E h => ?_) (fun cdv A outer s H vs Q E hr h => ?_)
  · obtain ⟨x, p, rfl, hx, ok, q⟩ := h
    all_goals rfl
  · obtain ⟨x, p, rfl, hx, ok, q⟩ := h
    have nd := sc_kept_at_first.nd
    refine ⟨_, (pss_cons (ps_set (i := 1) nd rfl (Or.inl rfl) (pe_ix ix_tup (pv 0) pe_int (fun _ _ => rfl)))
        (pss_cons (ps_if (pt_cmpR op_eq (pv 1) pe_str (nomark _)) (pss_one (ps_ret (pe_tup (pa_cons (pe_ix ix_tup (pv 0) pe_int (fun _ _ => rfl)) pa_nil)))) pss_nil)
        (pss_cons (ps_if (pt_cmpR op_eq (pv 1) pe_str (nomark _)) (pss_one (ps_ret (pe_tup (pa_cons (pe_op op_repA (pe_tup (pa_cons pe_int pa_nil)) (pe_op op_sub (pe_callB call_len_seq (by rfl) T.n_len PySem.boot_len (pa_cons (pe_ix ix_tup (pv 0) pe_int (fun _ _ => rfl)) pa_nil)) pe_int)) pa_nil)))) pss_nil)
        (pss_cons (ps_if (pt_cmpR op_eq (pv 1) pe_str (nomark _)) (pss_one (ps_ret (pe_tup (pa_cons (pe_op op_repA (pe_tup (pa_cons pe_int pa_nil)) (pe_ix ix_tup (pv 0) pe_int (fun _ _ => rfl))) pa_nil)))) pss_nil)
        (pss_one (ps_ret (pe_ix ix_kdict (pe_gc (v := .ref a__AT_FIRST) ⟨_, g__AT_FIRST, rfl⟩) (pv 1) (fun _ _ => rfl)))))))), ?_⟩
    walk_at "rd"
    obtain ⟨xs, ex, _⟩ := hx.tup
    refine ⟨x, _, 0, _, rfl, rfl, SqT.of ex, atI_nat (j := 0) rfl, ?_⟩
    walk_at "rd"
    cases p with
    | noise s =>
      refine iteTb (kd_eq rfl) ?_
      walk_at "rd"
      refine ⟨x, _, 1, _, rfl, rfl, SqT.of hx, rfl, ?_⟩
      walk_at "rd"
      exact newT rfl fun k H2 _ s2 e2 => q k H2 s2 (.inl e2)
    | taps fs m =>
      obtain ⟨f1, hx, hf⟩ := hx
      obtain ⟨⟨o1, o2, _⟩, _⟩ := ok
      refine iteFb (kd_ne (b := "taps") rfl (by decide +kernel)) ?_
      walk_at "rd"
      refine iteTb (kd_eq rfl) ?_
      walk_at "rd"
      refine newT rfl fun z H1 _ s1 e1 => ?_
      walk_at "rd"
      refine ⟨x, _, 1, _, rfl, rfl, SqT.of (s1 _ _ hx), rfl, ?_⟩
      walk_at "rd"
      refine ⟨f1, _, rfl, .inr (SqT.of (s1 _ _ hf)), ?_⟩
      walk_at "rd"
      rw [List.length_map]
      refine r_rep0 e1 (by omega) (by omega) fun t H2 s2 e2 => ?_
      walk_at "rd"
      refine newT rfl fun k H3 _ s3 e3 => ?_
      refine q k H3 (s1.trans (s2.trans s3)) ⟨t, e3, ?_⟩
      rw [show ((fs.length : Int) - 1).toNat = fs.length - 1 by omega] at e2
      exact s3 _ _ e2
    | delay n =>
      obtain ⟨o1, o2⟩ := ok
      refine iteFb (kd_ne (b := "delay") rfl (by decide +kernel)) ?_
      walk_at "rd"
      refine iteFb (kd_ne (b := "delay") rfl (by decide +kernel)) ?_
      walk_at "rd"
      refine iteTb (kd_eq rfl) ?_
      walk_at "rd"
      refine newT rfl fun z H1 _ s1 e1 => ?_
      walk_at "rd"
      refine ⟨x, _, 1, _, rfl, rfl, SqT.of (s1 _ _ hx), rfl, ?_⟩
      walk_at "rd"
      refine r_rep0 e1 (by omega) (by omega) fun t H2 s2 e2 => ?_
      walk_at "rd"
      exact newT rfl fun k H3 _ s3 e3 => q k H3 (s1.trans (s2.trans s3)) ⟨t, e3, s3 _ _ e2⟩
    | frm n =>
      refine iteFb (kd_ne (b := "from") rfl (by decide +kernel)) ?_
      walk_at "rd"
      refine iteFb (kd_ne (b := "from") rfl (by decide +kernel)) ?_
      walk_at "rd"
      refine iteFb (kd_ne (b := "from") rfl (by decide +kernel)) ?_
      walk_at "rd"
      exact ⟨a__AT_FIRST, "from", .ref t0, rfl, rfl, kd_dct kD n0, q t0 H (Same.refl H) (.inr u0)⟩
    | wave t s =>
      refine iteFb (kd_ne (b := "wave") rfl (by decide +kernel)) ?_
      walk_at "rd"
      refine iteFb (kd_ne (b := "wave") rfl (by decide +kernel)) ?_
      walk_at "rd"
      refine iteFb (kd_ne (b := "wave") rfl (by decide +kernel)) ?_
      walk_at "rd"
      exact ⟨a__AT_FIRST, "wave", .ref t1, rfl, rfl, kd_dct kD n1, q t1 H (Same.refl H) (.inr u1)⟩
    | slow t s =>
      refine iteFb (kd_ne (b := "slow") rfl (by decide +kernel)) ?_
      walk_at "rd"
      refine iteFb (kd_ne (b := "slow") rfl (by decide +kernel)) ?_
      walk_at "rd"
      refine iteFb (kd_ne (b := "slow") rfl (by decide +kernel)) ?_
      walk_at "rd"
      exact ⟨a__AT_FIRST, "slow", .ref t2, rfl, rfl, kd_dct kD n2, q t2 H (Same.refl H) (.inr u2)⟩
    | shape p =>
      refine iteFb (kd_ne (b := "shape") rfl (by decide +kernel)) ?_
      walk_at "rd"
      refine iteFb (kd_ne (b := "shape") rfl (by decide +kernel)) ?_
      walk_at "rd"
      refine iteFb (kd_ne (b := "shape") rfl (by decide +kernel)) ?_
      walk_at "rd"
      exact ⟨a__AT_FIRST, "shape", .ref t3, rfl, rfl, kd_dct kD n3, q t3 H (Same.refl H) (.inr u3)⟩
    | mix fs m =>
      refine iteFb (kd_ne (b := "mix") rfl (by decide +kernel)) ?_
      walk_at "rd"
      refine iteFb (kd_ne (b := "mix") rfl (by decide +kernel)) ?_
      walk_at "rd"
      refine iteFb (kd_ne (b := "mix") rfl (by decide +kernel)) ?_
      walk_at "rd"
      exact ⟨a__AT_FIRST, "mix", .ref t4, rfl, rfl, kd_dct kD n4, q t4 H (Same.refl H) (.inr u4)⟩
    | times m =>
      refine iteFb (kd_ne (b := "times") rfl (by decide +kernel)) ?_
      walk_at "rd"
      refine iteFb (kd_ne (b := "times") rfl (by decide +kernel)) ?_
      walk_at "rd"
      refine iteFb (kd_ne (b := "times") rfl (by decide +kernel)) ?_
      walk_at "rd"
      exact ⟨a__AT_FIRST, "times", .ref t5, rfl, rfl, kd_dct kD n5, q t5 H (Same.refl H) (.inr u5)⟩
    | follow s =>
      refine iteFb (kd_ne (b := "follow") rfl (by decide +kernel)) ?_
      walk_at "rd"
      refine iteFb (kd_ne (b := "follow") rfl (by decide +kernel)) ?_
      walk_at "rd"
      refine iteFb (kd_ne (b := "follow") rfl (by decide +kernel)) ?_
      walk_at "rd"
      exact ⟨a__AT_FIRST, "follow", .ref t6, rfl, rfl, kd_dct kD n6, q t6 H (Same.refl H) (.inr u6)⟩
theorem c_kept_at_first (T : Txt K mg w C_NoPart C_NoIns C_Worker) : CalO P w K mg base 1 "_kept_at_first" ["part"] (spFirst K) :=
  T.d_kept_at_first.calo (fun F => ok_kept_at_first T F) fun _ _ _ _ _ _ us hl => match us, hl with | [_], _ => rfl
theorem sc_slow_ahead : FnScope ["part", "kept"] ["part", "kept"] (defScope s_slow_ahead) := ⟨rfl, rfl, rfl, by decide +kernel, rfl, by decide +kernel, by decide +kernel⟩
theorem ok_slow_ahead (T : Txt K mg w C_NoPart C_NoIns C_Worker) (F : Fun K "_slow_ahead" "_slow_ahead" s_slow_ahead f fd) : FnOk P w K mg base (L2.CX P w) 5 f fd ["part", "kept"] (spAhead K (fun p => ∃ t s, p = .slow t s)) := by
  refine F.okX sc_slow_ahead (fun vs H Q E h => ?_) (fun cdv A outer s H vs Q E hr h => ?_)
  · obtain ⟨x, k, p, kp, i, rfl, ⟨t, s, rfl⟩, hx, ok, hk, hf, ha, q⟩ := h
    all_goals rfl
  · obtain ⟨x, k, p, kp, i, rfl, ⟨t, s, rfl⟩, hx, ok, hk, hf, ha, q⟩ := h
    have nd := sc_slow_ahead.nd
    refine ⟨_, (pss_one (ps_ret (pe_o (c_table_worth T) (hr.mono (by decide)) (fun _ => passS) (pa_cons (pe_ix ix_tup (pv 0) pe_int (fun _ _ => rfl)) (pa_cons (pe_op op_fdiv (pe_ix ix_tup (pv 1) pe_int (fun _ _ => rfl)) pe_int) pa_nil))))), ?_⟩
    walk_at "rd"
    obtain ⟨ph, c, rfl⟩ : ∃ ph c, kp = .two ph c := by cases kp <;> first | exact ⟨_, _, rfl⟩ | exact hf.elim
    obtain ⟨⟨h0, h1⟩, _⟩ := hf
    obtain rfl := Option.some.inj ha
    refine ⟨x, _, 1, _, rfl, rfl, SqT.of hx, rfl, ?_⟩
    walk_at "rd"
    refine ⟨k, _, 0, _, rfl, rfl, Tp.sq hk, rfl, ?_⟩
    walk_at "rd"
    exact ⟨t, ph / 64, rfl, ok.1, Int.ediv_nonneg h0 (by decide), by omega, q⟩
theorem c_slow_ahead (T : Txt K mg w C_NoPart C_NoIns C_Worker) : CalO P w K mg base 5 "_slow_ahead" ["part", "kept"] (spAhead K (fun p => ∃ t s, p = .slow t s)) :=
  T.d_slow_ahead.calo (fun F => ok_slow_ahead T F) fun _ _ _ _ _ _ us hl => match us, hl with | [_, _], _ => rfl
theorem sc_noise_ahead : FnScope ["part", "kept"] ["part", "kept"] (defScope s_noise_ahead) := ⟨rfl, rfl, rfl, by decide +kernel, rfl, by decide +kernel, by decide +kernel⟩
theorem ok_noise_ahead (T : Txt K mg w C_NoPart C_NoIns C_Worker) (F : Fun K "_noise_ahead" "_noise_ahead" s_noise_ahead f fd) : FnOk P w K mg base (L2.CX P w) 5 f fd ["part", "kept"] (spAhead K (fun p => ∃ s, p = .noise s)) := by
  refine F.okX sc_noise_ahead (fun vs H Q E h => ?_) (fun cdv A outer s H vs Q E hr h => ?_)
  · obtain ⟨x, k, p, kp, i, rfl, ⟨s, rfl⟩, hx, ok, hk, hf, ha, q⟩ := h
    all_goals rfl
  · obtain ⟨x, k, p, kp, i, rfl, ⟨s, rfl⟩, hx, ok, hk, hf, ha, q⟩ := h
    have nd := sc_noise_ahead.nd
    refine ⟨_, (pss_one (ps_ret (pe_op op_sub (pe_ix ix_tup (pv 1) pe_int (fun _ _ => rfl)) pe_int))), ?_⟩
    walk_at "rd"
    obtain ⟨ph, rfl⟩ : ∃ ph, kp = .one ph := by cases kp <;> first | exact ⟨_, rfl⟩ | exact hf.elim
    obtain rfl := Option.some.inj ha
    refine ⟨k, _, 0, _, rfl, rfl, Tp.sq hk, rfl, ?_⟩
    walk_at "rd"
    exact q
theorem c_noise_ahead (T : Txt K mg w C_NoPart C_NoIns C_Worker) : CalO P w K mg base 5 "_noise_ahead" ["part", "kept"] (spAhead K (fun p => ∃ s, p = .noise s)) :=
  T.d_noise_ahead.calo (fun F => ok_noise_ahead T F) fun _ _ _ _ _ _ us hl => match us, hl with | [_, _], _ => rfl
theorem sc_from_step : FnScope ["part", "kept", "ins"] ["part", "kept", "ins"] (defScope s_from_step) := ⟨rfl, rfl, rfl, by decide +kernel, rfl, by decide +kernel, by decide +kernel⟩
theorem ok_from_step (T : Txt K mg w C_NoPart C_NoIns C_Worker) (F : Fun K "_from_step" "_from_step" s_from_step f fd) : FnOk P w K mg base (L2.CX P w) 5 f fd ["part", "kept", "ins"] (spStep K (fun p => ∃ n, p = .frm n)) := by
  refine F.okX sc_from_step (fun vs H Q E h => ?_) (fun cdv A outer s H vs Q E hr h => ?_)
  · obtain ⟨x, k, d, p, kp, es, rfl, ⟨n, rfl⟩, hx, ok, hk, hf, hd, hi, q⟩ := h
    all_goals rfl
  · obtain ⟨x, k, d, p, kp, es, rfl, ⟨n, rfl⟩, hx, ok, hk, hf, hd, hi, q⟩ := h
    have nd := sc_from_step.nd
    refine ⟨_, (pss_one (ps_ret (pe_tup (pa_cons (pe_dget2 (Nat.lt_of_le_of_lt (Nat.add_le_add_left (by decide : 1 ≤ 64) _) hr.units) (pv 2) (pe_ix ix_tup (pv 0) pe_int (fun _ _ => rfl)) pe_int ⟨rfl, rfl, rfl, rfl⟩) (pa_cons (pv 1) (pa_cons pe_bl pa_nil)))))), ?_⟩
    walk_at "rd"
    refine r_portE (z := n) rfl hd hi (fun R r => ?_) ?_
    · walk_at "rd"
      exact ⟨x, _, 1, _, rfl, rfl, SqT.of hx, rfl, r⟩
    walk_at "rd"
    exact newT rfl fun r H2 _ s2 e2 => q r k H2 s2 (hk.same s2) e2
theorem c_from_step (T : Txt K mg w C_NoPart C_NoIns C_Worker) : CalO P w K mg base 5 "_from_step" ["part", "kept", "ins"] (spStep K (fun p => ∃ n, p = .frm n)) :=
  T.d_from_step.calo (fun F => ok_from_step T F) fun _ _ _ _ _ _ us hl => match us, hl with | [_, _, _], _ => rfl
theorem sc_wave_step : FnScope ["part", "kept", "ins", "phase", "onward"] ["part", "kept", "ins"] (defScope s_wave_step) := ⟨rfl, rfl, rfl, by decide +kernel, rfl, by decide +kernel, by decide +kernel⟩
theorem ok_wave_step (T : Txt K mg w C_NoPart C_NoIns C_Worker) (F : Fun K "_wave_step" "_wave_step" s_wave_step f fd) : FnOk P w K mg base (L2.CX P w) 5 f fd ["part", "kept", "ins"] (spStep K (fun p => ∃ t s, p = .wave t s)) := by
  refine F.okX sc_wave_step (fun vs H Q E h => ?_) (fun cdv A outer s H vs Q E hr h => ?_)
  · obtain ⟨x, k, d, p, kp, es, rfl, ⟨t, s, rfl⟩, hx, ok, hk, hf, hd, hi, q⟩ := h
    all_goals rfl
  · obtain ⟨x, k, d, p, kp, es, rfl, ⟨t, s, rfl⟩, hx, ok, hk, hf, hd, hi, q⟩ := h
    have nd := sc_wave_step.nd
    refine ⟨_, (pss_cons (ps_set (i := 3) nd rfl (Or.inl rfl) (pe_ix ix_tup (pv 1) pe_int (fun _ _ => rfl)))
        (pss_cons (ps_set (i := 4) nd rfl (Or.inl rfl) (pe_op op_add (pe_op op_add (pv 3) (pe_ix ix_tup (pv 0) pe_int (fun _ _ => rfl))) (pe_op op_fdiv (pe_dget2 (Nat.lt_of_le_of_lt (Nat.add_le_add_left (by decide : 1 ≤ 64) _) hr.units) (pv 2) pe_str pe_int ⟨rfl, rfl, rfl, rfl⟩) pe_int)))
        (pss_one (ps_ret (pe_tup (pa_cons (pe_o (c_table_worth T) (hr.mono (by decide)) (fun _ => passS) (pa_cons (pe_ix ix_tup (pv 0) pe_int (fun _ _ => rfl)) (pa_cons (pe_op op_fdiv (pv 3) pe_int) pa_nil))) (pa_cons (pe_tup (pa_cons (pe_op op_mod (pv 4) (pe_gc T.g_PHASES)) pa_nil)) (pa_cons pe_bl pa_nil)))))))), ?_⟩
    walk_at "rd"
    obtain ⟨ph, rfl⟩ : ∃ ph, kp = .one ph := by cases kp <;> first | exact ⟨_, rfl⟩ | exact hf.elim
    obtain ⟨h0, h1⟩ := hf
    refine ⟨k, _, 0, _, rfl, rfl, Tp.sq hk, rfl, ?_⟩
    walk_at "rd"
    refine ⟨x, _, 2, _, rfl, rfl, SqT.of hx, rfl, ?_⟩
    walk_at "rd"
    refine r_port rfl hd hi ?_
    walk_at "rd"
    refine ⟨x, _, 1, _, rfl, rfl, SqT.of hx, rfl, ?_⟩
    walk_at "rd"
    refine ⟨t, ph / 64, rfl, ok.1, Int.ediv_nonneg h0 (by decide), by omega, ?_⟩
    walk_at "rd"
    refine newT rfl fun k2 H1 _ s1 e1 => ?_
    walk_at "rd"
    exact newT rfl fun r H2 _ s2 e2 => q r k2 H2 (s1.trans s2) (.inl (s2 _ _ e1)) e2
theorem c_wave_step (T : Txt K mg w C_NoPart C_NoIns C_Worker) : CalO P w K mg base 5 "_wave_step" ["part", "kept", "ins"] (spStep K (fun p => ∃ t s, p = .wave t s)) :=
  T.d_wave_step.calo (fun F => ok_wave_step T F) fun _ _ _ _ _ _ us hl => match us, hl with | [_, _, _], _ => rfl
theorem sc_slow_step : FnScope ["part", "kept", "ins", "phase", "told", "worth"] ["part", "kept", "ins"] (defScope s_slow_step) := ⟨rfl, rfl, rfl, by decide +kernel, rfl, by decide +kernel, by decide +kernel⟩
theorem ok_slow_step (T : Txt K mg w C_NoPart C_NoIns C_Worker) (F : Fun K "_slow_step" "_slow_step" s_slow_step f fd) : FnOk P w K mg base (L2.CX P w) 6 f fd ["part", "kept", "ins"] (spStep K (fun p => ∃ t s, p = .slow t s)) := by
  refine F.okX sc_slow_step (fun vs H Q E h => ?_) (fun cdv A outer s H vs Q E hr h => ?_)
  · obtain ⟨x, k, d, p, kp, es, rfl, ⟨t, s, rfl⟩, hx, ok, hk, hf, hd, hi, q⟩ := h
    all_goals rfl
  · obtain ⟨x, k, d, p, kp, es, rfl, ⟨t, s, rfl⟩, hx, ok, hk, hf, hd, hi, q⟩ := h
    have nd := sc_slow_step.nd
    refine ⟨_, (pss_cons (ps_asg (pv 1) (pg_tup rfl (pgs_cons (pg_name (i := 3) nd rfl (Or.inl rfl)) (pgs_cons (pg_name (i := 4) nd rfl (Or.inl rfl)) pgs_nil))))
        (pss_cons (ps_set (i := 5) nd rfl (Or.inl rfl) (pe_o (c_slow_ahead T) (hr.mono (by decide)) (fun _ => passS) (pa_cons (pv 0) (pa_cons (pv 1) pa_nil))))
        (pss_cons (ps_if (pt_cmpR op_lt (pe_op op_add (pv 4) pe_int) (pe_gc T.g_SLOW_SAMPLES) (nomark _)) (pss_one (ps_ret (pe_tup (pa_cons (pv 5) (pa_cons (pe_tup (pa_cons (pv 3) (pa_cons (pe_op op_add (pv 4) pe_int) pa_nil))) (pa_cons pe_bl pa_nil)))))) pss_nil)
        (pss_one (ps_ret (pe_tup (pa_cons (pv 5) (pa_cons (pe_tup (pa_cons (pe_op op_mod (pe_op op_add (pv 3) (pe_ix ix_tup (pv 0) pe_int (fun _ _ => rfl))) (pe_gc T.g_PHASES)) (pa_cons pe_int pa_nil))) (pa_cons pe_bl pa_nil))))))))), ?_⟩
    walk_at "rd"
    obtain ⟨ph, c, rfl⟩ : ∃ ph c, kp = .two ph c := by cases kp <;> first | exact ⟨_, _, rfl⟩ | exact hf.elim
    refine ⟨k, _, rfl, Tp.sq hk, rfl, ?_⟩
    refine r_gc ?_
    walk_at "rd"
    refine r_gc ?_
    walk_at "rd"
    refine r_gn ?_
    walk_at "rd"
    refine ⟨x, k, _, _, _, rfl, ⟨t, s, rfl⟩, hx, ok, hk, hf, rfl, ?_⟩
    walk_at "rd"
    refine ite2 (fun z => ?_) (fun z => ?_)
    · have z := of_decide_eq_true z
      walk_at "rd"
      refine newT rfl fun k2 H1 _ s1 e1 => ?_
      walk_at "rd"
      refine newT rfl fun r H2 _ s2 e2 => q r k2 H2 (s1.trans s2) ?_ e2
      simp only [Gx.step, if_pos z]
      exact .inl (s2 _ _ e1)
    · have z : ¬ c + 1 < 16 := fun y => z (decide_eq_true y)
      walk_at "rd"
      refine ⟨x, _, 2, _, rfl, rfl, SqT.of hx, rfl, ?_⟩
      walk_at "rd"
      refine newT rfl fun k2 H1 _ s1 e1 => ?_
      walk_at "rd"
      refine newT rfl fun r H2 _ s2 e2 => q r k2 H2 (s1.trans s2) ?_ e2
      simp only [Gx.step, if_neg z]
      exact .inl (s2 _ _ e1)
theorem c_slow_step (T : Txt K mg w C_NoPart C_NoIns C_Worker) : CalO P w K mg base 6 "_slow_step" ["part", "kept", "ins"] (spStep K (fun p => ∃ t s, p = .slow t s)) :=
  T.d_slow_step.calo (fun F => ok_slow_step T F) fun _ _ _ _ _ _ us hl => match us, hl with | [_, _, _], _ => rfl
theorem sc_noise_step : FnScope ["part", "kept", "ins"] ["part", "kept", "ins"] (defScope s_noise_step) := ⟨rfl, rfl, rfl, by decide +kernel, rfl, by decide +kernel, by decide +kernel⟩
theorem ok_noise_step (T : Txt K mg w C_NoPart C_NoIns C_Worker) (F : Fun K "_noise_step" "_noise_step" s_noise_step f fd) : FnOk P w K mg base (L2.CX P w) 6 f fd ["part", "kept", "ins"] (spStep K (fun p => ∃ s, p = .noise s)) := by
  refine F.okX sc_noise_step (fun vs H Q E h => ?_) (fun cdv A outer s H vs Q E hr h => ?_)
  · obtain ⟨x, k, d, p, kp, es, rfl, ⟨s, rfl⟩, hx, ok, hk, hf, hd, hi, q⟩ := h
    all_goals rfl
  · obtain ⟨x, k, d, p, kp, es, rfl, ⟨s, rfl⟩, hx, ok, hk, hf, hd, hi, q⟩ := h
    have nd := sc_noise_step.nd
    refine ⟨_, (pss_one (ps_ret (pe_tup (pa_cons (pe_o (c_noise_ahead T) (hr.mono (by decide)) (fun _ => passS) (pa_cons (pv 0) (pa_cons (pv 1) pa_nil))) (pa_cons (pe_tup (pa_cons (pe_o (c_next_noise T) (hr.mono (by decide)) (fun _ => passS) (pa_cons (pe_ix ix_tup (pv 1) pe_int (fun _ _ => rfl)) pa_nil)) pa_nil)) (pa_cons pe_bl pa_nil)))))), ?_⟩
    walk_at "rd"
    obtain ⟨ph, rfl⟩ : ∃ ph, kp = .one ph := by cases kp <;> first | exact ⟨_, rfl⟩ | exact hf.elim
    refine ⟨x, k, _, _, _, rfl, ⟨s, rfl⟩, hx, ok, hk, hf, rfl, ?_⟩
    walk_at "rd"
    refine ⟨k, _, 0, _, rfl, rfl, Tp.sq hk, rfl, ?_⟩
    walk_at "rd"
    refine ⟨ph, rfl, hf.1, hf.2, ?_⟩
    walk_at "rd"
    refine newT rfl fun k2 H1 _ s1 e1 => ?_
    walk_at "rd"
    exact newT rfl fun r H2 _ s2 e2 => q r k2 H2 (s1.trans s2) (.inl (s2 _ _ e1)) e2
theorem c_noise_step (T : Txt K mg w C_NoPart C_NoIns C_Worker) : CalO P w K mg base 6 "_noise_step" ["part", "kept", "ins"] (spStep K (fun p => ∃ s, p = .noise s)) :=
  T.d_noise_step.calo (fun F => ok_noise_step T F) fun _ _ _ _ _ _ us hl => match us, hl with | [_, _, _], _ => rfl
def spWord : Sp := fun vs H Q _ => ∃ (x : W5) (g : Int), vs = [.str x.s, .int g] ∧ ∀ H', Same H H' → Q (.str (wordF x (decide (0 < g))).s) H'
theorem sc_shape_word : FnScope ["word", "gate"] ["word", "gate"] (defScope s_shape_word) := ⟨rfl, rfl, rfl, by decide +kernel, rfl, by decide +kernel, by decide +kernel⟩
theorem ok_shape_word (T : Txt K mg w C_NoPart C_NoIns C_Worker) (F : Fun K "_shape_word" "_shape_word" s_shape_word f fd) : FnOk P w K mg base (L2.CX P w) 1 f fd ["word", "gate"] spWord := by
  refine F.okX sc_shape_word (fun vs H Q E h => ?_) (fun cdv A outer s H vs Q E hr h => ?_)
  · obtain ⟨x, g, rfl, q⟩ := h
    all_goals rfl
  · obtain ⟨x, g, rfl, q⟩ := h
    have nd := sc_shape_word.nd
    refine ⟨_, (pss_cons (ps_if (PW.pt (pw_and (pt_cmpR op_gt (pv 1) pe_int (nomark _)) (pw_and1 (pt_cmpR op_in_seq (pv 0) (pe_tup (pa_cons pe_str (pa_cons pe_str pa_nil))) (by rfl))))) (pss_one (ps_ret pe_str)) pss_nil)
        (pss_cons (ps_if (PW.pt (pw_and (pt_cmpR op_le (pv 1) pe_int (nomark _)) (pw_and1 (pt_cmpR op_in_seq (pv 0) (pe_tup (pa_cons pe_str (pa_cons pe_str (pa_cons pe_str pa_nil)))) (by rfl))))) (pss_one (ps_ret pe_str)) pss_nil)
        (pss_one (ps_ret (pv 0))))), ?_⟩
    walk_at "rd"
    by_cases c : 0 < g
    · have c2 : decide (g ≤ 0) = false := decide_eq_false (by omega)
      rw [decide_eq_true c] at q
      refine iteTb (decide_eq_true c) ?_
      walk_at "rd"
      refine newT rfl fun t H2 _ s2 e2 => ?_
      have q := q _ s2
      refine ⟨t, _, rfl, .inr (SqT.of e2), by cases x <;> rfl, rfl, ?_⟩
      walk_at "rd"
      cases x with
      | rest =>
        refine iteTb (by decide +kernel) ?_
        walk_at "rd"
        exact q
      | up =>
        refine iteFb (by decide +kernel) ?_
        walk_at "rd"
        refine iteFb c2 ?_
        walk_at "rd"
        exact q
      | down =>
        refine iteFb (by decide +kernel) ?_
        walk_at "rd"
        refine iteFb c2 ?_
        walk_at "rd"
        exact q
      | stay =>
        refine iteFb (by decide +kernel) ?_
        walk_at "rd"
        refine iteFb c2 ?_
        walk_at "rd"
        exact q
      | away =>
        refine iteTb (by decide +kernel) ?_
        walk_at "rd"
        exact q
    · have c2 : decide (g ≤ 0) = true := decide_eq_true (by omega)
      rw [decide_eq_false c] at q
      refine iteFb (decide_eq_false c) ?_
      walk_at "rd"
      refine iteTb c2 ?_
      walk_at "rd"
      refine newT rfl fun t H2 _ s2 e2 => ?_
      have q := q _ s2
      refine ⟨t, _, rfl, .inr (SqT.of e2), by cases x <;> rfl, rfl, ?_⟩
      walk_at "rd"
      cases x with
      | rest =>
        refine iteFb (by decide +kernel) ?_
        walk_at "rd"
        exact q
      | up =>
        refine iteTb (by decide +kernel) ?_
        walk_at "rd"
        exact q
      | down =>
        refine iteTb (by decide +kernel) ?_
        walk_at "rd"
        exact q
      | stay =>
        refine iteTb (by decide +kernel) ?_
        walk_at "rd"
        exact q
      | away =>
        refine iteFb (by decide +kernel) ?_
        walk_at "rd"
        exact q
theorem c_shape_word (T : Txt K mg w C_NoPart C_NoIns C_Worker) : CalO P w K mg base 1 "_shape_word" ["word", "gate"] spWord :=
  T.d_shape_word.calo (fun F => ok_shape_word T F) fun _ _ _ _ _ _ us hl => match us, hl with | [_, _], _ => rfl
def spMoved : Sp := fun vs H Q _ => ∃ (x : Addr) (p : Pm) (lv : Int) (y : W5), vs = [.ref x, .int lv, .str y.s] ∧ H x = some (.tup p.tup) ∧ ∀ t H', Same H H' → H' t = some (.tup [.int (mv p lv y).1, .str (mv p lv y).2.s]) → Q (.ref t) H'
theorem sc_shape_moved : FnScope ["part", "level", "word", "_", "up", "down", "stay", "away", "higher", "lower"] ["part", "level", "word"] (defScope s_shape_moved) := ⟨rfl, rfl, rfl, by decide +kernel, rfl, by decide +kernel, by decide +kernel⟩
theorem ok_shape_moved (T : Txt K mg w C_NoPart C_NoIns C_Worker) (F : Fun K "_shape_moved" "_shape_moved" s_shape_moved f fd) : FnOk P w K mg base (L2.CX P w) 1 f fd ["part", "level", "word"] spMoved := by
  refine F.okX sc_shape_moved (fun vs H Q E h => ?_) (fun cdv A outer s H vs Q E hr h => ?_)
  · obtain ⟨x, p, lv, y, rfl, hx, q⟩ := h
    all_goals rfl
  · obtain ⟨x, p, lv, y, rfl, hx, q⟩ := h
    have nd := sc_shape_moved.nd
    refine ⟨_, (pss_cons (ps_asg (pv 0) (pg_tup rfl (pgs_cons (pg_name (i := 3) nd rfl (Or.inl rfl)) (pgs_cons (pg_name (i := 4) nd rfl (Or.inl rfl)) (pgs_cons (pg_name (i := 5) nd rfl (Or.inl rfl)) (pgs_cons (pg_name (i := 6) nd rfl (Or.inl rfl)) (pgs_cons (pg_name (i := 7) nd rfl (Or.inl rfl)) pgs_nil)))))))
        (pss_cons (ps_if (pt_cmpR op_eq (pv 2) pe_str (nomark _)) (pss_cons (ps_set (i := 8) nd rfl (Or.inl rfl) (pe_callB (call_min2 rfl) (by rfl) T.n_min (by decide +kernel) (pa_cons (pe_gc T.g_TOP) (pa_cons (pe_op op_add (pv 1) (pv 4)) pa_nil))))
        (pss_one (ps_ret (pe_tup (pa_cons (pv 8) (pa_cons (pe_ifExp (pt_cmpR op_eq (pv 8) (pe_gc T.g_TOP) (nomark _)) pe_str pe_str) pa_nil)))))) pss_nil)
        (pss_cons (ps_if (pt_cmpR op_eq (pv 2) pe_str (nomark _)) (pss_cons (ps_set (i := 9) nd rfl (Or.inl rfl) (pe_callB (call_max2 rfl) (by rfl) T.n_max (by decide +kernel) (pa_cons (pv 6) (pa_cons (pe_op op_sub (pv 1) (pv 5)) pa_nil))))
        (pss_one (ps_ret (pe_tup (pa_cons (pv 9) (pa_cons (pe_ifExp (pt_cmpR op_eq (pv 9) (pv 6) (nomark _)) pe_str pe_str) pa_nil)))))) pss_nil)
        (pss_cons (ps_if (pt_cmpR op_eq (pv 2) pe_str (nomark _)) (pss_one (ps_ret (pe_tup (pa_cons (pv 6) (pa_cons pe_str pa_nil))))) pss_nil)
        (pss_cons (ps_if (pt_cmpR op_eq (pv 2) pe_str (nomark _)) (pss_cons (ps_set (i := 9) nd rfl (Or.inl rfl) (pe_callB (call_max2 rfl) (by rfl) T.n_max (by decide +kernel) (pa_cons pe_int (pa_cons (pe_op op_sub (pv 1) (pv 7)) pa_nil))))
        (pss_one (ps_ret (pe_tup (pa_cons (pv 9) (pa_cons (pe_ifExp (pt_cmpR op_eq (pv 9) pe_int (nomark _)) pe_str pe_str) pa_nil)))))) pss_nil)
        (pss_one (ps_ret (pe_tup (pa_cons pe_int (pa_cons pe_str pa_nil)))))))))), ?_⟩
    walk_at "rd"
    refine ⟨x, _, rfl, SqT.of hx, rfl, ?_⟩
    refine r_gc ?_
    walk_at "rd"
    refine r_gc ?_
    walk_at "rd"
    refine r_gc ?_
    walk_at "rd"
    refine r_gc ?_
    walk_at "rd"
    refine r_gc ?_
    walk_at "rd"
    refine r_gn ?_
    walk_at "rd"
    cases y with
    | up =>
      refine iteTb (by decide +kernel) ?_
      walk_at "rd"
      refine ⟨_, _, rfl, ?_⟩
      walk_at "rd"
      have e : (if lv + p.u < 2047 then lv + p.u else 2047) = min 2047 (lv + p.u) := by split <;> omega
      rw [e]
      refine ite2 (fun c => ?_) (fun c => ?_)
      · have c : V.int (min 2047 (lv + p.u)) = .int 2047 := of_decide_eq_true c
        injection c with c
        walk_at "rd"
        refine newT rfl fun t H2 _ s2 e2 => q t H2 s2 ?_
        show _ = some (HO.tup [.int (min 2047 (lv + p.u)), .str (if min 2047 (lv + p.u) = 2047 then W5.down else W5.up).s])
        rw [if_pos c]
        exact e2
      · have c : ¬ min 2047 (lv + p.u) = 2047 := fun z => c (decide_eq_true (by rw [z]))
        walk_at "rd"
        refine newT rfl fun t H2 _ s2 e2 => q t H2 s2 ?_
        show _ = some (HO.tup [.int (min 2047 (lv + p.u)), .str (if min 2047 (lv + p.u) = 2047 then W5.down else W5.up).s])
        rw [if_neg c]
        exact e2
    | down =>
      refine iteFb (by decide +kernel) ?_
      walk_at "rd"
      refine iteTb (by decide +kernel) ?_
      walk_at "rd"
      refine ⟨_, _, rfl, ?_⟩
      walk_at "rd"
      have e : (if lv - p.d > p.s then lv - p.d else p.s) = max p.s (lv - p.d) := by split <;> omega
      rw [e]
      refine ite2 (fun c => ?_) (fun c => ?_)
      · have c : V.int (max p.s (lv - p.d)) = .int p.s := of_decide_eq_true c
        injection c with c
        walk_at "rd"
        refine newT rfl fun t H2 _ s2 e2 => q t H2 s2 ?_
        show _ = some (HO.tup [.int (max p.s (lv - p.d)), .str (if max p.s (lv - p.d) = p.s then W5.stay else W5.down).s])
        rw [if_pos c]
        exact e2
      · have c : ¬ max p.s (lv - p.d) = p.s := fun z => c (decide_eq_true (by rw [z]))
        walk_at "rd"
        refine newT rfl fun t H2 _ s2 e2 => q t H2 s2 ?_
        show _ = some (HO.tup [.int (max p.s (lv - p.d)), .str (if max p.s (lv - p.d) = p.s then W5.stay else W5.down).s])
        rw [if_neg c]
        exact e2
    | stay =>
      refine iteFb (by decide +kernel) ?_
      walk_at "rd"
      refine iteFb (by decide +kernel) ?_
      walk_at "rd"
      refine iteTb (by decide +kernel) ?_
      walk_at "rd"
      exact newT rfl fun t H2 _ s2 e2 => q t H2 s2 e2
    | away =>
      refine iteFb (by decide +kernel) ?_
      walk_at "rd"
      refine iteFb (by decide +kernel) ?_
      walk_at "rd"
      refine iteFb (by decide +kernel) ?_
      walk_at "rd"
      refine iteTb (by decide +kernel) ?_
      walk_at "rd"
      refine ⟨_, _, rfl, ?_⟩
      walk_at "rd"
      have e : (if lv - p.a > 0 then lv - p.a else 0) = max 0 (lv - p.a) := by split <;> omega
      rw [e]
      refine ite2 (fun c => ?_) (fun c => ?_)
      · have c : V.int (max 0 (lv - p.a)) = .int 0 := of_decide_eq_true c
        injection c with c
        walk_at "rd"
        refine newT rfl fun t H2 _ s2 e2 => q t H2 s2 ?_
        show _ = some (HO.tup [.int (max 0 (lv - p.a)), .str (if max 0 (lv - p.a) = 0 then W5.rest else W5.away).s])
        rw [if_pos c]
        exact e2
      · have c : ¬ max 0 (lv - p.a) = 0 := fun z => c (decide_eq_true (by rw [z]))
        walk_at "rd"
        refine newT rfl fun t H2 _ s2 e2 => q t H2 s2 ?_
        show _ = some (HO.tup [.int (max 0 (lv - p.a)), .str (if max 0 (lv - p.a) = 0 then W5.rest else W5.away).s])
        rw [if_neg c]
        exact e2
    | rest =>
      refine iteFb (by decide +kernel) ?_
      walk_at "rd"
      refine iteFb (by decide +kernel) ?_
      walk_at "rd"
      refine iteFb (by decide +kernel) ?_
      walk_at "rd"
      refine iteFb (by decide +kernel) ?_
      walk_at "rd"
      exact newT rfl fun t H2 _ s2 e2 => q t H2 s2 e2
theorem c_shape_moved (T : Txt K mg w C_NoPart C_NoIns C_Worker) : CalO P w K mg base 1 "_shape_moved" ["part", "level", "word"] spMoved :=
  T.d_shape_moved.calo (fun F => ok_shape_moved T F) fun _ _ _ _ _ _ us hl => match us, hl with | [_, _, _], _ => rfl
theorem sc_shape_step : FnScope ["part", "kept", "ins", "level", "word", "stands"] ["part", "kept", "ins"] (defScope s_shape_step) := ⟨rfl, rfl, rfl, by decide +kernel, rfl, by decide +kernel, by decide +kernel⟩
theorem ok_shape_step (T : Txt K mg w C_NoPart C_NoIns C_Worker) (F : Fun K "_shape_step" "_shape_step" s_shape_step f fd) : FnOk P w K mg base (L2.CX P w) 2 f fd ["part", "kept", "ins"] (spStep K (fun p => ∃ z, p = .shape z)) := by
  refine F.okX sc_shape_step (fun vs H Q E h => ?_) (fun cdv A outer s H vs Q E hr h => ?_)
  · obtain ⟨x, k, d, p, kp, es, rfl, ⟨p, rfl⟩, hx, ok, hk, hf, hd, hi, q⟩ := h
    all_goals rfl
  · obtain ⟨x, k, d, p, kp, es, rfl, ⟨p, rfl⟩, hx, ok, hk, hf, hd, hi, q⟩ := h
    have nd := sc_shape_step.nd
    refine ⟨_, (pss_cons (ps_asg (pv 1) (pg_tup rfl (pgs_cons (pg_name (i := 3) nd rfl (Or.inl rfl)) (pgs_cons (pg_name (i := 4) nd rfl (Or.inl rfl)) pgs_nil))))
        (pss_cons (ps_set (i := 5) nd rfl (Or.inl rfl) (pe_o (c_shape_moved T) (hr.mono (by decide)) (fun _ => passS) (pa_cons (pv 0) (pa_cons (pv 3) (pa_cons (pe_o (c_shape_word T) (hr.mono (by decide)) (fun _ => passS) (pa_cons (pv 4) (pa_cons (pe_dget2 (Nat.lt_of_le_of_lt (Nat.add_le_add_left (by decide : 1 ≤ 64) _) hr.units) (pv 2) pe_str pe_int ⟨rfl, rfl, rfl, rfl⟩) pa_nil))) pa_nil)))))
        (pss_one (ps_ret (pe_tup (pa_cons (pe_ix ix_tup (pv 5) pe_int (fun _ _ => rfl)) (pa_cons (pv 5) (pa_cons pe_bl pa_nil)))))))), ?_⟩
    walk_at "rd"
    obtain ⟨lv, y, rfl⟩ : ∃ lv y, kp = .shp lv y := by cases kp <;> first | exact ⟨_, _, rfl⟩ | exact hf.elim
    refine ⟨k, _, rfl, Tp.sq hk, rfl, ?_⟩
    refine r_gc ?_
    walk_at "rd"
    refine r_gc ?_
    walk_at "rd"
    refine r_gn ?_
    walk_at "rd"
    refine r_port rfl hd hi ?_
    show tNil _ _ _
    walk_at "rd"
    refine ⟨y, insG es "gate", rfl, fun H1 s1 => ?_⟩
    walk_at "rd"
    refine ⟨x, p, lv, wordF y (decide (0 < insG es "gate")), rfl, s1 _ _ hx, fun t H2 s2 et => ?_⟩
    walk_at "rd"
    refine ⟨t, _, 0, _, rfl, rfl, SqT.of et, rfl, ?_⟩
    walk_at "rd"
    exact newT rfl fun r H3 _ s3 e3 => q r t H3 (s1.trans (s2.trans s3)) (.inl (s3 _ _ et)) e3
theorem c_shape_step (T : Txt K mg w C_NoPart C_NoIns C_Worker) : CalO P w K mg base 2 "_shape_step" ["part", "kept", "ins"] (spStep K (fun p => ∃ z, p = .shape z)) :=
  T.d_shape_step.calo (fun F => ok_shape_step T F) fun _ _ _ _ _ _ us hl => match us, hl with | [_, _, _], _ => rfl
end
end KB
set_option linter.all false
set_option maxRecDepth 100000
set_option maxHeartbeats 4000000
namespace KB
open PySem PySem.Spec PyProof.Rows L2 Gx
local macro_rules | `(tactic| walk_at "rd1") => `(tactic| with_reducible first
  | refine r_var rfl ?_ | refine r_c ?_ | refine r_op ?_ | refine r_un ?_ | refine r_I0 ?_ | refine r_neg ?_ | refine r_test ?_ | refine r_B ?_ | refine r_bl ?_ | refine r_blx ?_
  | refine r_seq ?_ | refine r_ret ?_ | refine r_asg ?_ | refine r_name ?_ | refine r_gsub ?_ | refine r_if ?_ | refine r_next ?_ | refine r_drop ?_ | refine r_cb ?_ | refine r_nil ?_ | refine r_cons ?_
  | refine r_g ?_ | refine r_k ?_ | refine r_lstN ?_ | refine r_tupN ?_ | refine r_notV ?_ | refine r_ifE ?_ | refine r_and ?_ | refine r_or ?_ | refine r_not ?_ | refine r_chain ?_
  | refine r_sl ?_ | refine r_part ?_ | refine r_nop ?_ | refine r_par3 ?_ | refine r_is3 ?_ | refine r_par2 ?_ | refine r_is2 ?_ | refine r_m0 ?_ | refine r_ei ?_ | refine r_nx ?_ | refine r_rt ?_ | refine r_ct ?_ | refine r_eq rfl ?_ | refine r_ne rfl ?_ | refine iteT ?_ | refine iteF ?_ | refine iteNF ?_ | refine iteNT ?_
  | (refine r_fdivK ?hc ?_; (case hc => decide +kernel)) | (refine r_modK ?hc ?_; (case hc => decide +kernel)) | (refine r_mulL ?hc ?_; (case hc => decide +kernel)) | (refine r_mulR ?hc ?_; (case hc => decide +kernel)) | (refine r_powK ?hc ?_; (case hc => decide +kernel)) | fail "no step")
local macro_rules | `(tactic| walk_at "rd") => `(tactic| repeat' walk_at "rd1")
section
variable {P : Program} {w : World} {K : PySem.W.Frag} {mg : Str → Option Value} {base : Heap} {f : Addr} {fd : FuncData} {C_NoPart C_NoIns C_Worker : Addr}
/-! ### workers.py, the sums, the delays -/
theorem sc_ports_of : FnScope ["part"] ["part"] (defScope s_ports_of) := ⟨rfl, rfl, rfl, by decide +kernel, rfl, by decide +kernel, by decide +kernel⟩
theorem ok_ports_of (T : Txt K mg w C_NoPart C_NoIns C_Worker) (F : Fun K "ports_of" "ports_of" s_ports_of f fd) : FnOk P w K mg base (L2.CX P w) 6 f fd ["part"] (spPorts K C_NoPart) := by
  obtain ⟨a_MIX_PORTS, g_MIX_PORTS, hm⟩ := T.g_MIX_PORTS
  obtain ⟨a__PORTS, g__PORTS, es, en, kD, ks, ⟨t0, n0, u0⟩, ⟨t1, n1, u1⟩, ⟨t2, n2, u2⟩, ⟨t3, n3, u3⟩, ⟨t4, n4, u4⟩, ⟨t5, n5, u5⟩, ⟨t6, n6, u6⟩, ⟨t7, n7, u7⟩, ⟨t8, n8, u8⟩, -⟩ := T.g__PORTS
  refine F.okX sc_ports_of (fun vs H Q E h => ?_) (fun cdv A outer s H vs Q E hr h => ?_)
  · obtain ⟨v, rfl, h⟩ := h
    all_goals rfl
  · obtain ⟨v, rfl, h⟩ := h
    have nd := sc_ports_of.nd
    refine ⟨_, (pss_cons (ps_if (pt_not (pt_val (pe_o (c_is_part T) (hr.mono (by decide)) (fun _ => passS) (pa_cons (pv 0) pa_nil)))) (pss_one (ps_rs T.x_NoPart (ok_init_NoPart T) b_init_NoPart (hr.mono (by decide)) rfl (takes_of rfl rfl rfl rfl) rfl (pa_cons (pv 0) pa_nil))) pss_nil)
        (pss_cons (ps_if (pt_cmpR op_eq (pe_ix ix_tup (pv 0) pe_int (fun _ _ => rfl)) pe_str (nomark _)) (pss_one (ps_ret (pe_slice sl_tupA (pe_gc (v := .ref a_MIX_PORTS) ⟨_, g_MIX_PORTS, rfl⟩) po_none (po_some (pe_callB call_len_seq (by rfl) T.n_len PySem.boot_len (pa_cons (pe_ix ix_tup (pv 0) pe_int (fun _ _ => rfl)) pa_nil)))))) pss_nil)
        (pss_one (ps_ret (pe_ix ix_kdict (pe_gc (v := .ref a__PORTS) ⟨_, g__PORTS, rfl⟩) (pe_ix ix_tup (pv 0) pe_int (fun _ _ => rfl)) (fun _ _ => rfl)))))), ?_⟩
    walk_at "rd"
    rcases h with ⟨x, p, rfl, hx, ok, q⟩ | ⟨d, hd, hz, no, q⟩
    · refine ⟨_, _, rfl, hx.dt, Prt.txt ok, fun H1 s1 => ?_⟩
      rw [Prt.part ok]
      have hx := hx.same s1
      obtain ⟨xs, ex, _⟩ := hx.tup
      walk_at "rd"
      refine ⟨x, _, 0, _, rfl, rfl, SqT.of ex, atI_nat (j := 0) rfl, ?_⟩
      walk_at "rd"
      cases p with
      | mix fs m =>
        obtain ⟨f1, hx, hf⟩ := hx
        obtain ⟨⟨o1, o2, _⟩, _⟩ := ok
        refine iteTb (kd_eq rfl) ?_
        walk_at "rd"
        refine ⟨x, _, 1, _, rfl, rfl, SqT.of hx, rfl, ?_⟩
        walk_at "rd"
        refine ⟨f1, _, rfl, .inr (SqT.of hf), ?_⟩
        walk_at "rd"
        rw [List.length_map]
        refine r_slK (.inr hm) fun t H2 s2 e2 => q t H2 (s1.trans s2) ?_
        rw [mix_ports o1 o2] at e2
        exact e2
      | frm n =>
        refine iteFb (kd_ne (b := "from") rfl (by decide +kernel)) ?_
        walk_at "rd"
        refine ⟨x, _, 0, _, rfl, rfl, SqT.of ex, atI_nat (j := 0) rfl, ?_⟩
        exact ⟨a__PORTS, "from", .ref t0, rfl, rfl, kd_dct kD n0, q t0 H1 s1 (.inr u0)⟩
      | wave t s =>
        refine iteFb (kd_ne (b := "wave") rfl (by decide +kernel)) ?_
        walk_at "rd"
        refine ⟨x, _, 0, _, rfl, rfl, SqT.of ex, atI_nat (j := 0) rfl, ?_⟩
        exact ⟨a__PORTS, "wave", .ref t1, rfl, rfl, kd_dct kD n1, q t1 H1 s1 (.inr u1)⟩
      | slow t s =>
        refine iteFb (kd_ne (b := "slow") rfl (by decide +kernel)) ?_
        walk_at "rd"
        refine ⟨x, _, 0, _, rfl, rfl, SqT.of ex, atI_nat (j := 0) rfl, ?_⟩
        exact ⟨a__PORTS, "slow", .ref t2, rfl, rfl, kd_dct kD n2, q t2 H1 s1 (.inr u2)⟩
      | noise s =>
        refine iteFb (kd_ne (b := "noise") rfl (by decide +kernel)) ?_
        walk_at "rd"
        refine ⟨x, _, 0, _, rfl, rfl, SqT.of ex, atI_nat (j := 0) rfl, ?_⟩
        exact ⟨a__PORTS, "noise", .ref t3, rfl, rfl, kd_dct kD n3, q t3 H1 s1 (.inr u3)⟩
      | shape z =>
        refine iteFb (kd_ne (b := "shape") rfl (by decide +kernel)) ?_
        walk_at "rd"
        refine ⟨x, _, 0, _, rfl, rfl, SqT.of ex, atI_nat (j := 0) rfl, ?_⟩
        exact ⟨a__PORTS, "shape", .ref t4, rfl, rfl, kd_dct kD n4, q t4 H1 s1 (.inr u4)⟩
      | taps fs m =>
        refine iteFb (kd_ne (b := "taps") rfl (by decide +kernel)) ?_
        walk_at "rd"
        refine ⟨x, _, 0, _, rfl, rfl, SqT.of ex, atI_nat (j := 0) rfl, ?_⟩
        exact ⟨a__PORTS, "taps", .ref t5, rfl, rfl, kd_dct kD n5, q t5 H1 s1 (.inr u5)⟩
      | times m =>
        refine iteFb (kd_ne (b := "times") rfl (by decide +kernel)) ?_
        walk_at "rd"
        refine ⟨x, _, 0, _, rfl, rfl, SqT.of ex, atI_nat (j := 0) rfl, ?_⟩
        exact ⟨a__PORTS, "times", .ref t6, rfl, rfl, kd_dct kD n6, q t6 H1 s1 (.inr u6)⟩
      | delay n =>
        refine iteFb (kd_ne (b := "delay") rfl (by decide +kernel)) ?_
        walk_at "rd"
        refine ⟨x, _, 0, _, rfl, rfl, SqT.of ex, atI_nat (j := 0) rfl, ?_⟩
        exact ⟨a__PORTS, "delay", .ref t7, rfl, rfl, kd_dct kD n7, q t7 H1 s1 (.inr u7)⟩
      | follow n =>
        refine iteFb (kd_ne (b := "follow") rfl (by decide +kernel)) ?_
        walk_at "rd"
        refine ⟨x, _, 0, _, rfl, rfl, SqT.of ex, atI_nat (j := 0) rfl, ?_⟩
        exact ⟨a__PORTS, "follow", .ref t8, rfl, rfl, kd_dct kD n8, q t8 H1 s1 (.inr u8)⟩
    · refine ⟨_, d, rfl, hd, hz, fun H1 s1 => ?_⟩
      rw [no]
      walk_at "rd"
      exact r_rs T.x_NoPart.oex T.x_NoPart.no rfl fun c H2 s2 => q c H2 (s1.trans s2)
theorem c_ports_of (T : Txt K mg w C_NoPart C_NoIns C_Worker) : CalO P w K mg base 6 "ports_of" ["part"] (spPorts K C_NoPart) :=
  T.d_ports_of.calo (fun F => ok_ports_of T F) fun _ _ _ _ _ _ us hl => match us, hl with | [_], _ => rfl
theorem sc_are_ins : FnScope ["thing", "name", "worth"] ["thing"] (defScope s_are_ins) := ⟨rfl, rfl, rfl, by decide +kernel, rfl, by decide +kernel, by decide +kernel⟩
theorem ok_are_ins (T : Txt K mg w C_NoPart C_NoIns C_Worker) (F : Fun K "_are_ins" "_are_ins" s_are_ins f fd) : FnOk P w K mg base (L2.CX P w) 4 f fd ["thing"] spAre := by
  refine F.okX sc_are_ins (fun vs H Q E h => ?_) (fun cdv A outer s H vs Q E hr h => ?_)
  · obtain ⟨d, es, rfl, hd, ⟨hl, hi⟩, q⟩ := h
    all_goals rfl
  · obtain ⟨d, es, rfl, hd, ⟨hl, hi⟩, q⟩ := h
    have nd := sc_are_ins.nd
    refine ⟨_, (pss_cons (ps_if (PW.pt (pw_or (pt_not (pt_val (pe_callB call_is2 (by rfl) T.n_isinstance (by decide +kernel) (pa_cons (pv 0) (pa_cons (pe_tyn "dict" T.n_dict (by decide +kernel)) pa_nil))))) (pw_or1 (pt_cmpR op_gt (pe_callB call_lenD (by rfl) T.n_len PySem.boot_len (pa_cons (pv 0) pa_nil)) (pe_gc T.g_MOST_INS) (nomark _))))) (pss_one (ps_ret pe_bl)) pss_nil)
        (pss_one (ps_ret (pe_callB (cr_all rfl) (by rfl) T.n_all (by decide +kernel) (pa_cons (pe_lock (pe_lc (own := [("name", 1), ("worth", 2)]) (g := (gTup K 2 (gCons (gName 1) (gCons (gName 2) gNil)))) (tt := tYes) rfl nd (pi_items (pv 0)) (blkOk_by (N := ["thing", "name", "worth"]) (sc := defScope s_are_ins) (by decide +kernel)) (fun _ _ _ _ _ => pg_tup rfl (pgs_cons (pg_name (i := 1) nd rfl (Or.inl rfl)) (pgs_cons (pg_name (i := 2) nd rfl (Or.inl rfl)) pgs_nil))) (fun _ _ _ _ _ => pts_nil) (fun _ _ _ _ _ => (pe_and (pe_o (c_is_name T) (hr.mono (by decide)) (fun _ => passS) (pa_cons (pv 1) pa_nil)) (pe_one (pe_o (c_is_worth T) (hr.mono (by decide)) (fun _ => passS) (pa_cons (pv 2) pa_nil))))))) pa_nil))))), ?_⟩
    walk_at "rd"
    refine ⟨_, "dict", true, rfl, isI_dct hd (by decide +kernel), ?_⟩
    walk_at "rd"
    refine ⟨d, _, rfl, hd, ?_⟩
    walk_at "rd"
    refine iteFb (decide_eq_false (by omega)) ?_
    walk_at "rd"
    refine ⟨d, _, hd, trivial, fun od => ?_⟩
    have e1 : upd H d (.frz od (.dK es)) d = some (.frz od (.dK es)) := upd_same
    have f1 : ∀ c u, c ≠ d → H c = some u → upd H d (.frz od (.dK es)) c = some u := fun c u n h => by rw [upd_ne n]; exact h
    generalize upd H d (.frz od (.dK es)) = H1 at e1 f1 ⊢
    refine r_lc ?_
    refine ⟨.ref d, rfl, d, od, _, rfl, e1, ?_⟩
    refine fun D hD => lc_it walk_items (fun i h => h D = some (.lst (List.replicate i (.bl true))) ∧ Same H1 h) ⟨upd_same, same_new hD⟩ (fun i h _ q => q.2 _ _ e1) (fun i x h h' hlt q y => ?_) (fun h q2 => ?_)
    · obtain ⟨t, k, v, rfl, ht, rfl, hk, hv⟩ := y
      have hlt : i < es.length := hlt
      have em := List.getElem?_eq_getElem hlt
      have hk : es[i]?.map (fun kv => kV kv.1) = some k := hk
      have hv : es[i]?.map Prod.snd = some v := hv
      rw [em] at hk hv
      obtain ⟨n, z, ekv, nb, nl, zs⟩ := hi es[i] (List.getElem_mem hlt)
      rw [ekv] at hk hv
      obtain rfl : V.str n = k := Option.some.inj hk
      obtain rfl : V.int z = v := Option.some.inj hv
      refine ⟨t, _, rfl, SqT.of upd_same, rfl, ?_⟩
      refine r_gc ?_
      walk_at "rd"
      refine r_gc ?_
      walk_at "rd"
      refine r_gn ?_
      refine ⟨rfl, r_yes (iteT ?_)⟩
      refine r_andV ?_
      walk_at "rd"
      refine ⟨_, true, rfl, .inl ⟨n, rfl, nl, nb.symm⟩, fun H3 s3 => ?_⟩
      walk_at "rd"
      refine ⟨_, true, rfl, .inl ⟨z, rfl, by rw [decide_eq_true zs.1, decide_eq_true zs.2]; rfl⟩, ?_⟩
      have tD : t ≠ D := fun z => by rw [z, q.1] at ht; cases ht
      have eD := s3 _ _ (same_new (o := .tup [.str n, .int z]) ht _ _ q.1)
      refine ⟨_, eD, by rw [List.length_replicate, sizeLine_eq]; omega, ?_, same_upd hD (q.2.trans ((same_new ht).trans s3))⟩
      rw [← List.replicate_succ']
      exact upd_same
    · have dD : D ≠ d := fun z => by rw [z, e1] at hD; cases hD
      refine ⟨q2.2 _ _ e1, ?_⟩
      walk_at "rd"
      refine ⟨D, List.replicate es.length true, rfl, SqL.of (by rw [upd_ne dD, List.map_replicate]; exact q2.1), ?_⟩
      rw [show (List.replicate es.length true).all id = true by simp]
      refine q _ fun c u hc => ?_
      by_cases z : c = d
      · subst z
        rw [hd] at hc
        cases hc
        exact upd_same
      · rw [upd_ne z]
        exact q2.2 _ _ (f1 c u z hc)
theorem c_are_ins (T : Txt K mg w C_NoPart C_NoIns C_Worker) : CalO P w K mg base 4 "_are_ins" ["thing"] spAre :=
  T.d_are_ins.calo (fun F => ok_are_ins T F) fun _ _ _ _ _ _ us hl => match us, hl with | [_], _ => rfl
theorem sc_weighed : FnScope ["factors", "worths", "total", "factor", "worth"] ["factors", "worths"] (defScope s_weighed) := ⟨rfl, rfl, rfl, by decide +kernel, rfl, by decide +kernel, by decide +kernel⟩
theorem ok_weighed (T : Txt K mg w C_NoPart C_NoIns C_Worker) (F : Fun K "_weighed" "_weighed" s_weighed f fd) : FnOk P w K mg base (L2.CX P w) 1 f fd ["factors", "worths"] (spWeigh K) := by
  refine F.okX sc_weighed (fun vs H Q E h => ?_) (fun cdv A outer s H vs Q E hr h => ?_)
  · obtain ⟨a, b, sk, fs, ws, rfl, ha, hb, hB, l1, l2, hf, q⟩ := h
    all_goals rfl
  · obtain ⟨a, b, sk, fs, ws, rfl, ha, hb, hB, l1, l2, hf, q⟩ := h
    have nd := sc_weighed.nd
    refine ⟨_, (pss_cons (ps_set (i := 2) nd rfl (Or.inl rfl) (pe_callB (cr_sum rfl) (by rfl) T.n_sum (by decide +kernel) (pa_cons (pe_lc (own := [("factor", 3), ("worth", 4)]) (g := (gTup K 2 (gCons (gName 3) (gCons (gName 4) gNil)))) (tt := tYes) rfl nd (pi_zipE (by rfl) T.n_zip (pa_cons (pv 0) (pa_cons (pv 1) pa_nil))) (blkOk_by (N := ["factors", "worths", "total", "factor", "worth"]) (sc := defScope s_weighed) (by decide +kernel)) (fun _ _ _ _ _ => pg_tup rfl (pgs_cons (pg_name (i := 3) nd rfl (Or.inl rfl)) (pgs_cons (pg_name (i := 4) nd rfl (Or.inl rfl)) pgs_nil))) (fun _ _ _ _ _ => pts_nil) (fun _ _ _ _ _ => (pe_op op_mul (pv 3) (pv 4)))) pa_nil)))
        (pss_one (ps_ret (pe_op op_fdiv (pe_op op_add (pv 2) pe_int) pe_int)))), ?_⟩
    walk_at "rd"
    refine r_lc ?_
    refine ⟨_, rfl, _, rfl, .t, sk, a, b, _, _, rfl, SqT.of ha, hb, ?_⟩
    refine lc_pr mulV (fun h s => ⟨_, _, SqT.of (s _ _ ha), hB h s, rfl⟩) (by rw [List.length_zip, List.length_map, List.length_map]; omega) (fun _ _ => rfl) (fun p hp h R s r => ?_) (fun D H2 s2 e2 => ?_)
    · obtain ⟨i, j, rfl, hi⟩ := zip_mem p hp
      obtain ⟨i0, i1⟩ := hf i hi
      walk_at "rd"
      refine r_I (show CMul _ _ from .inl ⟨by omega, by omega⟩) ?_
      exact r h (Same.refl h)
    · walk_at "rd"
      refine ⟨D, (fs.zip ws).map fun p => p.1 * p.2, rfl, SqL.of (by rw [e2, ← zip_mul]), ?_⟩
      walk_at "rd"
      exact q H2 s2
theorem c_weighed (T : Txt K mg w C_NoPart C_NoIns C_Worker) : CalO P w K mg base 1 "_weighed" ["factors", "worths"] (spWeigh K) :=
  T.d_weighed.calo (fun F => ok_weighed T F) fun _ _ _ _ _ _ us hl => match us, hl with | [_, _], _ => rfl
theorem sc_taps_step : FnScope ["part", "kept", "ins", "got", "number"] ["part", "kept", "ins"] (defScope s_taps_step) := ⟨rfl, rfl, rfl, by decide +kernel, rfl, by decide +kernel, by decide +kernel⟩
theorem ok_taps_step (T : Txt K mg w C_NoPart C_NoIns C_Worker) (F : Fun K "_taps_step" "_taps_step" s_taps_step f fd) : FnOk P w K mg base (L2.CX P w) 5 f fd ["part", "kept", "ins"] (spStep K (fun p => ∃ fs m, p = .taps fs m)) := by
  refine F.okX sc_taps_step (fun vs H Q E h => ?_) (fun cdv A outer s H vs Q E hr h => ?_)
  · obtain ⟨x, k, d, p, kp, es, rfl, ⟨fs, m, rfl⟩, hx, ok, hk, hf, hd, hi, q⟩ := h
    all_goals rfl
  · obtain ⟨x, k, d, p, kp, es, rfl, ⟨fs, m, rfl⟩, hx, ok, hk, hf, hd, hi, q⟩ := h
    have nd := sc_taps_step.nd
    refine ⟨_, (pss_cons (ps_set (i := 3) nd rfl (Or.inl rfl) (pe_op op_catA (pe_tup (pa_cons (pe_dget2 (Nat.lt_of_le_of_lt (Nat.add_le_add_left (by decide : 1 ≤ 64) _) hr.units) (pv 2) pe_str pe_int ⟨rfl, rfl, rfl, rfl⟩) pa_nil)) (pe_ix ix_tup (pv 1) pe_int (fun _ _ => rfl))))
        (pss_cons (ps_set (i := 4) nd rfl (Or.inl rfl) (pe_o (c_weighed T) (hr.mono (by decide)) (fun _ => passS) (pa_cons (pe_ix ix_tup (pv 0) pe_int (fun _ _ => rfl)) (pa_cons (pv 3) pa_nil))))
        (pss_one (ps_ret (pe_tup (pa_cons (pe_o (c_folded T) (hr.mono (by decide)) (fun _ => passS) (pa_cons (pv 4) (pa_cons (pe_ix ix_tup (pv 0) pe_int (fun _ _ => rfl)) pa_nil))) (pa_cons (pe_tup (pa_cons (pe_slice sl_tupA (pv 3) po_none (po_some (pe_un un_neg pe_int))) pa_nil)) (pa_cons (pe_o (c_is_folded T) (hr.mono (by decide)) (fun _ => passS) (pa_cons (pv 4) (pa_cons (pe_ix ix_tup (pv 0) pe_int (fun _ _ => rfl)) pa_nil))) pa_nil)))))))), ?_⟩
    walk_at "rd"
    obtain ⟨xs, rfl⟩ : ∃ xs, kp = .line xs := by cases kp <;> first | exact ⟨_, rfl⟩ | exact hf.elim
    obtain ⟨f1, hx, hfs⟩ := hx
    obtain ⟨t, hk, ht⟩ := hk
    obtain ⟨hl, hw⟩ := hf
    obtain ⟨⟨o1, o2, o3⟩, om⟩ := ok
    refine r_port rfl hd hi ?_
    show tNil _ _ _
    walk_at "rd"
    refine newT rfl fun g1 H1 _ s1 e1 => ?_
    walk_at "rd"
    refine ⟨k, _, 0, _, rfl, rfl, SqT.of (s1 _ _ hk), rfl, ?_⟩
    refine r_catT e1 (s1 _ _ ht) (by rw [List.length_map]; simp only [List.length_singleton]; omega) fun g2 H2 s2 e2 => ?_
    have e2 : H2 g2 = some (.tup ((insG es "in" :: xs).map V.int)) := e2
    have sx := s1.trans s2
    walk_at "rd"
    refine ⟨x, _, 1, _, rfl, rfl, SqT.of (sx _ _ hx), rfl, ?_⟩
    walk_at "rd"
    refine ⟨f1, g2, .t, fs, insG es "in" :: xs, rfl, sx _ _ hfs, SqT.of e2, fun H' s => SqT.of (s _ _ e2), o2, by simp only [List.length_cons]; omega, o3, fun H3 s3 => ?_⟩
    have sy := sx.trans s3
    walk_at "rd"
    refine ⟨x, _, 2, _, rfl, rfl, SqT.of (sy _ _ hx), rfl, ?_⟩
    walk_at "rd"
    refine ⟨_, m, rfl, om, ?_⟩
    walk_at "rd"
    refine r_slA (s3 _ _ e2) fun g3 H4 s4 e4 => ?_
    rw [cut_last (by simp), ← List.map_dropLast] at e4
    walk_at "rd"
    refine newT rfl fun k2 H5 _ s5 e5 => ?_
    have sz := sy.trans (s4.trans s5)
    walk_at "rd"
    refine ⟨x, _, 2, _, rfl, rfl, SqT.of (sz _ _ hx), rfl, ?_⟩
    walk_at "rd"
    refine ⟨_, m, rfl, om, ?_⟩
    walk_at "rd"
    exact newT rfl fun r H6 _ s6 e6 => q r k2 H6 (sz.trans s6) ⟨g3, s6 _ _ e5, s6 _ _ (s5 _ _ e4)⟩ e6
theorem c_taps_step (T : Txt K mg w C_NoPart C_NoIns C_Worker) : CalO P w K mg base 5 "_taps_step" ["part", "kept", "ins"] (spStep K (fun p => ∃ fs m, p = .taps fs m)) :=
  T.d_taps_step.calo (fun F => ok_taps_step T F) fun _ _ _ _ _ _ us hl => match us, hl with | [_, _, _], _ => rfl
theorem sc_mix_step : FnScope ["part", "kept", "ins", "number", "port"] ["part", "kept", "ins"] (defScope s_mix_step) := ⟨rfl, rfl, rfl, by decide +kernel, rfl, by decide +kernel, by decide +kernel⟩
theorem ok_mix_step (T : Txt K mg w C_NoPart C_NoIns C_Worker) (F : Fun K "_mix_step" "_mix_step" s_mix_step f fd) : FnOk P w K mg base (L2.CX P w) 7 f fd ["part", "kept", "ins"] (spStep K (fun p => ∃ fs m, p = .mix fs m)) := by
  refine F.okX sc_mix_step (fun vs H Q E h => ?_) (fun cdv A outer s H vs Q E hr h => ?_)
  · obtain ⟨x, k, d, p, kp, es, rfl, ⟨fs, m, rfl⟩, hx, ok, hk, hf, hd, hi, q⟩ := h
    all_goals rfl
  · obtain ⟨x, k, d, p, kp, es, rfl, ⟨fs, m, rfl⟩, hx, ok, hk, hf, hd, hi, q⟩ := h
    have nd := sc_mix_step.nd
    refine ⟨_, (pss_cons (ps_set (i := 3) nd rfl (Or.inl rfl) (pe_o (c_weighed T) (hr.mono (by decide)) (fun _ => passS) (pa_cons (pe_ix ix_tup (pv 0) pe_int (fun _ _ => rfl)) (pa_cons (pe_lc (own := [("port", 4)]) (g := gName 4) (tt := tYes) rfl nd (pi_tup (pe_o (c_ports_of T) (hr.mono (by decide)) (fun _ => passS) (pa_cons (pv 0) pa_nil))) (blkOk_by (N := ["part", "kept", "ins", "number", "port"]) (sc := defScope s_mix_step) (by decide +kernel)) (fun _ _ _ _ _ => pg_name (i := 4) nd rfl (Or.inl rfl)) (fun _ _ _ _ _ => pts_nil) (fun _ _ _ _ _ => (pe_dget2 (Nat.lt_of_le_of_lt (Nat.add_le_add_left (by decide : 1 ≤ 64) _) hr.units) (pv 2) (pv 4) pe_int ⟨rfl, rfl, rfl, rfl⟩))) pa_nil))))
        (pss_one (ps_ret (pe_tup (pa_cons (pe_o (c_folded T) (hr.mono (by decide)) (fun _ => passS) (pa_cons (pv 3) (pa_cons (pe_ix ix_tup (pv 0) pe_int (fun _ _ => rfl)) pa_nil))) (pa_cons (pv 1) (pa_cons (pe_o (c_is_folded T) (hr.mono (by decide)) (fun _ => passS) (pa_cons (pv 3) (pa_cons (pe_ix ix_tup (pv 0) pe_int (fun _ _ => rfl)) pa_nil))) pa_nil))))))), ?_⟩
    walk_at "rd"
    obtain rfl : kp = .none := by cases kp <;> first | rfl | exact hf.elim
    have hx0 := hx
    obtain ⟨f1, hx, hfs⟩ := hx
    have ok0 := ok
    obtain ⟨⟨o1, o2, o3⟩, om⟩ := ok
    refine ⟨x, _, 1, _, rfl, rfl, SqT.of hx, rfl, ?_⟩
    walk_at "rd"
    refine r_lc ?_
    refine r_iTup ?_
    walk_at "rd"
    refine ⟨_, rfl, .inl ⟨x, _, rfl, hx0, ok0, fun t H1 s1 e1 => ?_⟩⟩
    refine ⟨t, rfl, ⟨_, e1.sq⟩, ?_⟩
    have hz : (portsN fs.length).length ≤ 4 := by
      unfold portsN
      rw [List.length_take]
      exact Nat.min_le_right _ _
    refine lc_tp (xs := (portsN fs.length).map V.str) (fun D i h => h D = some (.lst (((portsN fs.length).take i).map fun z => .int (insG es z))) ∧ Same H1 h) (fun D hD => ⟨upd_same, same_new hD⟩) (fun D hD i h _ q => (e1.same q.2).sq) (fun D hD i y h hy z => ?_) (fun D hD h z => ?_)
    · obtain ⟨e2, s2⟩ := z
      rw [List.getElem?_map] at hy
      cases ez : (portsN fs.length)[i]? with
      | none => rw [ez] at hy; cases hy
      | some z =>
        rw [ez] at hy
        obtain rfl : V.str z = y := Option.some.inj hy
        walk_at "rd"
        refine ⟨rfl, r_yes (iteT ?_)⟩
        refine r_portE (z := z) rfl ((s1.trans s2) _ _ hd) hi (fun R r => r_var rfl r) ?_
        refine ⟨_, e2, ?_, ?_, same_upd hD s2⟩
        · rw [List.length_map, List.length_take, sizeLine_eq]
          omega
        · rw [upd_same, take_map_next ez]
    · obtain ⟨e2, s2⟩ := z
      rw [List.length_map, List.take_length] at e2
      have e2 : h D = some (.lst (((portsN fs.length).map (insG es)).map V.int)) := by rw [e2, List.map_map]; rfl
      have sx := s1.trans s2
      walk_at "rd"
      refine ⟨f1, D, .l, fs, (portsN fs.length).map (insG es), rfl, sx _ _ hfs, SqL.of e2, fun H' s => SqL.of (s _ _ e2), by omega, by rw [List.length_map]; omega, o3, fun H3 s3 => ?_⟩
      have sy := sx.trans s3
      walk_at "rd"
      refine ⟨x, _, 2, _, rfl, rfl, SqT.of (sy _ _ hx), rfl, ?_⟩
      walk_at "rd"
      refine ⟨_, m, rfl, om, ?_⟩
      walk_at "rd"
      refine ⟨x, _, 2, _, rfl, rfl, SqT.of (sy _ _ hx), rfl, ?_⟩
      walk_at "rd"
      refine ⟨_, m, rfl, om, ?_⟩
      walk_at "rd"
      exact newT rfl fun r H6 _ s6 e6 => q r k H6 (sy.trans s6) (hk.same (sy.trans s6)) e6
theorem c_mix_step (T : Txt K mg w C_NoPart C_NoIns C_Worker) : CalO P w K mg base 7 "_mix_step" ["part", "kept", "ins"] (spStep K (fun p => ∃ fs m, p = .mix fs m)) :=
  T.d_mix_step.calo (fun F => ok_mix_step T F) fun _ _ _ _ _ _ us hl => match us, hl with | [_, _, _], _ => rfl
theorem sc_times_step : FnScope ["part", "kept", "ins", "number"] ["part", "kept", "ins"] (defScope s_times_step) := ⟨rfl, rfl, rfl, by decide +kernel, rfl, by decide +kernel, by decide +kernel⟩
theorem ok_times_step (T : Txt K mg w C_NoPart C_NoIns C_Worker) (F : Fun K "_times_step" "_times_step" s_times_step f fd) : FnOk P w K mg base (L2.CX P w) 5 f fd ["part", "kept", "ins"] (spStep K (fun p => ∃ m, p = .times m)) := by
  refine F.okX sc_times_step (fun vs H Q E h => ?_) (fun cdv A outer s H vs Q E hr h => ?_)
  · obtain ⟨x, k, d, p, kp, es, rfl, ⟨m, rfl⟩, hx, ok, hk, hf, hd, hi, q⟩ := h
    all_goals rfl
  · obtain ⟨x, k, d, p, kp, es, rfl, ⟨m, rfl⟩, hx, ok, hk, hf, hd, hi, q⟩ := h
    have nd := sc_times_step.nd
    refine ⟨_, (pss_cons (ps_set (i := 3) nd rfl (Or.inl rfl) (pe_op op_fdiv (pe_op op_add (pe_op op_mul (pe_dget2 (Nat.lt_of_le_of_lt (Nat.add_le_add_left (by decide : 1 ≤ 64) _) hr.units) (pv 2) pe_str pe_int ⟨rfl, rfl, rfl, rfl⟩) (pe_dget2 (Nat.lt_of_le_of_lt (Nat.add_le_add_left (by decide : 1 ≤ 64) _) hr.units) (pv 2) pe_str pe_int ⟨rfl, rfl, rfl, rfl⟩)) pe_int) pe_int))
        (pss_one (ps_ret (pe_tup (pa_cons (pe_o (c_folded T) (hr.mono (by decide)) (fun _ => passS) (pa_cons (pv 3) (pa_cons (pe_ix ix_tup (pv 0) pe_int (fun _ _ => rfl)) pa_nil))) (pa_cons (pv 1) (pa_cons (pe_o (c_is_folded T) (hr.mono (by decide)) (fun _ => passS) (pa_cons (pv 3) (pa_cons (pe_ix ix_tup (pv 0) pe_int (fun _ _ => rfl)) pa_nil))) pa_nil))))))), ?_⟩
    walk_at "rd"
    obtain rfl : kp = .none := by cases kp <;> first | rfl | exact hf.elim
    refine r_port rfl hd hi ?_
    refine r_port rfl hd hi ?_
    have ga := insG_small hi "a"
    have gb := insG_small hi "b"
    refine r_I (show CMul _ _ from .inl ⟨by have := ga.1; omega, by have := ga.2; omega⟩) ?_
    walk_at "rd"
    refine ⟨x, _, 1, _, rfl, rfl, SqT.of hx, rfl, ?_⟩
    walk_at "rd"
    refine ⟨_, m, rfl, ok, ?_⟩
    walk_at "rd"
    refine ⟨x, _, 1, _, rfl, rfl, SqT.of hx, rfl, ?_⟩
    walk_at "rd"
    refine ⟨_, m, rfl, ok, ?_⟩
    walk_at "rd"
    exact newT rfl fun r H6 _ s6 e6 => q r k H6 s6 (hk.same s6) e6
theorem c_times_step (T : Txt K mg w C_NoPart C_NoIns C_Worker) : CalO P w K mg base 5 "_times_step" ["part", "kept", "ins"] (spStep K (fun p => ∃ m, p = .times m)) :=
  T.d_times_step.calo (fun F => ok_times_step T F) fun _ _ _ _ _ _ us hl => match us, hl with | [_, _, _], _ => rfl
theorem sc_delay_step : FnScope ["part", "kept", "ins", "line"] ["part", "kept", "ins"] (defScope s_delay_step) := ⟨rfl, rfl, rfl, by decide +kernel, rfl, by decide +kernel, by decide +kernel⟩
theorem ok_delay_step (T : Txt K mg w C_NoPart C_NoIns C_Worker) (F : Fun K "_delay_step" "_delay_step" s_delay_step f fd) : FnOk P w K mg base (L2.CX P w) 5 f fd ["part", "kept", "ins"] (spStep K (fun p => ∃ n, p = .delay n)) := by
  refine F.okX sc_delay_step (fun vs H Q E h => ?_) (fun cdv A outer s H vs Q E hr h => ?_)
  · obtain ⟨x, k, d, p, kp, es, rfl, ⟨n, rfl⟩, hx, ok, hk, hf, hd, hi, q⟩ := h
    all_goals rfl
  · obtain ⟨x, k, d, p, kp, es, rfl, ⟨n, rfl⟩, hx, ok, hk, hf, hd, hi, q⟩ := h
    have nd := sc_delay_step.nd
    refine ⟨_, (pss_cons (ps_set (i := 3) nd rfl (Or.inl rfl) (pe_ix ix_tup (pv 1) pe_int (fun _ _ => rfl)))
        (pss_one (ps_ret (pe_tup (pa_cons (pe_ix ix_tup (pv 3) pe_int (fun _ _ => rfl)) (pa_cons (pe_tup (pa_cons (pe_op op_catA (pe_slice sl_tupA (pv 3) (po_some pe_int) po_none) (pe_tup (pa_cons (pe_dget2 (Nat.lt_of_le_of_lt (Nat.add_le_add_left (by decide : 1 ≤ 64) _) hr.units) (pv 2) pe_str pe_int ⟨rfl, rfl, rfl, rfl⟩) pa_nil))) pa_nil)) (pa_cons pe_bl pa_nil))))))), ?_⟩
    walk_at "rd"
    obtain ⟨xs, rfl⟩ : ∃ xs, kp = .line xs := by cases kp <;> first | exact ⟨_, rfl⟩ | exact hf.elim
    obtain ⟨t, hk, ht⟩ := hk
    obtain ⟨hl, hw⟩ := hf
    obtain ⟨o1, o2⟩ := ok
    have ne : xs ≠ [] := fun z => by subst z; simp at hl; omega
    obtain ⟨a, rs, rfl⟩ := List.exists_cons_of_ne_nil ne
    refine ⟨k, _, 0, _, rfl, rfl, SqT.of hk, rfl, ?_⟩
    walk_at "rd"
    refine ⟨t, _, 0, _, rfl, rfl, SqT.of ht, atI_nat (j := 0) rfl, ?_⟩
    walk_at "rd"
    refine r_slA ht fun g1 H1 s1 e1 => ?_
    rw [cut_tail (by simp)] at e1
    have e1 : H1 g1 = some (.tup (rs.map V.int)) := e1
    walk_at "rd"
    refine r_port rfl (s1 _ _ hd) hi ?_
    show tNil _ _ _
    walk_at "rd"
    refine newT rfl fun g2 H2 _ s2 e2 => ?_
    refine r_catT (s2 _ _ e1) e2 (by simp only [List.length_map, List.length_cons, List.length_nil] at hl ⊢; omega) fun g3 H3 s3 e3 => ?_
    walk_at "rd"
    refine newT rfl fun k2 H4 _ s4 e4 => ?_
    walk_at "rd"
    refine newT rfl fun r H5 _ s5 e5 => q r k2 H5 (s1.trans (s2.trans (s3.trans (s4.trans s5)))) ⟨g3, s5 _ _ e4, ?_⟩ e5
    rw [s5 _ _ (s4 _ _ e3)]
    show some (HO.tup _) = some (HO.tup ((rs ++ [insG es "in"]).map V.int))
    rw [List.map_append]
    rfl
theorem c_delay_step (T : Txt K mg w C_NoPart C_NoIns C_Worker) : CalO P w K mg base 5 "_delay_step" ["part", "kept", "ins"] (spStep K (fun p => ∃ n, p = .delay n)) :=
  T.d_delay_step.calo (fun F => ok_delay_step T F) fun _ _ _ _ _ _ us hl => match us, hl with | [_, _, _], _ => rfl
theorem sc_follow_step : FnScope ["part", "kept", "ins", "loud", "level"] ["part", "kept", "ins"] (defScope s_follow_step) := ⟨rfl, rfl, rfl, by decide +kernel, rfl, by decide +kernel, by decide +kernel⟩
theorem ok_follow_step (T : Txt K mg w C_NoPart C_NoIns C_Worker) (F : Fun K "_follow_step" "_follow_step" s_follow_step f fd) : FnOk P w K mg base (L2.CX P w) 1 f fd ["part", "kept", "ins"] (spStep K (fun p => ∃ s, p = .follow s)) := by
  refine F.okX sc_follow_step (fun vs H Q E h => ?_) (fun cdv A outer s H vs Q E hr h => ?_)
  · obtain ⟨x, k, d, p, kp, es, rfl, ⟨s', rfl⟩, hx, ok, hk, hf, hd, hi, q⟩ := h
    all_goals rfl
  · obtain ⟨x, k, d, p, kp, es, rfl, ⟨s', rfl⟩, hx, ok, hk, hf, hd, hi, q⟩ := h
    have nd := sc_follow_step.nd
    refine ⟨_, (pss_cons (ps_set (i := 3) nd rfl (Or.inl rfl) (pe_callB (call_min2 rfl) (by rfl) T.n_min (by decide +kernel) (pa_cons (pe_gc T.g_TOP) (pa_cons (pe_callB call_abs (by rfl) T.n_abs (by decide +kernel) (pa_cons (pe_dget2 (Nat.lt_of_le_of_lt (Nat.add_le_add_left (by decide : 1 ≤ 64) _) hr.units) (pv 2) pe_str pe_int ⟨rfl, rfl, rfl, rfl⟩) pa_nil)) pa_nil))))
        (pss_cons (ps_set (i := 4) nd rfl (Or.inl rfl) (pe_callB (call_max3Nu rfl) (by rfl) T.n_max (by decide +kernel) (pa_cons (pv 3) (pa_cons (pe_op op_sub (pe_ix ix_tup (pv 1) pe_int (fun _ _ => rfl)) (pe_ix ix_tup (pv 0) pe_int (fun _ _ => rfl))) (pa_cons pe_int pa_nil)))))
        (pss_one (ps_ret (pe_tup (pa_cons (pv 4) (pa_cons (pe_tup (pa_cons (pv 4) pa_nil)) (pa_cons pe_bl pa_nil)))))))), ?_⟩
    walk_at "rd"
    obtain ⟨lv, rfl⟩ : ∃ lv, kp = .one lv := by cases kp <;> first | exact ⟨_, rfl⟩ | exact hf.elim
    refine r_port rfl hd hi ?_
    show tNil _ _ _
    walk_at "rd"
    refine ⟨_, rfl, ?_⟩
    walk_at "rd"
    refine ⟨_, _, rfl, ?_⟩
    walk_at "rd"
    have e : (if (if insG es "in" < 0 then -insG es "in" else insG es "in") < 2047 then (if insG es "in" < 0 then -insG es "in" else insG es "in") else 2047) = min 2047 ((insG es "in").natAbs : Int) := by split <;> split <;> omega
    rw [e]
    refine ⟨k, _, 0, _, rfl, rfl, Tp.sq hk, rfl, ?_⟩
    walk_at "rd"
    refine ⟨x, _, 1, _, rfl, rfl, SqT.of hx, rfl, ?_⟩
    walk_at "rd"
    refine ⟨_, _, _, _, rfl, nu_max3, ?_⟩
    walk_at "rd"
    refine newT rfl fun k2 H1 _ s1 e1 => ?_
    walk_at "rd"
    exact newT rfl fun r H2 _ s2 e2 => q r k2 H2 (s1.trans s2) (.inl (s2 _ _ e1)) e2
theorem c_follow_step (T : Txt K mg w C_NoPart C_NoIns C_Worker) : CalO P w K mg base 1 "_follow_step" ["part", "kept", "ins"] (spStep K (fun p => ∃ s, p = .follow s)) :=
  T.d_follow_step.calo (fun F => ok_follow_step T F) fun _ _ _ _ _ _ us hl => match us, hl with | [_, _, _], _ => rfl
end
end KB
set_option linter.all false
set_option maxRecDepth 100000
set_option maxHeartbeats 4000000
namespace KB
open PySem PySem.Spec PyProof.Rows L2 Gx
local macro_rules | `(tactic| walk_at "rd1") => `(tactic| with_reducible first
  | refine r_var rfl ?_ | refine r_c ?_ | refine r_op ?_ | refine r_un ?_ | refine r_I0 ?_ | refine r_neg ?_ | refine r_test ?_ | refine r_B ?_ | refine r_bl ?_ | refine r_blx ?_
  | refine r_seq ?_ | refine r_ret ?_ | refine r_asg ?_ | refine r_name ?_ | refine r_gsub ?_ | refine r_if ?_ | refine r_next ?_ | refine r_drop ?_ | refine r_cb ?_ | refine r_nil ?_ | refine r_cons ?_
  | refine r_g ?_ | refine r_k ?_ | refine r_lstN ?_ | refine r_tupN ?_ | refine r_notV ?_ | refine r_ifE ?_ | refine r_and ?_ | refine r_or ?_ | refine r_not ?_ | refine r_chain ?_
  | refine r_sl ?_ | refine r_part ?_ | refine r_nop ?_ | refine r_par3 ?_ | refine r_is3 ?_ | refine r_par2 ?_ | refine r_is2 ?_ | refine r_m0 ?_ | refine r_ei ?_ | refine r_nx ?_ | refine r_rt ?_ | refine r_ct ?_ | refine r_eq rfl ?_ | refine r_ne rfl ?_ | refine iteT ?_ | refine iteF ?_ | refine iteNF ?_ | refine iteNT ?_
  | (refine r_fdivK ?hc ?_; (case hc => decide +kernel)) | (refine r_modK ?hc ?_; (case hc => decide +kernel)) | (refine r_mulL ?hc ?_; (case hc => decide +kernel)) | (refine r_mulR ?hc ?_; (case hc => decide +kernel)) | (refine r_powK ?hc ?_; (case hc => decide +kernel)) | fail "no step")
local macro_rules | `(tactic| walk_at "rd") => `(tactic| repeat' walk_at "rd1")
section
variable {P : Program} {w : World} {K : PySem.W.Frag} {mg : Str → Option Value} {base : Heap} {f : Addr} {fd : FuncData} {C_NoPart C_NoIns C_Worker : Addr}
/-! ### Worker -/
theorem sc_Worker_init : FnScope ["self", "part"] ["self", "part"] (defScope s_Worker_init) := ⟨rfl, rfl, rfl, by decide +kernel, rfl, by decide +kernel, by decide +kernel⟩
theorem ok_Worker_init (T : Txt K mg w C_NoPart C_NoIns C_Worker) (F : Fun K "__init__" "Worker.__init__" s_Worker_init f fd) : FnOk P w K mg base (L2.CX P w) 6 f fd ["self", "part"] (spInit K C_Worker C_NoPart) := by
  refine F.okX sc_Worker_init (fun vs H Q E h => ?_) (fun cdv A outer s H vs Q E hr h => ?_)
  · obtain ⟨a, dx, v, rfl, ha, h⟩ := h
    all_goals rfl
  · obtain ⟨a, dx, v, rfl, ha, h⟩ := h
    have nd := sc_Worker_init.nd
    refine ⟨_, (pss_cons (ps_if (pt_not (pt_val (pe_o (c_is_part T) (hr.mono (by decide)) (fun _ => passS) (pa_cons (pv 1) pa_nil)))) (pss_one (ps_rs T.x_NoPart (ok_init_NoPart T) b_init_NoPart (hr.mono (by decide)) rfl (takes_of rfl rfl rfl rfl) rfl (pa_cons (pv 1) pa_nil))) pss_nil)
        (pss_cons (ps_fld (pv 0) (pv 1) rfl)
        (pss_cons (ps_fld (pv 0) (pe_o (c_kept_at_first T) (hr.mono (by decide)) (fun _ => passS) (pa_cons (pv 1) pa_nil)) rfl)
        (pss_one (ps_fld (pv 0) pe_bl rfl))))), ?_⟩
    walk_at "rd"
    rcases h with ⟨x, p, rfl, hx, ok, q⟩ | ⟨d, hd, hz, no, q⟩
    · refine ⟨_, _, rfl, hx.dt, Prt.txt ok, fun H1 s1 => ?_⟩
      rw [Prt.part ok]
      have c1 := (Chg.of (l := [a]) s1).trans (Chg.upd (s1 _ _ ha) (o := .ins C_Worker dx [("_part", .ref x)]) fun _ z => nomatch z)
      walk_at "rd"
      refine r_sfld ?_
      walk_at "rd"
      refine ⟨a, C_Worker, dx, _, rfl, s1 _ _ ha, T.cl_Worker, T.na_Worker__part, Nat.le_of_ble_eq_true rfl, ?_⟩
      walk_at "rd"
      refine r_sfld ?_
      walk_at "rd"
      refine ⟨x, p, rfl, hx.chg c1, ok, fun k H2 s2 hk => ?_⟩
      walk_at "rd"
      refine ⟨a, C_Worker, dx, _, rfl, s2 _ _ upd_same, T.cl_Worker, T.na_Worker__kept, Nat.le_of_ble_eq_true rfl, ?_⟩
      have c2 := (c1.same' s2).trans (Chg.upd (s2 _ _ upd_same) (o := .ins C_Worker dx [("_part", .ref x), ("_kept", .ref k)]) fun _ z => nomatch z)
      have k2 := hk.chg (Chg.upd (s2 _ _ upd_same) (o := .ins C_Worker dx [("_part", .ref x), ("_kept", .ref k)]) fun _ z => nomatch z)
      walk_at "rd"
      refine r_sfld ?_
      walk_at "rd"
      refine ⟨a, C_Worker, dx, _, rfl, upd_same, T.cl_Worker, T.na_Worker__folded_last, Nat.le_of_ble_eq_true rfl, ?_⟩
      have c3 := Chg.upd (upd_same (H := H2) (a := a) (o := .ins C_Worker dx [("_part", .ref x), ("_kept", .ref k)])) (o := .ins C_Worker dx (wf x k false)) fun _ z => nomatch z
      walk_at "rd"
      exact q k _ (c2.trans c3) ⟨upd_same, hx.chg (c2.trans c3), ok, k2.chg c3, first_fits ok⟩
    · refine ⟨_, d, rfl, hd, hz, fun H1 s1 => ?_⟩
      rw [no]
      walk_at "rd"
      exact r_rs T.x_NoPart.oex T.x_NoPart.no rfl fun c H2 s2 => q c H2 (s1.trans s2)
theorem b_Worker_init : ∀ (kV doc pm : Value) (an : Option Addr) (cdv ct : Value) (us : List Value), us.length = (["self", "part"] : List Str).length → bindArgs (PySem.W.fnOf "__init__" "Worker.__init__" (defArgs s_Worker_init) (defBody s_Worker_init) (defScope s_Worker_init) .none kV doc pm an cdv ct) ⟨us, []⟩ = pure ((["self", "part"] : List Str).zip us) :=
  fun _ _ _ _ _ _ us hl => match us, hl with | [_, _], _ => rfl
theorem sc_Worker_part : FnScope ["self"] ["self"] (defScope s_Worker_part) := ⟨rfl, rfl, rfl, by decide +kernel, rfl, by decide +kernel, by decide +kernel⟩
theorem ok_Worker_part (T : Txt K mg w C_NoPart C_NoIns C_Worker) (F : Fun K "part" "Worker.part" s_Worker_part f fd) : FnOk P w K mg base (L2.CX P w) 1 f fd ["self"] (spPartM K C_Worker) := by
  refine F.okX sc_Worker_part (fun vs H Q E h => ?_) (fun cdv A outer s H vs Q E hr h => ?_)
  · obtain ⟨a, dx, x, k, p, kp, b, rfl, W, q⟩ := h
    all_goals rfl
  · obtain ⟨a, dx, x, k, p, kp, b, rfl, W, q⟩ := h
    have nd := sc_Worker_part.nd
    refine ⟨_, (pss_one (ps_ret (pe_fld (pv 0) rfl))), ?_⟩
    walk_at "rd"
    refine r_tfld ?_
    walk_at "rd"
    exact ⟨a, C_Worker, dx, _, _, rfl, W.at_, T.cl_Worker, T.na_Worker__part, rfl, q⟩
theorem b_Worker_part : ∀ (kV doc pm : Value) (an : Option Addr) (cdv ct : Value) (us : List Value), us.length = (["self"] : List Str).length → bindArgs (PySem.W.fnOf "part" "Worker.part" (defArgs s_Worker_part) (defBody s_Worker_part) (defScope s_Worker_part) .none kV doc pm an cdv ct) ⟨us, []⟩ = pure ((["self"] : List Str).zip us) :=
  fun _ _ _ _ _ _ us hl => match us, hl with | [_], _ => rfl
theorem sc_Worker_was_folded : FnScope ["self"] ["self"] (defScope s_Worker_was_folded) := ⟨rfl, rfl, rfl, by decide +kernel, rfl, by decide +kernel, by decide +kernel⟩
theorem ok_Worker_was_folded (T : Txt K mg w C_NoPart C_NoIns C_Worker) (F : Fun K "was_folded" "Worker.was_folded" s_Worker_was_folded f fd) : FnOk P w K mg base (L2.CX P w) 1 f fd ["self"] (spFolded K C_Worker) := by
  refine F.okX sc_Worker_was_folded (fun vs H Q E h => ?_) (fun cdv A outer s H vs Q E hr h => ?_)
  · obtain ⟨a, dx, x, k, p, kp, b, rfl, W, q⟩ := h
    all_goals rfl
  · obtain ⟨a, dx, x, k, p, kp, b, rfl, W, q⟩ := h
    have nd := sc_Worker_was_folded.nd
    refine ⟨_, (pss_one (ps_ret (pe_fld (pv 0) rfl))), ?_⟩
    walk_at "rd"
    refine r_tfld ?_
    walk_at "rd"
    exact ⟨a, C_Worker, dx, _, _, rfl, W.at_, T.cl_Worker, T.na_Worker__folded_last, rfl, q⟩
theorem b_Worker_was_folded : ∀ (kV doc pm : Value) (an : Option Addr) (cdv ct : Value) (us : List Value), us.length = (["self"] : List Str).length → bindArgs (PySem.W.fnOf "was_folded" "Worker.was_folded" (defArgs s_Worker_was_folded) (defBody s_Worker_was_folded) (defScope s_Worker_was_folded) .none kV doc pm an cdv ct) ⟨us, []⟩ = pure ((["self"] : List Str).zip us) :=
  fun _ _ _ _ _ _ us hl => match us, hl with | [_], _ => rfl
theorem sc_Worker_stands : FnScope ["self"] ["self"] (defScope s_Worker_stands) := ⟨rfl, rfl, rfl, by decide +kernel, rfl, by decide +kernel, by decide +kernel⟩
theorem ok_Worker_stands (T : Txt K mg w C_NoPart C_NoIns C_Worker) (F : Fun K "stands" "Worker.stands" s_Worker_stands f fd) : FnOk P w K mg base (L2.CX P w) 1 f fd ["self"] (spStandsM K C_Worker) := by
  refine F.okX sc_Worker_stands (fun vs H Q E h => ?_) (fun cdv A outer s H vs Q E hr h => ?_)
  · obtain ⟨a, dx, x, k, p, kp, b, rfl, W, q⟩ := h
    all_goals rfl
  · obtain ⟨a, dx, x, k, p, kp, b, rfl, W, q⟩ := h
    have nd := sc_Worker_stands.nd
    refine ⟨_, (pss_one (ps_ret (pe_op op_catA (pe_tup (pa_cons (pe_fld (pv 0) rfl) pa_nil)) (pe_fld (pv 0) rfl)))), ?_⟩
    walk_at "rd"
    refine r_tfld ?_
    walk_at "rd"
    refine ⟨a, C_Worker, dx, _, _, rfl, W.at_, T.cl_Worker, T.na_Worker__part, rfl, ?_⟩
    walk_at "rd"
    refine newT rfl fun t H1 _ s1 e1 => ?_
    walk_at "rd"
    refine r_tfld ?_
    walk_at "rd"
    refine ⟨a, C_Worker, dx, _, _, rfl, s1 _ _ W.at_, T.cl_Worker, T.na_Worker__kept, rfl, ?_⟩
    obtain ⟨xs, hk, hi, hl⟩ := W.kept.items
    refine ⟨t, k, _, _, rfl, rfl, SqT.of e1, (hk.same s1).sq, (by rw [sizeLine_eq]; simp only [List.length_singleton]; omega), (fun e => nomatch e), (fun _ e => ?_), fun _ _ t2 ht2 => ?_⟩
    · subst e
      exact q t [] H1 s1 e1 (hi.same s1)
    · have s2 := s1.trans (same_new (o := .tup ([V.ref x] ++ xs)) ht2)
      exact q t2 xs _ s2 upd_same (hi.same s2)
theorem b_Worker_stands : ∀ (kV doc pm : Value) (an : Option Addr) (cdv ct : Value) (us : List Value), us.length = (["self"] : List Str).length → bindArgs (PySem.W.fnOf "stands" "Worker.stands" (defArgs s_Worker_stands) (defBody s_Worker_stands) (defScope s_Worker_stands) .none kV doc pm an cdv ct) ⟨us, []⟩ = pure ((["self"] : List Str).zip us) :=
  fun _ _ _ _ _ _ us hl => match us, hl with | [_], _ => rfl
theorem sc_Worker_sample : FnScope ["self", "ins", "step", "worth"] ["self", "ins"] (defScope s_Worker_sample) := ⟨rfl, rfl, rfl, by decide +kernel, rfl, by decide +kernel, by decide +kernel⟩
theorem ok_Worker_sample (T : Txt K mg w C_NoPart C_NoIns C_Worker) (F : Fun K "sample" "Worker.sample" s_Worker_sample f fd) : FnOk P w K mg base (L2.CX P w) 8 f fd ["self", "ins"] (spSample K C_Worker) := by
  obtain ⟨a__STEPS, g__STEPS, des, den, kD, ks, ⟨f0, n0, m0⟩, ⟨f1, n1, m1⟩, ⟨f2, n2, m2⟩, ⟨f3, n3, m3⟩, ⟨f4, n4, m4⟩, ⟨f5, n5, m5⟩, ⟨f6, n6, m6⟩, ⟨f7, n7, m7⟩, ⟨f8, n8, m8⟩, ⟨f9, n9, m9⟩, -⟩ := T.g__STEPS
  have up : ∀ {x : Str} {ps : List Str} {sp : Sp} {a : Addr} {j : Nat}, j ≤ 7 → CalO P w K mg base j x ps sp → mg x = some (.ref a) → ∃ fd ps, FnOk P w K mg base (L2.CX P w) 7 a fd ps sp ∧ PySem.W.keepIn K (.ref a) = true ∧ Binds K fd ps [] := fun l C hm => by obtain ⟨fd, ps, F, r⟩ := C.at hm; exact ⟨fd, ps, okUp F l, r⟩
  have cl : ∀ a sp, (a = f0 ∧ sp = spStep K (fun p => ∃ n, p = .frm n)) ∨ (a = f1 ∧ sp = spStep K (fun p => ∃ t s, p = .wave t s)) ∨ (a = f2 ∧ sp = spStep K (fun p => ∃ t s, p = .slow t s)) ∨ (a = f3 ∧ sp = spStep K (fun p => ∃ s, p = .noise s)) ∨ (a = f4 ∧ sp = spStep K (fun p => ∃ z, p = .shape z)) ∨ (a = f5 ∧ sp = spStep K (fun p => ∃ fs m, p = .taps fs m)) ∨ (a = f6 ∧ sp = spStep K (fun p => ∃ fs m, p = .mix fs m)) ∨ (a = f7 ∧ sp = spStep K (fun p => ∃ m, p = .times m)) ∨ (a = f8 ∧ sp = spStep K (fun p => ∃ n, p = .delay n)) ∨ (a = f9 ∧ sp = spStep K (fun p => ∃ s, p = .follow s)) → ∃ fd ps, FnOk P w K mg base (L2.CX P w) 7 a fd ps sp ∧ PySem.W.keepIn K (.ref a) = true ∧ Binds K fd ps [] := by rintro a sp (⟨rfl, rfl⟩ | ⟨rfl, rfl⟩ | ⟨rfl, rfl⟩ | ⟨rfl, rfl⟩ | ⟨rfl, rfl⟩ | ⟨rfl, rfl⟩ | ⟨rfl, rfl⟩ | ⟨rfl, rfl⟩ | ⟨rfl, rfl⟩ | ⟨rfl, rfl⟩) <;> first | exact up (by decide) (c_from_step T) m0 | exact up (by decide) (c_wave_step T) m1 | exact up (by decide) (c_slow_step T) m2 | exact up (by decide) (c_noise_step T) m3 | exact up (by decide) (c_shape_step T) m4 | exact up (by decide) (c_taps_step T) m5 | exact up (by decide) (c_mix_step T) m6 | exact up (by decide) (c_times_step T) m7 | exact up (by decide) (c_delay_step T) m8 | exact up (by decide) (c_follow_step T) m9
  refine F.okX sc_Worker_sample (fun vs H Q E h => ?_) (fun cdv A outer s H vs Q E hr h => ?_)
  · obtain ⟨a, dx, x, k, d, p, kp, b, es, rfl, W, hd, hi, q⟩ := h
    all_goals rfl
  · obtain ⟨a, dx, x, k, d, p, kp, b, es, rfl, W, hd, hi, q⟩ := h
    have nd := sc_Worker_sample.nd
    refine ⟨_, (pss_cons (ps_if (pt_not (pt_val (pe_o (c_are_ins T) (hr.mono (by decide)) (fun _ => passS) (pa_cons (pv 1) pa_nil)))) (pss_one (ps_rs T.x_NoIns (ok_init_NoIns T) b_init_NoIns (hr.mono (by decide)) rfl (takes_of rfl rfl rfl rfl) rfl (pa_cons (pv 1) pa_nil))) pss_nil)
        (pss_cons (ps_set (i := 2) nd rfl (Or.inl rfl) (pe_ix ix_kdict (pe_gc (v := .ref a__STEPS) ⟨_, g__STEPS, rfl⟩) (pe_ix ix_tup (pe_fld (pv 0) rfl) pe_int (fun _ _ => rfl)) (fun _ _ => rfl)))
        (pss_cons (ps_asg (pe_calo cl (hr.mono (by decide)) (fun _ => passS) (pv 2) (pa_cons (pe_fld (pv 0) rfl) (pa_cons (pe_fld (pv 0) rfl) (pa_cons (pv 1) pa_nil)))) (pg_tup rfl (pgs_cons (pg_name (i := 3) nd rfl (Or.inl rfl)) (pgs_cons (pg_fld (pv 0)) (pgs_cons (pg_fld (pv 0)) pgs_nil)))))
        (pss_one (ps_ret (pv 3)))))), ?_⟩
    walk_at "rd"
    refine ⟨d, es, rfl, hd, hi, fun H1 s1 => ?_⟩
    have W := W.same s1
    have hd := s1 _ _ hd
    obtain ⟨xs, ex, _⟩ := W.part.tup
    walk_at "rd"
    refine r_tfld ?_
    walk_at "rd"
    refine ⟨a, C_Worker, dx, _, _, rfl, W.at_, T.cl_Worker, T.na_Worker__part, rfl, ?_⟩
    walk_at "rd"
    refine ⟨x, _, 0, _, rfl, rfl, SqT.of ex, atI_nat (j := 0) rfl, ?_⟩
    have fin : ∀ r k2 H2, Same H1 H2 → KAt K H2 k2 (Gx.step p kp (insG es)).2.1 → H2 r = some (.tup [.int (Gx.step p kp (insG es)).1, .ref k2, .bl (Gx.step p kp (insG es)).2.2]) → ∀ k3 H3, Chg [a] H2 H3 → H3 a = some (.ins C_Worker dx (wf x k2 (Gx.step p kp (insG es)).2.2)) → k3 = k2 → Q (.int (Gx.step p kp (insG es)).1) H3 := fun r k2 H2 s2 hk er k3 H3 c3 e3 ek => by
      have c : Chg [a] H H3 := (Chg.of (s1.trans s2)).trans c3
      exact q k2 H3 c ⟨e3, W.part.chg ((Chg.of (l := [a]) s2).trans c3), W.ok, hk.chg c3, step_fits W.ok W.fit (insG_small hi)⟩
    cases p with
    | frm n =>
      refine ⟨a__STEPS, "from", .ref f0, rfl, rfl, kd_dct kD n0, ?_⟩
      walk_at "rd"
      refine r_calv ?_
      walk_at "rd"
      refine ⟨f0, _, rfl, .inl ⟨rfl, rfl⟩, ?_⟩
      walk_at "rd"
      refine r_tfld ?_
      walk_at "rd"
      refine ⟨a, C_Worker, dx, _, _, rfl, W.at_, T.cl_Worker, T.na_Worker__part, rfl, ?_⟩
      walk_at "rd"
      refine r_tfld ?_
      walk_at "rd"
      refine ⟨a, C_Worker, dx, _, _, rfl, W.at_, T.cl_Worker, T.na_Worker__kept, rfl, ?_⟩
      walk_at "rd"
      refine ⟨x, k, d, _, kp, es, rfl, ⟨n, rfl⟩, W.part, W.ok, W.kept, W.fit, hd, hi, fun r k2 H2 s2 hk er => ?_⟩
      walk_at "rd"
      refine ⟨r, _, rfl, SqT.of er, rfl, ?_⟩
      refine r_gc ?_
      walk_at "rd"
      refine r_gc ?_
      refine r_gfld ?_
      walk_at "rd"
      refine ⟨a, C_Worker, dx, _, rfl, s2 _ _ W.at_, T.cl_Worker, T.na_Worker__kept, Nat.le_of_ble_eq_true rfl, ?_⟩
      refine r_gc ?_
      refine r_gfld ?_
      walk_at "rd"
      refine ⟨a, C_Worker, dx, _, rfl, upd_same, T.cl_Worker, T.na_Worker__folded_last, Nat.le_of_ble_eq_true rfl, ?_⟩
      rw [upd_upd]
      refine r_gn ?_
      walk_at "rd"
      exact fin r k2 H2 s2 hk er k2 _ (Chg.upd (s2 _ _ W.at_) fun _ z => nomatch z) upd_same rfl
    | wave t s =>
      refine ⟨a__STEPS, "wave", .ref f1, rfl, rfl, kd_dct kD n1, ?_⟩
      walk_at "rd"
      refine r_calv ?_
      walk_at "rd"
      refine ⟨f1, _, rfl, .inr (.inl ⟨rfl, rfl⟩), ?_⟩
      walk_at "rd"
      refine r_tfld ?_
      walk_at "rd"
      refine ⟨a, C_Worker, dx, _, _, rfl, W.at_, T.cl_Worker, T.na_Worker__part, rfl, ?_⟩
      walk_at "rd"
      refine r_tfld ?_
      walk_at "rd"
      refine ⟨a, C_Worker, dx, _, _, rfl, W.at_, T.cl_Worker, T.na_Worker__kept, rfl, ?_⟩
      walk_at "rd"
      refine ⟨x, k, d, _, kp, es, rfl, ⟨t, s, rfl⟩, W.part, W.ok, W.kept, W.fit, hd, hi, fun r k2 H2 s2 hk er => ?_⟩
      walk_at "rd"
      refine ⟨r, _, rfl, SqT.of er, rfl, ?_⟩
      refine r_gc ?_
      walk_at "rd"
      refine r_gc ?_
      refine r_gfld ?_
      walk_at "rd"
      refine ⟨a, C_Worker, dx, _, rfl, s2 _ _ W.at_, T.cl_Worker, T.na_Worker__kept, Nat.le_of_ble_eq_true rfl, ?_⟩
      refine r_gc ?_
      refine r_gfld ?_
      walk_at "rd"
      refine ⟨a, C_Worker, dx, _, rfl, upd_same, T.cl_Worker, T.na_Worker__folded_last, Nat.le_of_ble_eq_true rfl, ?_⟩
      rw [upd_upd]
      refine r_gn ?_
      walk_at "rd"
      exact fin r k2 H2 s2 hk er k2 _ (Chg.upd (s2 _ _ W.at_) fun _ z => nomatch z) upd_same rfl
    | slow t s =>
      refine ⟨a__STEPS, "slow", .ref f2, rfl, rfl, kd_dct kD n2, ?_⟩
      walk_at "rd"
      refine r_calv ?_
      walk_at "rd"
      refine ⟨f2, _, rfl, .inr (.inr (.inl ⟨rfl, rfl⟩)), ?_⟩
      walk_at "rd"
      refine r_tfld ?_
      walk_at "rd"
      refine ⟨a, C_Worker, dx, _, _, rfl, W.at_, T.cl_Worker, T.na_Worker__part, rfl, ?_⟩
      walk_at "rd"
      refine r_tfld ?_
      walk_at "rd"
      refine ⟨a, C_Worker, dx, _, _, rfl, W.at_, T.cl_Worker, T.na_Worker__kept, rfl, ?_⟩
      walk_at "rd"
      refine ⟨x, k, d, _, kp, es, rfl, ⟨t, s, rfl⟩, W.part, W.ok, W.kept, W.fit, hd, hi, fun r k2 H2 s2 hk er => ?_⟩
      walk_at "rd"
      refine ⟨r, _, rfl, SqT.of er, rfl, ?_⟩
      refine r_gc ?_
      walk_at "rd"
      refine r_gc ?_
      refine r_gfld ?_
      walk_at "rd"
      refine ⟨a, C_Worker, dx, _, rfl, s2 _ _ W.at_, T.cl_Worker, T.na_Worker__kept, Nat.le_of_ble_eq_true rfl, ?_⟩
      refine r_gc ?_
      refine r_gfld ?_
      walk_at "rd"
      refine ⟨a, C_Worker, dx, _, rfl, upd_same, T.cl_Worker, T.na_Worker__folded_last, Nat.le_of_ble_eq_true rfl, ?_⟩
      rw [upd_upd]
      refine r_gn ?_
      walk_at "rd"
      exact fin r k2 H2 s2 hk er k2 _ (Chg.upd (s2 _ _ W.at_) fun _ z => nomatch z) upd_same rfl
    | noise s =>
      refine ⟨a__STEPS, "noise", .ref f3, rfl, rfl, kd_dct kD n3, ?_⟩
      walk_at "rd"
      refine r_calv ?_
      walk_at "rd"
      refine ⟨f3, _, rfl, .inr (.inr (.inr (.inl ⟨rfl, rfl⟩))), ?_⟩
      walk_at "rd"
      refine r_tfld ?_
      walk_at "rd"
      refine ⟨a, C_Worker, dx, _, _, rfl, W.at_, T.cl_Worker, T.na_Worker__part, rfl, ?_⟩
      walk_at "rd"
      refine r_tfld ?_
      walk_at "rd"
      refine ⟨a, C_Worker, dx, _, _, rfl, W.at_, T.cl_Worker, T.na_Worker__kept, rfl, ?_⟩
      walk_at "rd"
      refine ⟨x, k, d, _, kp, es, rfl, ⟨s, rfl⟩, W.part, W.ok, W.kept, W.fit, hd, hi, fun r k2 H2 s2 hk er => ?_⟩
      walk_at "rd"
      refine ⟨r, _, rfl, SqT.of er, rfl, ?_⟩
      refine r_gc ?_
      walk_at "rd"
      refine r_gc ?_
      refine r_gfld ?_
      walk_at "rd"
      refine ⟨a, C_Worker, dx, _, rfl, s2 _ _ W.at_, T.cl_Worker, T.na_Worker__kept, Nat.le_of_ble_eq_true rfl, ?_⟩
      refine r_gc ?_
      refine r_gfld ?_
      walk_at "rd"
      refine ⟨a, C_Worker, dx, _, rfl, upd_same, T.cl_Worker, T.na_Worker__folded_last, Nat.le_of_ble_eq_true rfl, ?_⟩
      rw [upd_upd]
      refine r_gn ?_
      walk_at "rd"
      exact fin r k2 H2 s2 hk er k2 _ (Chg.upd (s2 _ _ W.at_) fun _ z => nomatch z) upd_same rfl
    | shape z =>
      refine ⟨a__STEPS, "shape", .ref f4, rfl, rfl, kd_dct kD n4, ?_⟩
      walk_at "rd"
      refine r_calv ?_
      walk_at "rd"
      refine ⟨f4, _, rfl, .inr (.inr (.inr (.inr (.inl ⟨rfl, rfl⟩)))), ?_⟩
      walk_at "rd"
      refine r_tfld ?_
      walk_at "rd"
      refine ⟨a, C_Worker, dx, _, _, rfl, W.at_, T.cl_Worker, T.na_Worker__part, rfl, ?_⟩
      walk_at "rd"
      refine r_tfld ?_
      walk_at "rd"
      refine ⟨a, C_Worker, dx, _, _, rfl, W.at_, T.cl_Worker, T.na_Worker__kept, rfl, ?_⟩
      walk_at "rd"
      refine ⟨x, k, d, _, kp, es, rfl, ⟨z, rfl⟩, W.part, W.ok, W.kept, W.fit, hd, hi, fun r k2 H2 s2 hk er => ?_⟩
      walk_at "rd"
      refine ⟨r, _, rfl, SqT.of er, rfl, ?_⟩
      refine r_gc ?_
      walk_at "rd"
      refine r_gc ?_
      refine r_gfld ?_
      walk_at "rd"
      refine ⟨a, C_Worker, dx, _, rfl, s2 _ _ W.at_, T.cl_Worker, T.na_Worker__kept, Nat.le_of_ble_eq_true rfl, ?_⟩
      refine r_gc ?_
      refine r_gfld ?_
      walk_at "rd"
      refine ⟨a, C_Worker, dx, _, rfl, upd_same, T.cl_Worker, T.na_Worker__folded_last, Nat.le_of_ble_eq_true rfl, ?_⟩
      rw [upd_upd]
      refine r_gn ?_
      walk_at "rd"
      exact fin r k2 H2 s2 hk er k2 _ (Chg.upd (s2 _ _ W.at_) fun _ z => nomatch z) upd_same rfl
    | taps fs m =>
      refine ⟨a__STEPS, "taps", .ref f5, rfl, rfl, kd_dct kD n5, ?_⟩
      walk_at "rd"
      refine r_calv ?_
      walk_at "rd"
      refine ⟨f5, _, rfl, .inr (.inr (.inr (.inr (.inr (.inl ⟨rfl, rfl⟩))))), ?_⟩
      walk_at "rd"
      refine r_tfld ?_
      walk_at "rd"
      refine ⟨a, C_Worker, dx, _, _, rfl, W.at_, T.cl_Worker, T.na_Worker__part, rfl, ?_⟩
      walk_at "rd"
      refine r_tfld ?_
      walk_at "rd"
      refine ⟨a, C_Worker, dx, _, _, rfl, W.at_, T.cl_Worker, T.na_Worker__kept, rfl, ?_⟩
      walk_at "rd"
      refine ⟨x, k, d, _, kp, es, rfl, ⟨fs, m, rfl⟩, W.part, W.ok, W.kept, W.fit, hd, hi, fun r k2 H2 s2 hk er => ?_⟩
      walk_at "rd"
      refine ⟨r, _, rfl, SqT.of er, rfl, ?_⟩
      refine r_gc ?_
      walk_at "rd"
      refine r_gc ?_
      refine r_gfld ?_
      walk_at "rd"
      refine ⟨a, C_Worker, dx, _, rfl, s2 _ _ W.at_, T.cl_Worker, T.na_Worker__kept, Nat.le_of_ble_eq_true rfl, ?_⟩
      refine r_gc ?_
      refine r_gfld ?_
      walk_at "rd"
      refine ⟨a, C_Worker, dx, _, rfl, upd_same, T.cl_Worker, T.na_Worker__folded_last, Nat.le_of_ble_eq_true rfl, ?_⟩
      rw [upd_upd]
      refine r_gn ?_
      walk_at "rd"
      exact fin r k2 H2 s2 hk er k2 _ (Chg.upd (s2 _ _ W.at_) fun _ z => nomatch z) upd_same rfl
    | mix fs m =>
      refine ⟨a__STEPS, "mix", .ref f6, rfl, rfl, kd_dct kD n6, ?_⟩
      walk_at "rd"
      refine r_calv ?_
      walk_at "rd"
      refine ⟨f6, _, rfl, .inr (.inr (.inr (.inr (.inr (.inr (.inl ⟨rfl, rfl⟩)))))), ?_⟩
      walk_at "rd"
      refine r_tfld ?_
      walk_at "rd"
      refine ⟨a, C_Worker, dx, _, _, rfl, W.at_, T.cl_Worker, T.na_Worker__part, rfl, ?_⟩
      walk_at "rd"
      refine r_tfld ?_
      walk_at "rd"
      refine ⟨a, C_Worker, dx, _, _, rfl, W.at_, T.cl_Worker, T.na_Worker__kept, rfl, ?_⟩
      walk_at "rd"
      refine ⟨x, k, d, _, kp, es, rfl, ⟨fs, m, rfl⟩, W.part, W.ok, W.kept, W.fit, hd, hi, fun r k2 H2 s2 hk er => ?_⟩
      walk_at "rd"
      refine ⟨r, _, rfl, SqT.of er, rfl, ?_⟩
      refine r_gc ?_
      walk_at "rd"
      refine r_gc ?_
      refine r_gfld ?_
      walk_at "rd"
      refine ⟨a, C_Worker, dx, _, rfl, s2 _ _ W.at_, T.cl_Worker, T.na_Worker__kept, Nat.le_of_ble_eq_true rfl, ?_⟩
      refine r_gc ?_
      refine r_gfld ?_
      walk_at "rd"
      refine ⟨a, C_Worker, dx, _, rfl, upd_same, T.cl_Worker, T.na_Worker__folded_last, Nat.le_of_ble_eq_true rfl, ?_⟩
      rw [upd_upd]
      refine r_gn ?_
      walk_at "rd"
      exact fin r k2 H2 s2 hk er k2 _ (Chg.upd (s2 _ _ W.at_) fun _ z => nomatch z) upd_same rfl
    | times m =>
      refine ⟨a__STEPS, "times", .ref f7, rfl, rfl, kd_dct kD n7, ?_⟩
      walk_at "rd"
      refine r_calv ?_
      walk_at "rd"
      refine ⟨f7, _, rfl, .inr (.inr (.inr (.inr (.inr (.inr (.inr (.inl ⟨rfl, rfl⟩))))))), ?_⟩
      walk_at "rd"
      refine r_tfld ?_
      walk_at "rd"
      refine ⟨a, C_Worker, dx, _, _, rfl, W.at_, T.cl_Worker, T.na_Worker__part, rfl, ?_⟩
      walk_at "rd"
      refine r_tfld ?_
      walk_at "rd"
      refine ⟨a, C_Worker, dx, _, _, rfl, W.at_, T.cl_Worker, T.na_Worker__kept, rfl, ?_⟩
      walk_at "rd"
      refine ⟨x, k, d, _, kp, es, rfl, ⟨m, rfl⟩, W.part, W.ok, W.kept, W.fit, hd, hi, fun r k2 H2 s2 hk er => ?_⟩
      walk_at "rd"
      refine ⟨r, _, rfl, SqT.of er, rfl, ?_⟩
      refine r_gc ?_
      walk_at "rd"
      refine r_gc ?_
      refine r_gfld ?_
      walk_at "rd"
      refine ⟨a, C_Worker, dx, _, rfl, s2 _ _ W.at_, T.cl_Worker, T.na_Worker__kept, Nat.le_of_ble_eq_true rfl, ?_⟩
      refine r_gc ?_
      refine r_gfld ?_
      walk_at "rd"
      refine ⟨a, C_Worker, dx, _, rfl, upd_same, T.cl_Worker, T.na_Worker__folded_last, Nat.le_of_ble_eq_true rfl, ?_⟩
      rw [upd_upd]
      refine r_gn ?_
      walk_at "rd"
      exact fin r k2 H2 s2 hk er k2 _ (Chg.upd (s2 _ _ W.at_) fun _ z => nomatch z) upd_same rfl
    | delay n =>
      refine ⟨a__STEPS, "delay", .ref f8, rfl, rfl, kd_dct kD n8, ?_⟩
      walk_at "rd"
      refine r_calv ?_
      walk_at "rd"
      refine ⟨f8, _, rfl, .inr (.inr (.inr (.inr (.inr (.inr (.inr (.inr (.inl ⟨rfl, rfl⟩)))))))), ?_⟩
      walk_at "rd"
      refine r_tfld ?_
      walk_at "rd"
      refine ⟨a, C_Worker, dx, _, _, rfl, W.at_, T.cl_Worker, T.na_Worker__part, rfl, ?_⟩
      walk_at "rd"
      refine r_tfld ?_
      walk_at "rd"
      refine ⟨a, C_Worker, dx, _, _, rfl, W.at_, T.cl_Worker, T.na_Worker__kept, rfl, ?_⟩
      walk_at "rd"
      refine ⟨x, k, d, _, kp, es, rfl, ⟨n, rfl⟩, W.part, W.ok, W.kept, W.fit, hd, hi, fun r k2 H2 s2 hk er => ?_⟩
      walk_at "rd"
      refine ⟨r, _, rfl, SqT.of er, rfl, ?_⟩
      refine r_gc ?_
      walk_at "rd"
      refine r_gc ?_
      refine r_gfld ?_
      walk_at "rd"
      refine ⟨a, C_Worker, dx, _, rfl, s2 _ _ W.at_, T.cl_Worker, T.na_Worker__kept, Nat.le_of_ble_eq_true rfl, ?_⟩
      refine r_gc ?_
      refine r_gfld ?_
      walk_at "rd"
      refine ⟨a, C_Worker, dx, _, rfl, upd_same, T.cl_Worker, T.na_Worker__folded_last, Nat.le_of_ble_eq_true rfl, ?_⟩
      rw [upd_upd]
      refine r_gn ?_
      walk_at "rd"
      exact fin r k2 H2 s2 hk er k2 _ (Chg.upd (s2 _ _ W.at_) fun _ z => nomatch z) upd_same rfl
    | follow n =>
      refine ⟨a__STEPS, "follow", .ref f9, rfl, rfl, kd_dct kD n9, ?_⟩
      walk_at "rd"
      refine r_calv ?_
      walk_at "rd"
      refine ⟨f9, _, rfl, .inr (.inr (.inr (.inr (.inr (.inr (.inr (.inr (.inr (⟨rfl, rfl⟩))))))))), ?_⟩
      walk_at "rd"
      refine r_tfld ?_
      walk_at "rd"
      refine ⟨a, C_Worker, dx, _, _, rfl, W.at_, T.cl_Worker, T.na_Worker__part, rfl, ?_⟩
      walk_at "rd"
      refine r_tfld ?_
      walk_at "rd"
      refine ⟨a, C_Worker, dx, _, _, rfl, W.at_, T.cl_Worker, T.na_Worker__kept, rfl, ?_⟩
      walk_at "rd"
      refine ⟨x, k, d, _, kp, es, rfl, ⟨n, rfl⟩, W.part, W.ok, W.kept, W.fit, hd, hi, fun r k2 H2 s2 hk er => ?_⟩
      walk_at "rd"
      refine ⟨r, _, rfl, SqT.of er, rfl, ?_⟩
      refine r_gc ?_
      walk_at "rd"
      refine r_gc ?_
      refine r_gfld ?_
      walk_at "rd"
      refine ⟨a, C_Worker, dx, _, rfl, s2 _ _ W.at_, T.cl_Worker, T.na_Worker__kept, Nat.le_of_ble_eq_true rfl, ?_⟩
      refine r_gc ?_
      refine r_gfld ?_
      walk_at "rd"
      refine ⟨a, C_Worker, dx, _, rfl, upd_same, T.cl_Worker, T.na_Worker__folded_last, Nat.le_of_ble_eq_true rfl, ?_⟩
      rw [upd_upd]
      refine r_gn ?_
      walk_at "rd"
      exact fin r k2 H2 s2 hk er k2 _ (Chg.upd (s2 _ _ W.at_) fun _ z => nomatch z) upd_same rfl
theorem b_Worker_sample : ∀ (kV doc pm : Value) (an : Option Addr) (cdv ct : Value) (us : List Value), us.length = (["self", "ins"] : List Str).length → bindArgs (PySem.W.fnOf "sample" "Worker.sample" (defArgs s_Worker_sample) (defBody s_Worker_sample) (defScope s_Worker_sample) .none kV doc pm an cdv ct) ⟨us, []⟩ = pure ((["self", "ins"] : List Str).zip us) :=
  fun _ _ _ _ _ _ us hl => match us, hl with | [_, _], _ => rfl
end
end KB
set_option linter.all false
set_option maxRecDepth 100000
set_option maxHeartbeats 4000000
namespace KB
open PySem PySem.Spec PyProof.Rows L2 Gx
local macro_rules | `(tactic| walk_at "rd1") => `(tactic| with_reducible first
  | refine r_var rfl ?_ | refine r_c ?_ | refine r_op ?_ | refine r_un ?_ | refine r_I0 ?_ | refine r_neg ?_ | refine r_test ?_ | refine r_B ?_ | refine r_bl ?_ | refine r_blx ?_
  | refine r_seq ?_ | refine r_ret ?_ | refine r_asg ?_ | refine r_name ?_ | refine r_gsub ?_ | refine r_if ?_ | refine r_next ?_ | refine r_drop ?_ | refine r_cb ?_ | refine r_nil ?_ | refine r_cons ?_
  | refine r_g ?_ | refine r_k ?_ | refine r_lstN ?_ | refine r_tupN ?_ | refine r_notV ?_ | refine r_ifE ?_ | refine r_and ?_ | refine r_or ?_ | refine r_not ?_ | refine r_chain ?_
  | refine r_sl ?_ | refine r_part ?_ | refine r_nop ?_ | refine r_par3 ?_ | refine r_is3 ?_ | refine r_par2 ?_ | refine r_is2 ?_ | refine r_m0 ?_ | refine r_ei ?_ | refine r_nx ?_ | refine r_rt ?_ | refine r_ct ?_ | refine r_eq rfl ?_ | refine r_ne rfl ?_ | refine iteT ?_ | refine iteF ?_ | refine iteNF ?_ | refine iteNT ?_
  | (refine r_fdivK ?hc ?_; (case hc => decide +kernel)) | (refine r_modK ?hc ?_; (case hc => decide +kernel)) | (refine r_mulL ?hc ?_; (case hc => decide +kernel)) | (refine r_mulR ?hc ?_; (case hc => decide +kernel)) | (refine r_powK ?hc ?_; (case hc => decide +kernel)) | fail "no step")
local macro_rules | `(tactic| walk_at "rd") => `(tactic| repeat' walk_at "rd1")
section
variable {P : Program} {w : World} {K : PySem.W.Frag} {mg : Str → Option Value} {base : Heap} {f : Addr} {fd : FuncData} {C_NoPart C_NoIns C_Worker : Addr}
/-! ### a drawn part -/
theorem nm_in {z : Str} (h : z = "x" ∨ z = "y" ∨ z = "gate" ∨ z = "pitch" ∨ z = "force") : nameB z = true ∧ z.length ≤ 1000 := by
  rcases h with rfl | rfl | rfl | rfl | rfl <;> decide +kernel
def nmOk (z : Str) : Prop := z = "x" ∨ z = "y" ∨ z = "gate" ∨ z = "pitch" ∨ z = "force"
theorem sc_law_part : FnScope ["box", "kind", "table", "manner", "k", "steps", "factors"] ["box", "kind"] (defScope s_law_part) := ⟨rfl, rfl, rfl, by decide +kernel, rfl, by decide +kernel, by decide +kernel⟩
theorem ok_law_part (T : Txt K mg w C_NoPart C_NoIns C_Worker) (F : Fun K "_law_part" "_law_part" s_law_part f fd) : FnG P w K mg base (L2.CX P w) 2 f fd ["box", "kind"] spLPart := by
  refine fnG F sc_law_part (fun vs H Q E h => ?_) (fun cdv A outer s H vs Q E hG hr h => ?_)
  · obtain ⟨b, n, k, rfl, hk, B, hn, q⟩ := h
    all_goals rfl
  · obtain ⟨b, n, k, rfl, hk, B, hn, q⟩ := h
    have nd := sc_law_part.nd
    refine ⟨_, (pss_cons (ps_set (i := 2) nd rfl (Or.inl rfl) (pe_ix ix_list (pe_lst (pa_cons pe_str (pa_cons pe_str (pa_cons pe_str (pa_cons pe_str (pa_cons pe_str pa_nil)))))) (pe_g (c_law_take T) hG (hr.mono (by decide)) (fun _ => passS) (pa_cons (pv 0) (pa_cons pe_int pa_nil))) (fun _ _ => rfl)))
        (pss_cons (ps_set (i := 3) nd rfl (Or.inl rfl) (pe_ix ix_list (pe_lst (pa_cons pe_str (pa_cons pe_str (pa_cons pe_str pa_nil)))) (pe_g (c_law_take T) hG (hr.mono (by decide)) (fun _ => passS) (pa_cons (pv 0) (pa_cons pe_int pa_nil))) (fun _ _ => rfl)))
        (pss_cons (ps_if (pt_cmpR op_eq (pv 1) pe_str (nomark _)) (pss_one (ps_ret (pe_tup (pa_cons (pv 1) (pa_cons (pe_ix ix_list (pe_lst (pa_cons pe_str (pa_cons pe_str (pa_cons pe_str (pa_cons pe_str (pa_cons pe_str pa_nil)))))) (pe_g (c_law_take T) hG (hr.mono (by decide)) (fun _ => passS) (pa_cons (pv 0) (pa_cons pe_int pa_nil))) (fun _ _ => rfl)) pa_nil))))) pss_nil)
        (pss_cons (ps_if (pt_cmpR op_in_seq (pv 1) (pe_tup (pa_cons pe_str (pa_cons pe_str pa_nil))) (by rfl)) (pss_one (ps_ret (pe_tup (pa_cons (pv 1) (pa_cons (pv 2) (pa_cons (pe_ix ix_list (pe_lst (pa_cons pe_int (pa_cons pe_int (pa_cons pe_int (pa_cons pe_int (pa_cons (pe_g (c_law_take T) hG (hr.mono (by decide)) (fun _ => passS) (pa_cons (pv 0) (pa_cons pe_int pa_nil))) pa_nil)))))) (pe_g (c_law_take T) hG (hr.mono (by decide)) (fun _ => passS) (pa_cons (pv 0) (pa_cons pe_int pa_nil))) (fun _ _ => rfl)) pa_nil)))))) pss_nil)
        (pss_cons (ps_if (pt_cmpR op_eq (pv 1) pe_str (nomark _)) (pss_one (ps_ret (pe_tup (pa_cons (pv 1) (pa_cons (pe_ix ix_list (pe_lst (pa_cons pe_int (pa_cons pe_int (pa_cons (pe_g (c_law_take T) hG (hr.mono (by decide)) (fun _ => passS) (pa_cons (pv 0) (pa_cons pe_int pa_nil))) pa_nil)))) (pe_g (c_law_take T) hG (hr.mono (by decide)) (fun _ => passS) (pa_cons (pv 0) (pa_cons pe_int pa_nil))) (fun _ _ => rfl)) pa_nil))))) pss_nil)
        (pss_cons (ps_if (pt_cmpR op_eq (pv 1) pe_str (nomark _)) (pss_cons (ps_setLc (i := 5) (own := [("k", 4)]) (g := gName 4) (tt := tYes) rfl nd rfl rfl (sw_true rfl rfl rfl (by decide +kernel)) (pi_range1 rfl T.n_range (pa_cons pe_int pa_nil)) (blkOk_by (N := ["box", "kind", "table", "manner", "k", "steps", "factors"]) (sc := defScope s_law_part) (by decide +kernel)) (fun _ _ _ _ _ => pg_name (i := 4) nd rfl (Or.inl rfl)) (fun _ _ _ _ _ => pts_nil) (fun _ _ _ _ _ => (pe_op op_add pe_int (pe_ix (show IxR _ (rIxL K) from ix_list) (pe_lst (pa_cons pe_int (pa_cons pe_int (pa_cons pe_int (pa_cons (pe_g (c_law_take T) hG (hr.mono (by decide)) (fun _ => passS) (pa_cons (pv 0) (pa_cons pe_int pa_nil))) pa_nil))))) (pe_g (c_law_take T) hG (hr.mono (by decide)) (fun _ => passS) (pa_cons (pv 0) (pa_cons pe_int pa_nil))) (fun _ _ => rfl)))))
        (pss_one (ps_ret (pe_tup (pa_cons (pv 1) (pa_cons (pe_ix ix_list (pv 5) pe_int (fun _ _ => rfl)) (pa_cons (pe_ix ix_list (pv 5) pe_int (fun _ _ => rfl)) (pa_cons (pe_ix ix_list (pe_lst (pa_cons pe_int (pa_cons pe_int (pa_cons (pe_g (c_law_take T) hG (hr.mono (by decide)) (fun _ => passS) (pa_cons (pv 0) (pa_cons pe_int pa_nil))) pa_nil)))) (pe_g (c_law_take T) hG (hr.mono (by decide)) (fun _ => passS) (pa_cons (pv 0) (pa_cons pe_int pa_nil))) (fun _ _ => rfl)) (pa_cons (pe_ix ix_list (pv 5) pe_int (fun _ _ => rfl)) pa_nil))))))))) pss_nil)
        (pss_cons (ps_if (pt_cmpR op_in_seq (pv 1) (pe_tup (pa_cons pe_str (pa_cons pe_str pa_nil))) (by rfl)) (pss_cons (ps_set (i := 6) nd rfl (Or.inl rfl) (pe_lst pa_nil))
        (pss_cons (ps_for (passes_of rfl) rfl (pi_range1 rfl T.n_range (pa_cons (pe_op op_add pe_int (pe_g (c_law_take T) hG (hr.mono (by decide)) (fun _ => passS) (pa_cons (pv 0) (pa_cons (pe_ifExp (pt_cmpR op_eq (pv 1) pe_str (nomark _)) pe_int pe_int) pa_nil)))) pa_nil)) (pg_name (i := 4) nd rfl (Or.inl rfl)) (pss_one (ps_expr (pe_bm PySem.F.plainAttrs_list PySem.F.slot_list_append PySem.F.type_list_append mt_append (pv 6) (pa_cons (pe_ix ix_list (pe_lst (pa_cons pe_int (pa_cons (pe_un un_neg pe_int) (pa_cons pe_int (pa_cons pe_int (pa_cons (pe_op op_sub (pe_g (c_law_take T) hG (hr.mono (by decide)) (fun _ => passS) (pa_cons (pv 0) (pa_cons pe_int pa_nil))) pe_int) pa_nil)))))) (pe_g (c_law_take T) hG (hr.mono (by decide)) (fun _ => passS) (pa_cons (pv 0) (pa_cons pe_int pa_nil))) (fun _ _ => rfl)) pa_nil)))))
        (pss_one (ps_ret (pe_tup (pa_cons (pv 1) (pa_cons (pe_callTy call_tuple_of (by rfl) T.n_tuple (by decide +kernel) (pa_cons (pv 6) pa_nil)) (pa_cons (pv 3) pa_nil)))))))) pss_nil)
        (pss_cons (ps_if (pt_cmpR op_eq (pv 1) pe_str (nomark _)) (pss_one (ps_ret (pe_tup (pa_cons (pv 1) (pa_cons (pv 3) pa_nil))))) pss_nil)
        (pss_cons (ps_if (pt_cmpR op_eq (pv 1) pe_str (nomark _)) (pss_one (ps_ret (pe_tup (pa_cons (pv 1) (pa_cons (pe_ix ix_list (pe_lst (pa_cons pe_int (pa_cons pe_int (pa_cons pe_int (pa_cons (pe_op op_add pe_int (pe_g (c_law_take T) hG (hr.mono (by decide)) (fun _ => passS) (pa_cons (pv 0) (pa_cons pe_int pa_nil)))) pa_nil))))) (pe_g (c_law_take T) hG (hr.mono (by decide)) (fun _ => passS) (pa_cons (pv 0) (pa_cons pe_int pa_nil))) (fun _ _ => rfl)) pa_nil))))) pss_nil)
        (pss_one (ps_ret (pe_tup (pa_cons pe_str (pa_cons (pe_ix ix_list (pe_lst (pa_cons pe_int (pa_cons pe_int (pa_cons (pe_op op_add pe_int (pe_g (c_law_take T) hG (hr.mono (by decide)) (fun _ => passS) (pa_cons (pv 0) (pa_cons pe_int pa_nil)))) pa_nil)))) (pe_g (c_law_take T) hG (hr.mono (by decide)) (fun _ => passS) (pa_cons (pv 0) (pa_cons pe_int pa_nil))) (fun _ _ => rfl)) pa_nil)))))))))))))), ?_⟩
    walk_at "rd"
    have D : Dw b H H n := ⟨B, .refl⟩
    refine newL rfl fun p1 G1 np1 s1 e1 => ?_
    walk_at "rd"
    refine dr_take (D.same s1) (by decide) (by decide) (by omega) fun d1 H1 d01 d11 c1 D1 => ?_
    have kH1 := (Chg.of s1).trans c1
    walk_at "rd"
    refine r_ixP (R := (fun v => ∃ z : Str, v = .str z ∧ tabOk z)) (c1.one (D.new np1) e1) (by intro v hv; repeat (first | exact absurd hv List.not_mem_nil | (rcases List.mem_cons.mp hv with rfl | hv; · exact ⟨_, rfl, by first | exact .inl rfl | exact .inr rfl | exact .inr (.inl rfl) | exact .inr (.inr rfl) | exact .inr (.inr (.inl rfl)) | exact .inr (.inr (.inr (.inl rfl))) | exact .inr (.inr (.inr (.inr rfl))) | decide +kernel⟩))) d01 d11 ?_
    rintro v ⟨t, rfl, ht⟩
    walk_at "rd"
    refine newL rfl fun p2 G2 np2 s2 e2 => ?_
    walk_at "rd"
    refine dr_take (D1.same s2) (by decide) (by decide) (by omega) fun d2 H2 d02 d12 c2 D2 => ?_
    have kH2 := (Chg.of s2).trans c2
    walk_at "rd"
    refine r_ixP (R := (fun v => ∃ z : Str, v = .str z ∧ manOk z)) (c2.one (D1.new np2) e2) (by intro v hv; repeat (first | exact absurd hv List.not_mem_nil | (rcases List.mem_cons.mp hv with rfl | hv; · exact ⟨_, rfl, by first | exact .inl rfl | exact .inr rfl | exact .inr (.inl rfl) | exact .inr (.inr rfl) | exact .inr (.inr (.inl rfl)) | exact .inr (.inr (.inr (.inl rfl))) | exact .inr (.inr (.inr (.inr rfl))) | decide +kernel⟩))) d02 d12 ?_
    rintro v ⟨m, rfl, hm⟩
    walk_at "rd"
    rcases ten hk with rfl | rfl | rfl | rfl | rfl | rfl | rfl | rfl | rfl | rfl
    · refine iteTb (by decide +kernel) ?_
      walk_at "rd"
      refine newL rfl fun p3 G3 np3 s3 e3 => ?_
      walk_at "rd"
      refine dr_take (D2.same s3) (by decide) (by decide) (by omega) fun d3 H3 d03 d13 c3 D3 => ?_
      have kH3 := (Chg.of s3).trans c3
      walk_at "rd"
      refine r_ixP (R := (fun v => ∃ z : Str, v = .str z ∧ nmOk z)) (c3.one (D2.new np3) e3) (by intro v hv; repeat (first | exact absurd hv List.not_mem_nil | (rcases List.mem_cons.mp hv with rfl | hv; · exact ⟨_, rfl, by first | exact .inl rfl | exact .inr rfl | exact .inr (.inl rfl) | exact .inr (.inr rfl) | exact .inr (.inr (.inl rfl)) | exact .inr (.inr (.inr (.inl rfl))) | exact .inr (.inr (.inr (.inr rfl))) | decide +kernel⟩))) d03 d13 ?_
      rintro v ⟨z, rfl, hz⟩
      walk_at "rd"
      refine newT rfl fun x H4 _ s4 e4 => ?_
      exact q x (.frm z) H4 rfl (nm_in hz) e4 (D3.same s4).chg ((D3.same s4).bx.up (by omega))
    · refine iteFb (by decide +kernel) ?_
      walk_at "rd"
      refine newT rfl fun t3 H3 nt3 sH3 et3 => ?_
      refine ⟨t3, _, rfl, .inr (SqT.of et3), rfl, rfl, ?_⟩
      walk_at "rd"
      refine iteTb (by decide +kernel) ?_
      walk_at "rd"
      have D3 := D2.same sH3
      refine dr_take D3 (by decide) (by decide) (by omega) fun d H4 d0 d1 kH4 D4 => ?_
      walk_at "rd"
      refine newL rfl fun p6 G6 np6 s6 e6 => ?_
      walk_at "rd"
      refine dr_take (D4.same s6) (by decide) (by decide) (by omega) fun d6 H5 d06 d16 c6 D5 => ?_
      have kH5 := (Chg.of s6).trans c6
      walk_at "rd"
      refine r_ixP (R := (fun v => ∃ i : Int, v = .int i ∧ 0 ≤ i ∧ i ≤ 2048)) (c6.one (D4.new np6) e6) (by intro v hv; repeat (first | exact absurd hv List.not_mem_nil | (rcases List.mem_cons.mp hv with rfl | hv; · exact ⟨_, rfl, by omega, by omega⟩))) d06 d16 ?_
      rintro v ⟨i, rfl, i0, i1⟩
      walk_at "rd"
      refine newT rfl fun x H6 _ s6 e6 => ?_
      exact q x (.wave t i) H6 rfl ⟨ht, i0, i1⟩ e6 (D5.same s6).chg ((D5.same s6).bx.up (by omega))
    · refine iteFb (by decide +kernel) ?_
      walk_at "rd"
      refine newT rfl fun t3 H3 nt3 sH3 et3 => ?_
      refine ⟨t3, _, rfl, .inr (SqT.of et3), rfl, rfl, ?_⟩
      walk_at "rd"
      refine iteTb (by decide +kernel) ?_
      walk_at "rd"
      have D3 := D2.same sH3
      refine dr_take D3 (by decide) (by decide) (by omega) fun d H4 d0 d1 kH4 D4 => ?_
      walk_at "rd"
      refine newL rfl fun p9 G9 np9 s9 e9 => ?_
      walk_at "rd"
      refine dr_take (D4.same s9) (by decide) (by decide) (by omega) fun d9 H5 d09 d19 c9 D5 => ?_
      have kH5 := (Chg.of s9).trans c9
      walk_at "rd"
      refine r_ixP (R := (fun v => ∃ i : Int, v = .int i ∧ 0 ≤ i ∧ i ≤ 2048)) (c9.one (D4.new np9) e9) (by intro v hv; repeat (first | exact absurd hv List.not_mem_nil | (rcases List.mem_cons.mp hv with rfl | hv; · exact ⟨_, rfl, by omega, by omega⟩))) d09 d19 ?_
      rintro v ⟨i, rfl, i0, i1⟩
      walk_at "rd"
      refine newT rfl fun x H6 _ s6 e6 => ?_
      exact q x (.slow t i) H6 rfl ⟨ht, i0, i1⟩ e6 (D5.same s6).chg ((D5.same s6).bx.up (by omega))
    · refine iteFb (by decide +kernel) ?_
      walk_at "rd"
      refine newT rfl fun t3 H3 nt3 sH3 et3 => ?_
      refine ⟨t3, _, rfl, .inr (SqT.of et3), rfl, rfl, ?_⟩
      walk_at "rd"
      refine iteFb (by decide +kernel) ?_
      walk_at "rd"
      refine iteTb (by decide +kernel) ?_
      walk_at "rd"
      have D3 := D2.same sH3
      refine dr_take D3 (by decide) (by decide) (by omega) fun d H4 d0 d1 kH4 D4 => ?_
      walk_at "rd"
      refine newL rfl fun p12 G12 np12 s12 e12 => ?_
      walk_at "rd"
      refine dr_take (D4.same s12) (by decide) (by decide) (by omega) fun d12 H5 d012 d112 c12 D5 => ?_
      have kH5 := (Chg.of s12).trans c12
      walk_at "rd"
      refine r_ixP (R := (fun v => ∃ i : Int, v = .int i ∧ 0 ≤ i ∧ i ≤ 4095)) (c12.one (D4.new np12) e12) (by intro v hv; repeat (first | exact absurd hv List.not_mem_nil | (rcases List.mem_cons.mp hv with rfl | hv; · exact ⟨_, rfl, by omega, by omega⟩))) d012 d112 ?_
      rintro v ⟨i, rfl, i0, i1⟩
      walk_at "rd"
      refine newT rfl fun x H6 _ s6 e6 => ?_
      exact q x (.noise i) H6 rfl ⟨i0, i1⟩ e6 (D5.same s6).chg ((D5.same s6).bx.up (by omega))
    · refine iteFb (by decide +kernel) ?_
      walk_at "rd"
      refine newT rfl fun t3 H3 nt3 sH3 et3 => ?_
      refine ⟨t3, _, rfl, .inr (SqT.of et3), rfl, rfl, ?_⟩
      walk_at "rd"
      refine iteFb (by decide +kernel) ?_
      walk_at "rd"
      refine iteFb (by decide +kernel) ?_
      walk_at "rd"
      refine iteTb (by decide +kernel) ?_
      walk_at "rd"
      have D3 := D2.same sH3
      refine r_lc ?_
      refine r_rng1 ?_
      walk_at "rd"
      refine ⟨_, rfl, by decide, by decide, ?_⟩
      refine lc_rng (fun p i h => ∃ zs : List Int, zs.length = i ∧ (∀ z ∈ zs, 1 ≤ z ∧ z ≤ 2047) ∧ h p = some (.lst (zs.map V.int)) ∧ Dw b H h (n + 2 + i * 2)) (fun p hp => ?_) (fun p hp i h hi => ?_) (fun p hp H4 => ?_)
      · exact ⟨([] : List Int), rfl, fun z hz => absurd hz List.not_mem_nil, upd_same, D3.same (same_new hp)⟩
      · rintro ⟨zs, hl, al, hz, D8⟩
        have hi3 : i < 3 := hi
        have pb := D3.new hp
        walk_at "rd"
        refine ⟨rfl, r_yes (iteT ?_)⟩
        walk_at "rd"
        refine dr_take D8 (by decide) (by decide) (by omega) fun d G1 d0 d1 kG1 E1 => ?_
        walk_at "rd"
        refine newL rfl fun p15 G15 np15 s15 e15 => ?_
        walk_at "rd"
        refine dr_take (E1.same s15) (by decide) (by decide) (by omega) fun d15 G2 d015 d115 c15 E2 => ?_
        have kG2 := (Chg.of s15).trans c15
        walk_at "rd"
        refine r_ixP (R := (fun v => ∃ i : Int, v = .int i ∧ 0 ≤ i ∧ i ≤ 2046)) (c15.one (E1.new np15) e15) (by intro v hv; repeat (first | exact absurd hv List.not_mem_nil | (rcases List.mem_cons.mp hv with rfl | hv; · exact ⟨_, rfl, by omega, by omega⟩))) d015 d115 ?_
        rintro v ⟨j, rfl, j0, j1⟩
        walk_at "rd"
        have ep := kG2.one pb (kG1.one pb hz)
        refine ⟨_, ep, by rw [List.length_map, sizeLine_eq]; omega, zs ++ [1 + j], by rw [List.length_append, hl]; rfl, fun z hz => ?_, ?_, ?_⟩
        · rcases List.mem_append.mp hz with hz | hz
          · exact al z hz
          · obtain rfl := List.mem_singleton.mp hz
            omega
        · rw [List.map_append]
          exact upd_same
        · exact (E2.up (by omega)).upd (D3.none hp) pb
      rintro ⟨zs, hl, al, hz, D8⟩
      have pb := D3.new hp
      obtain ⟨z1, z2, z3, rfl⟩ : ∃ z1 z2 z3, zs = [z1, z2, z3] := by
        match zs, hl with
        | [z1, z2, z3], _ => exact ⟨z1, z2, z3, rfl⟩
      walk_at "rd"
      refine r_ixLs (j := 0) hz rfl rfl ?_
      walk_at "rd"
      refine r_ixLs (j := 1) hz rfl rfl ?_
      walk_at "rd"
      refine dr_take D8 (by decide) (by decide) (by omega) fun d H5 d0 d1 kH5 D5 => ?_
      walk_at "rd"
      refine newL rfl fun p17 G17 np17 s17 e17 => ?_
      walk_at "rd"
      refine dr_take (D5.same s17) (by decide) (by decide) (by omega) fun d17 H6 d017 d117 c17 D6 => ?_
      have kH6 := (Chg.of s17).trans c17
      walk_at "rd"
      refine r_ixP (R := (fun v => ∃ i : Int, v = .int i ∧ 0 ≤ i ∧ i ≤ 2047)) (c17.one (D5.new np17) e17) (by intro v hv; repeat (first | exact absurd hv List.not_mem_nil | (rcases List.mem_cons.mp hv with rfl | hv; · exact ⟨_, rfl, by omega, by omega⟩))) d017 d117 ?_
      rintro v ⟨j, rfl, j0, j1⟩
      walk_at "rd"
      refine r_ixLs (j := 2) (kH6.one pb (kH5.one pb hz)) rfl rfl ?_
      walk_at "rd"
      refine newT rfl fun x H7 _ s7 e7 => ?_
      exact q x (.shape ⟨z1, z2, j, z3⟩) H7 rfl ⟨al z1 (by simp), al z2 (by simp), ⟨j0, j1⟩, al z3 (by simp)⟩ e7 (D6.same s7).chg ((D6.same s7).bx.up (by omega))
    · refine iteFb (by decide +kernel) ?_
      walk_at "rd"
      refine newT rfl fun t3 H3 nt3 sH3 et3 => ?_
      refine ⟨t3, _, rfl, .inr (SqT.of et3), rfl, rfl, ?_⟩
      walk_at "rd"
      refine iteFb (by decide +kernel) ?_
      walk_at "rd"
      refine iteFb (by decide +kernel) ?_
      walk_at "rd"
      refine iteFb (by decide +kernel) ?_
      walk_at "rd"
      refine newT rfl fun t4 H4 nt4 sH4 et4 => ?_
      refine ⟨t4, _, rfl, .inr (SqT.of et4), rfl, rfl, ?_⟩
      walk_at "rd"
      refine iteTb (by decide +kernel) ?_
      walk_at "rd"
      have D4 := (D2.same sH3).same sH4
      refine newL rfl fun p H5 np s5 e5 => ?_
      have D5 := D4.same s5
      have pb := D4.new np
      walk_at "rd"
      refine r_for ?_
      refine r_rng1 ?_
      walk_at "rd"
      refine iteTb (by decide +kernel) ?_
      walk_at "rd"
      refine dr_take D5 (by decide) (by decide) (by omega) fun d H6 d0 d1 kH6 D6 => ?_
      walk_at "rd"
      refine ⟨_, rfl, by omega, by omega, ?_⟩
      refine lp_range (fun i s h => (∃ x4 x5, s = [some (.ref b), some (.str "taps"), some (.str t), some (.str m), x4, x5, some (.ref p)]) ∧ ∃ zs : List Int, zs.length = i ∧ (∀ z ∈ zs, -256 ≤ z ∧ z ≤ 256) ∧ h p = some (.lst (zs.map V.int)) ∧ Dw b H h (n + 3 + i * 2)) ⟨⟨_, _, rfl⟩, [], rfl, fun z hz => absurd hz List.not_mem_nil, kH6.one pb e5, D6.up (by omega)⟩ (fun i s h hi => ?_) (fun s h z => ?_)
      · rintro ⟨⟨x4, x5, rfl⟩, zs, hl, al, hz, D8⟩
        have hi8 : i < 8 := by omega
        walk_at "rd"
        refine r_bm (show tyV _ "list" (.ref p) h from .inl ⟨rfl, _, SqL.of hz⟩) rfl ?_
        walk_at "rd"
        refine dr_take D8 (by decide) (by decide) (by omega) fun d2 G1 d20 d21 kG1 E1 => ?_
        walk_at "rd"
        refine newL rfl fun p22 G22 np22 s22 e22 => ?_
        walk_at "rd"
        refine dr_take (E1.same s22) (by decide) (by decide) (by omega) fun d22 G2 d022 d122 c22 E2 => ?_
        have kG2 := (Chg.of s22).trans c22
        walk_at "rd"
        refine r_ixP (R := (fun v => ∃ i : Int, v = .int i ∧ (-256) ≤ i ∧ i ≤ 256)) (c22.one (E1.new np22) e22) (by intro v hv; repeat (first | exact absurd hv List.not_mem_nil | (rcases List.mem_cons.mp hv with rfl | hv; · exact ⟨_, rfl, by omega, by omega⟩))) d022 d122 ?_
        rintro v ⟨j, rfl, j0, j1⟩
        walk_at "rd"
        refine ⟨p, _, _, rfl, rfl, kG2.one pb (kG1.one pb hz), by rw [List.length_map, sizeLine_eq]; omega, ?_⟩
        walk_at "rd"
        refine ⟨⟨_, _, rfl⟩, zs ++ [j], by rw [List.length_append, hl]; rfl, fun z hz => ?_, by rw [List.map_append]; exact upd_same, (E2.up (by omega)).upd (D4.none np) pb⟩
        rcases List.mem_append.mp hz with hz | hz
        · exact al z hz
        · obtain rfl := List.mem_singleton.mp hz
          exact ⟨j0, j1⟩
      obtain ⟨⟨x4, x5, rfl⟩, zs, hl, al, hz, D8⟩ := z
      walk_at "rd"
      refine ⟨p, _, rfl, .inl ⟨SqL.of hz, fun f hf => ?_⟩⟩
      have sf := same_new (o := .tup (zs.map V.int)) hf
      have ef : upd h f (.tup (zs.map V.int)) f = some (.tup (zs.map V.int)) := upd_same
      generalize upd h f (.tup (zs.map V.int)) = h2 at sf ef ⊢
      walk_at "rd"
      refine newT rfl fun x H7 _ s7 e7 => ?_
      have D9 := (D8.same sf).same s7
      exact q x (.taps zs m) H7 rfl ⟨⟨by omega, by omega, al⟩, hm⟩ ⟨f, e7, s7 _ _ ef⟩ D9.chg (D9.bx.up (by omega))
    · refine iteFb (by decide +kernel) ?_
      walk_at "rd"
      refine newT rfl fun t3 H3 nt3 sH3 et3 => ?_
      refine ⟨t3, _, rfl, .inr (SqT.of et3), rfl, rfl, ?_⟩
      walk_at "rd"
      refine iteFb (by decide +kernel) ?_
      walk_at "rd"
      refine iteFb (by decide +kernel) ?_
      walk_at "rd"
      refine iteFb (by decide +kernel) ?_
      walk_at "rd"
      refine newT rfl fun t4 H4 nt4 sH4 et4 => ?_
      refine ⟨t4, _, rfl, .inr (SqT.of et4), rfl, rfl, ?_⟩
      walk_at "rd"
      refine iteTb (by decide +kernel) ?_
      walk_at "rd"
      have D4 := (D2.same sH3).same sH4
      refine newL rfl fun p H5 np s5 e5 => ?_
      have D5 := D4.same s5
      have pb := D4.new np
      walk_at "rd"
      refine r_for ?_
      refine r_rng1 ?_
      walk_at "rd"
      refine iteFb (by decide +kernel) ?_
      walk_at "rd"
      refine dr_take D5 (by decide) (by decide) (by omega) fun d H6 d0 d1 kH6 D6 => ?_
      walk_at "rd"
      refine ⟨_, rfl, by omega, by omega, ?_⟩
      refine lp_range (fun i s h => (∃ x4 x5, s = [some (.ref b), some (.str "mix"), some (.str t), some (.str m), x4, x5, some (.ref p)]) ∧ ∃ zs : List Int, zs.length = i ∧ (∀ z ∈ zs, -256 ≤ z ∧ z ≤ 256) ∧ h p = some (.lst (zs.map V.int)) ∧ Dw b H h (n + 3 + i * 2)) ⟨⟨_, _, rfl⟩, [], rfl, fun z hz => absurd hz List.not_mem_nil, kH6.one pb e5, D6.up (by omega)⟩ (fun i s h hi => ?_) (fun s h z => ?_)
      · rintro ⟨⟨x4, x5, rfl⟩, zs, hl, al, hz, D8⟩
        have hi8 : i < 8 := by omega
        walk_at "rd"
        refine r_bm (show tyV _ "list" (.ref p) h from .inl ⟨rfl, _, SqL.of hz⟩) rfl ?_
        walk_at "rd"
        refine dr_take D8 (by decide) (by decide) (by omega) fun d2 G1 d20 d21 kG1 E1 => ?_
        walk_at "rd"
        refine newL rfl fun p27 G27 np27 s27 e27 => ?_
        walk_at "rd"
        refine dr_take (E1.same s27) (by decide) (by decide) (by omega) fun d27 G2 d027 d127 c27 E2 => ?_
        have kG2 := (Chg.of s27).trans c27
        walk_at "rd"
        refine r_ixP (R := (fun v => ∃ i : Int, v = .int i ∧ (-256) ≤ i ∧ i ≤ 256)) (c27.one (E1.new np27) e27) (by intro v hv; repeat (first | exact absurd hv List.not_mem_nil | (rcases List.mem_cons.mp hv with rfl | hv; · exact ⟨_, rfl, by omega, by omega⟩))) d027 d127 ?_
        rintro v ⟨j, rfl, j0, j1⟩
        walk_at "rd"
        refine ⟨p, _, _, rfl, rfl, kG2.one pb (kG1.one pb hz), by rw [List.length_map, sizeLine_eq]; omega, ?_⟩
        walk_at "rd"
        refine ⟨⟨_, _, rfl⟩, zs ++ [j], by rw [List.length_append, hl]; rfl, fun z hz => ?_, by rw [List.map_append]; exact upd_same, (E2.up (by omega)).upd (D4.none np) pb⟩
        rcases List.mem_append.mp hz with hz | hz
        · exact al z hz
        · obtain rfl := List.mem_singleton.mp hz
          exact ⟨j0, j1⟩
      obtain ⟨⟨x4, x5, rfl⟩, zs, hl, al, hz, D8⟩ := z
      walk_at "rd"
      refine ⟨p, _, rfl, .inl ⟨SqL.of hz, fun f hf => ?_⟩⟩
      have sf := same_new (o := .tup (zs.map V.int)) hf
      have ef : upd h f (.tup (zs.map V.int)) f = some (.tup (zs.map V.int)) := upd_same
      generalize upd h f (.tup (zs.map V.int)) = h2 at sf ef ⊢
      walk_at "rd"
      refine newT rfl fun x H7 _ s7 e7 => ?_
      have D9 := (D8.same sf).same s7
      exact q x (.mix zs m) H7 rfl ⟨⟨by omega, by omega, al⟩, hm⟩ ⟨f, e7, s7 _ _ ef⟩ D9.chg (D9.bx.up (by omega))
    · refine iteFb (by decide +kernel) ?_
      walk_at "rd"
      refine newT rfl fun t3 H3 nt3 sH3 et3 => ?_
      refine ⟨t3, _, rfl, .inr (SqT.of et3), rfl, rfl, ?_⟩
      walk_at "rd"
      refine iteFb (by decide +kernel) ?_
      walk_at "rd"
      refine iteFb (by decide +kernel) ?_
      walk_at "rd"
      refine iteFb (by decide +kernel) ?_
      walk_at "rd"
      refine newT rfl fun t4 H4 nt4 sH4 et4 => ?_
      refine ⟨t4, _, rfl, .inr (SqT.of et4), rfl, rfl, ?_⟩
      walk_at "rd"
      refine iteFb (by decide +kernel) ?_
      walk_at "rd"
      refine iteTb (by decide +kernel) ?_
      walk_at "rd"
      have D4 := (D2.same sH3).same sH4
      refine newT rfl fun x H6 _ s6 e6 => ?_
      exact q x (.times m) H6 rfl hm e6 (D4.same s6).chg ((D4.same s6).bx.up (by omega))
    · refine iteFb (by decide +kernel) ?_
      walk_at "rd"
      refine newT rfl fun t3 H3 nt3 sH3 et3 => ?_
      refine ⟨t3, _, rfl, .inr (SqT.of et3), rfl, rfl, ?_⟩
      walk_at "rd"
      refine iteFb (by decide +kernel) ?_
      walk_at "rd"
      refine iteFb (by decide +kernel) ?_
      walk_at "rd"
      refine iteFb (by decide +kernel) ?_
      walk_at "rd"
      refine newT rfl fun t4 H4 nt4 sH4 et4 => ?_
      refine ⟨t4, _, rfl, .inr (SqT.of et4), rfl, rfl, ?_⟩
      walk_at "rd"
      refine iteFb (by decide +kernel) ?_
      walk_at "rd"
      refine iteFb (by decide +kernel) ?_
      walk_at "rd"
      refine iteTb (by decide +kernel) ?_
      walk_at "rd"
      have D4 := (D2.same sH3).same sH4
      refine dr_take D4 (by decide) (by decide) (by omega) fun d H5 d0 d1 kH5 D5 => ?_
      walk_at "rd"
      refine newL rfl fun p33 G33 np33 s33 e33 => ?_
      walk_at "rd"
      refine dr_take (D5.same s33) (by decide) (by decide) (by omega) fun d33 H6 d033 d133 c33 D6 => ?_
      have kH6 := (Chg.of s33).trans c33
      walk_at "rd"
      refine r_ixP (R := (fun v => ∃ i : Int, v = .int i ∧ 1 ≤ i ∧ i ≤ 64)) (c33.one (D5.new np33) e33) (by intro v hv; repeat (first | exact absurd hv List.not_mem_nil | (rcases List.mem_cons.mp hv with rfl | hv; · exact ⟨_, rfl, by omega, by omega⟩))) d033 d133 ?_
      rintro v ⟨j, rfl, j0, j1⟩
      walk_at "rd"
      refine newT rfl fun x H7 _ s7 e7 => ?_
      exact q x (.delay j) H7 rfl ⟨j0, j1⟩ e7 (D6.same s7).chg ((D6.same s7).bx.up (by omega))
    · refine iteFb (by decide +kernel) ?_
      walk_at "rd"
      refine newT rfl fun t3 H3 nt3 sH3 et3 => ?_
      refine ⟨t3, _, rfl, .inr (SqT.of et3), rfl, rfl, ?_⟩
      walk_at "rd"
      refine iteFb (by decide +kernel) ?_
      walk_at "rd"
      refine iteFb (by decide +kernel) ?_
      walk_at "rd"
      refine iteFb (by decide +kernel) ?_
      walk_at "rd"
      refine newT rfl fun t4 H4 nt4 sH4 et4 => ?_
      refine ⟨t4, _, rfl, .inr (SqT.of et4), rfl, rfl, ?_⟩
      walk_at "rd"
      refine iteFb (by decide +kernel) ?_
      walk_at "rd"
      refine iteFb (by decide +kernel) ?_
      walk_at "rd"
      refine iteFb (by decide +kernel) ?_
      walk_at "rd"
      have D4 := (D2.same sH3).same sH4
      refine dr_take D4 (by decide) (by decide) (by omega) fun d H5 d0 d1 kH5 D5 => ?_
      walk_at "rd"
      refine newL rfl fun p37 G37 np37 s37 e37 => ?_
      walk_at "rd"
      refine dr_take (D5.same s37) (by decide) (by decide) (by omega) fun d37 H6 d037 d137 c37 D6 => ?_
      have kH6 := (Chg.of s37).trans c37
      walk_at "rd"
      refine r_ixP (R := (fun v => ∃ i : Int, v = .int i ∧ 1 ≤ i ∧ i ≤ 2047)) (c37.one (D5.new np37) e37) (by intro v hv; repeat (first | exact absurd hv List.not_mem_nil | (rcases List.mem_cons.mp hv with rfl | hv; · exact ⟨_, rfl, by omega, by omega⟩))) d037 d137 ?_
      rintro v ⟨j, rfl, j0, j1⟩
      walk_at "rd"
      refine newT rfl fun x H7 _ s7 e7 => ?_
      exact q x (.follow j) H7 rfl ⟨j0, j1⟩ e7 (D6.same s7).chg ((D6.same s7).bx.up (by omega))
theorem c_law_part (T : Txt K mg w C_NoPart C_NoIns C_Worker) : Cal P w K mg base (L2.CX P w) 2 "_law_part" ["box", "kind"] spLPart :=
  T.d_law_part.cal (fun F => ok_law_part T F) fun _ _ _ _ _ _ us hl => match us, hl with | [_, _], _ => rfl
end
end KB
set_option linter.all false
set_option maxRecDepth 100000
set_option maxHeartbeats 4000000
namespace KB
open PySem PySem.Spec PyProof.Rows L2 Gx
local macro_rules | `(tactic| walk_at "rd1") => `(tactic| with_reducible first
  | refine r_var rfl ?_ | refine r_c ?_ | refine r_op ?_ | refine r_un ?_ | refine r_I0 ?_ | refine r_neg ?_ | refine r_test ?_ | refine r_B ?_ | refine r_bl ?_ | refine r_blx ?_
  | refine r_seq ?_ | refine r_ret ?_ | refine r_asg ?_ | refine r_name ?_ | refine r_gsub ?_ | refine r_if ?_ | refine r_next ?_ | refine r_drop ?_ | refine r_cb ?_ | refine r_nil ?_ | refine r_cons ?_
  | refine r_g ?_ | refine r_k ?_ | refine r_lstN ?_ | refine r_tupN ?_ | refine r_notV ?_ | refine r_ifE ?_ | refine r_and ?_ | refine r_or ?_ | refine r_not ?_ | refine r_chain ?_
  | refine r_sl ?_ | refine r_part ?_ | refine r_nop ?_ | refine r_par3 ?_ | refine r_is3 ?_ | refine r_par2 ?_ | refine r_is2 ?_ | refine r_m0 ?_ | refine r_ei ?_ | refine r_nx ?_ | refine r_rt ?_ | refine r_ct ?_ | refine r_eq rfl ?_ | refine r_ne rfl ?_ | refine iteT ?_ | refine iteF ?_ | refine iteNF ?_ | refine iteNT ?_
  | (refine r_fdivK ?hc ?_; (case hc => decide +kernel)) | (refine r_modK ?hc ?_; (case hc => decide +kernel)) | (refine r_mulL ?hc ?_; (case hc => decide +kernel)) | (refine r_mulR ?hc ?_; (case hc => decide +kernel)) | (refine r_powK ?hc ?_; (case hc => decide +kernel)) | fail "no step")
local macro_rules | `(tactic| walk_at "rd") => `(tactic| repeat' walk_at "rd1")
section
variable {P : Program} {w : World} {K : PySem.W.Frag} {mg : Str → Option Value} {base : Heap} {f : Addr} {fd : FuncData} {C_NoPart C_NoIns C_Worker : Addr}
/-! ### the law's own rules -/
theorem sc_law_folded : FnScope ["number", "manner", "rest"] ["number", "manner"] (defScope s_law_folded) := ⟨rfl, rfl, rfl, by decide +kernel, rfl, by decide +kernel, by decide +kernel⟩
theorem ok_law_folded (T : Txt K mg w C_NoPart C_NoIns C_Worker) (F : Fun K "_law_folded" "_law_folded" s_law_folded f fd) : FnG P w K mg base (L2.CX P w) 1 f fd ["number", "manner"] spFold := by
  refine fnG F sc_law_folded (fun vs H Q E h => ?_) (fun cdv A outer s H vs Q E hG hr h => ?_)
  · obtain ⟨i, z, rfl, wy, q⟩ := h
    all_goals rfl
  · obtain ⟨i, z, rfl, wy, q⟩ := h
    have nd := sc_law_folded.nd
    refine ⟨_, (pss_cons (ps_if (pt_cmpR op_eq (pv 1) pe_str (nomark _)) (pss_one (ps_ret (pe_callB (call_max2 rfl) (by rfl) T.n_max (by decide +kernel) (pa_cons (pe_un un_neg pe_int) (pa_cons (pe_callB (call_min2 rfl) (by rfl) T.n_min (by decide +kernel) (pa_cons pe_int (pa_cons (pv 0) pa_nil))) pa_nil))))) pss_nil)
        (pss_cons (ps_if (pt_cmpR op_eq (pv 1) pe_str (nomark _)) (pss_one (ps_ret (pe_op op_sub (pe_op op_mod (pe_op op_add (pv 0) pe_int) pe_int) pe_int))) pss_nil)
        (pss_cons (ps_set (i := 2) nd rfl (Or.inl rfl) (pe_op op_mod (pe_op op_add (pv 0) pe_int) pe_int))
        (pss_one (ps_ret (pe_op op_sub (pe_ifExp (pt_cmpR op_lt (pv 2) pe_int (nomark _)) (pv 2) (pe_op op_sub pe_int (pv 2))) pe_int)))))), ?_⟩
    walk_at "rd"
    rcases wy with rfl | rfl | rfl
    · refine iteTb (by decide +kernel) ?_
      walk_at "rd"
      refine ⟨_, _, rfl, ?_⟩
      walk_at "rd"
      refine ⟨_, _, rfl, ?_⟩
      walk_at "rd"
      refine (congrArg (fun n => Q (.int n) H) ?_).mp q
      show dClip i = _
      unfold dClip
      split <;> split <;> omega
    · refine iteFb (by decide +kernel) ?_
      walk_at "rd"
      refine iteTb (by decide +kernel) ?_
      walk_at "rd"
      exact q
    · refine iteFb (by decide +kernel) ?_
      walk_at "rd"
      refine iteFb (by decide +kernel) ?_
      walk_at "rd"
      have q : Q (.int (dFold i)) H := q
      unfold dFold at q
      refine ite2 (fun c => ?_) (fun c => ?_)
      · walk_at "rd"
        rwa [if_pos (of_decide_eq_true c)] at q
      · walk_at "rd"
        rwa [if_neg fun z => c (decide_eq_true z)] at q
theorem c_law_folded (T : Txt K mg w C_NoPart C_NoIns C_Worker) : Cal P w K mg base (L2.CX P w) 1 "_law_folded" ["number", "manner"] spFold :=
  T.d_law_folded.cal (fun F => ok_law_folded T F) fun _ _ _ _ _ _ us hl => match us, hl with | [_, _], _ => rfl
theorem sc_law_table : FnScope ["table", "place"] ["table", "place"] (defScope s_law_table) := ⟨rfl, rfl, rfl, by decide +kernel, rfl, by decide +kernel, by decide +kernel⟩
theorem ok_law_table (T : Txt K mg w C_NoPart C_NoIns C_Worker) (F : Fun K "_law_table" "_law_table" s_law_table f fd) : FnG P w K mg base (L2.CX P w) 1 f fd ["table", "place"] spLTab := by
  refine fnG F sc_law_table (fun vs H Q E h => ?_) (fun cdv A outer s H vs Q E hG hr h => ?_)
  · obtain ⟨z, p, rfl, tb, p0, p1, q⟩ := h
    all_goals rfl
  · obtain ⟨z, p, rfl, tb, p0, p1, q⟩ := h
    have nd := sc_law_table.nd
    refine ⟨_, (pss_cons (ps_if (pt_cmpR op_eq (pv 0) pe_str (nomark _)) (pss_one (ps_ret (pe_op op_sub (pe_op op_mul pe_int (pv 1)) pe_int))) pss_nil)
        (pss_cons (ps_if (pt_cmpR op_in_seq (pv 0) (pe_tup (pa_cons pe_str (pa_cons pe_str pa_nil))) (by rfl)) (pss_one (ps_ret (pe_ifExp (pt_cmpR op_lt (pv 1) (pe_dget (Nat.lt_of_le_of_lt (Nat.add_le_add_left (by decide : 1 ≤ 64) _) hr.units) (pe_disp (pps_cons pe_str pe_int (pps_cons pe_str pe_int pps_nil)) (by rfl) (by rfl) (by simp) (by decide)) (pv 0) (fun _ _ => rfl)) (nomark _)) pe_int (pe_un un_neg pe_int)))) pss_nil)
        (pss_cons (ps_if (pt_cmpR op_eq (pv 0) pe_str (nomark _)) (pss_one (ps_ret (pe_ifExp (pt_cmpR op_lt (pv 1) pe_int (nomark _)) (pe_op op_sub (pe_op op_mul pe_int (pv 1)) pe_int) (pe_op op_sub pe_int (pe_op op_mul pe_int (pe_op op_sub (pv 1) pe_int)))))) pss_nil)
        (pss_cons (ps_if (pt_cmpR op_lt (pv 1) pe_int (nomark _)) (pss_one (ps_ret (pe_callB (call_min2 rfl) (by rfl) T.n_min (by decide +kernel) (pa_cons pe_int (pa_cons (pe_op op_mul (pe_op op_mul pe_int (pv 1)) (pe_op op_sub pe_int (pv 1))) pa_nil))))) pss_nil)
        (pss_one (ps_ret (pe_op op_sub pe_int (pe_op op_mul (pe_op op_mul pe_int (pe_op op_sub (pv 1) pe_int)) (pe_op op_sub pe_int (pv 1)))))))))), ?_⟩
    walk_at "rd"
    rcases tb with rfl | rfl | rfl | rfl | rfl
    · refine iteTb (by decide +kernel) ?_
      walk_at "rd"
      exact q H (Same.refl H)
    · refine iteFb (by decide +kernel) ?_
      walk_at "rd"
      refine newT rfl fun t H1 nt sH1 et => ?_
      refine ⟨t, _, rfl, .inr (SqT.of et), rfl, rfl, ?_⟩
      walk_at "rd"
      refine iteTb (by decide +kernel) ?_
      walk_at "rd"
      refine r_disp2 fun dd hdd => ?_
      have s2 := sH1.trans (same_new (o := .dK (mergeK [] [(.inr "square", .int 32), (.inr "pulse", .int 8)])) hdd)
      walk_at "rd"
      refine ⟨dd, .int 32, rfl, (by rw [show some (V.int 32) = valV (mergeK [] [(.inr "square", .int 32), (.inr "pulse", .int 8)]) (.inr "square") from rfl]; exact DGet.k (k := .inr "square") upd_same), ?_⟩
      walk_at "rd"
      have q : ∀ H', Same H H' → Q (.int (gSquare p)) H' := q
      unfold gSquare at q
      refine ite2 (fun c => ?_) (fun c => ?_)
      · walk_at "rd"
        have q := q _ s2
        rwa [if_pos (of_decide_eq_true c)] at q
      · walk_at "rd"
        have q := q _ s2
        rwa [if_neg fun z => c (decide_eq_true z)] at q
    · refine iteFb (by decide +kernel) ?_
      walk_at "rd"
      refine newT rfl fun t H1 nt sH1 et => ?_
      refine ⟨t, _, rfl, .inr (SqT.of et), rfl, rfl, ?_⟩
      walk_at "rd"
      refine iteFb (by decide +kernel) ?_
      walk_at "rd"
      refine iteTb (by decide +kernel) ?_
      walk_at "rd"
      have q : Q (.int (gTri p)) H1 := q H1 sH1
      unfold gTri at q
      refine ite2 (fun c => ?_) (fun c => ?_)
      · walk_at "rd"
        rwa [if_pos (of_decide_eq_true c)] at q
      · walk_at "rd"
        rwa [if_neg fun z => c (decide_eq_true z)] at q
    · refine iteFb (by decide +kernel) ?_
      walk_at "rd"
      refine newT rfl fun t H1 nt sH1 et => ?_
      refine ⟨t, _, rfl, .inr (SqT.of et), rfl, rfl, ?_⟩
      walk_at "rd"
      refine iteTb (by decide +kernel) ?_
      walk_at "rd"
      refine r_disp2 fun dd hdd => ?_
      have s2 := sH1.trans (same_new (o := .dK (mergeK [] [(.inr "square", .int 32), (.inr "pulse", .int 8)])) hdd)
      walk_at "rd"
      refine ⟨dd, .int 8, rfl, (by rw [show some (V.int 8) = valV (mergeK [] [(.inr "square", .int 32), (.inr "pulse", .int 8)]) (.inr "pulse") from rfl]; exact DGet.k (k := .inr "pulse") upd_same), ?_⟩
      walk_at "rd"
      have q : ∀ H', Same H H' → Q (.int (gPulse p)) H' := q
      unfold gPulse at q
      refine ite2 (fun c => ?_) (fun c => ?_)
      · walk_at "rd"
        have q := q _ s2
        rwa [if_pos (of_decide_eq_true c)] at q
      · walk_at "rd"
        have q := q _ s2
        rwa [if_neg fun z => c (decide_eq_true z)] at q
    · refine iteFb (by decide +kernel) ?_
      walk_at "rd"
      refine newT rfl fun t H1 nt sH1 et => ?_
      refine ⟨t, _, rfl, .inr (SqT.of et), rfl, rfl, ?_⟩
      walk_at "rd"
      refine iteFb (by decide +kernel) ?_
      walk_at "rd"
      refine iteFb (by decide +kernel) ?_
      walk_at "rd"
      have q : Q (.int (gHump p)) H1 := q H1 sH1
      unfold gHump at q
      refine ite2 (fun c => ?_) (fun c => ?_)
      · walk_at "rd"
        refine r_I (show CMul _ _ from .inl ⟨by omega, by omega⟩) ?_
        walk_at "rd"
        refine ⟨_, _, rfl, ?_⟩
        walk_at "rd"
        rw [if_pos (of_decide_eq_true c)] at q
        refine (congrArg (fun n => Q (.int n) H1) ?_).mp q
        split <;> omega
      · walk_at "rd"
        refine r_I (show CMul _ _ from .inl ⟨by omega, by omega⟩) ?_
        walk_at "rd"
        rwa [if_neg fun z => c (decide_eq_true z)] at q
theorem c_law_table (T : Txt K mg w C_NoPart C_NoIns C_Worker) : Cal P w K mg base (L2.CX P w) 1 "_law_table" ["table", "place"] spLTab :=
  T.d_law_table.cal (fun F => ok_law_table T F) fun _ _ _ _ _ _ us hl => match us, hl with | [_, _], _ => rfl
theorem sc_law_new : FnScope ["part", "kind"] ["part"] (defScope s_law_new) := ⟨rfl, rfl, rfl, by decide +kernel, rfl, by decide +kernel, by decide +kernel⟩
theorem ok_law_new (T : Txt K mg w C_NoPart C_NoIns C_Worker) (F : Fun K "_law_new" "_law_new" s_law_new f fd) : FnG P w K mg base (L2.CX P w) 1 f fd ["part"] spLNew := by
  refine fnG F sc_law_new (fun vs H Q E h => ?_) (fun cdv A outer s H vs Q E hG hr h => ?_)
  · obtain ⟨x, p, rfl, hx, ok, q⟩ := h
    all_goals rfl
  · obtain ⟨x, p, rfl, hx, ok, q⟩ := h
    have nd := sc_law_new.nd
    refine ⟨_, (pss_cons (ps_set (i := 1) nd rfl (Or.inl rfl) (pe_ix ix_tup (pv 0) pe_int (fun _ _ => rfl)))
        (pss_cons (ps_if (pt_cmpR op_eq (pv 1) pe_str (nomark _)) (pss_one (ps_ret (pe_lst (pa_cons (pe_ix ix_tup (pv 0) pe_int (fun _ _ => rfl)) pa_nil)))) pss_nil)
        (pss_cons (ps_if (pt_cmpR op_eq (pv 1) pe_str (nomark _)) (pss_one (ps_ret (pe_lst (pa_cons pe_str (pa_cons pe_int pa_nil))))) pss_nil)
        (pss_cons (ps_if (pt_cmpR op_in_seq (pv 1) (pe_tup (pa_cons pe_str (pa_cons pe_str pa_nil))) (by rfl)) (pss_one (ps_ret (pe_op op_rep (pe_lst (pa_cons pe_int pa_nil)) (pe_ifExp (pt_cmpR op_eq (pv 1) pe_str (nomark _)) (pe_ix ix_tup (pv 0) pe_int (fun _ _ => rfl)) (pe_callB call_len_seq (by rfl) T.n_len PySem.boot_len (pa_cons (pe_ix ix_tup (pv 0) pe_int (fun _ _ => rfl)) pa_nil)))))) pss_nil)
        (pss_one (ps_ret (pe_lst (pa_cons pe_int (pa_cons pe_int pa_nil))))))))), ?_⟩
    walk_at "rd"
    cases p with
    | noise s =>
      refine ⟨x, _, 0, _, rfl, rfl, SqT.of hx, rfl, ?_⟩
      walk_at "rd"
      refine iteTb (by decide +kernel) ?_
      walk_at "rd"
      refine ⟨x, _, 1, _, rfl, rfl, SqT.of hx, rfl, ?_⟩
      walk_at "rd"
      exact newL rfl fun l H1 nl s1 e1 => q l _ H1 nl s1 e1 rfl
    | shape p =>
      refine ⟨x, _, 0, _, rfl, rfl, SqT.of hx, rfl, ?_⟩
      walk_at "rd"
      refine iteFb (by decide +kernel) ?_
      walk_at "rd"
      refine iteTb (by decide +kernel) ?_
      walk_at "rd"
      exact newL rfl fun l H1 nl s1 e1 => q l _ H1 nl s1 e1 ⟨rfl, fun _ => rfl⟩
    | taps fs m =>
      obtain ⟨f1, hx, hf⟩ := hx
      obtain ⟨⟨o1, o2, _⟩, _⟩ := ok
      refine ⟨x, _, 0, _, rfl, rfl, SqT.of hx, rfl, ?_⟩
      walk_at "rd"
      refine iteFb (by decide +kernel) ?_
      walk_at "rd"
      refine iteFb (by decide +kernel) ?_
      walk_at "rd"
      refine newT rfl fun t H1 nt sH1 et => ?_
      refine ⟨t, _, rfl, .inr (SqT.of et), rfl, rfl, ?_⟩
      walk_at "rd"
      refine iteTb (by decide +kernel) ?_
      walk_at "rd"
      refine newL rfl fun z H2 nz s2 e2 => ?_
      have sx := sH1.trans s2
      walk_at "rd"
      refine iteFb (by decide +kernel) ?_
      walk_at "rd"
      refine ⟨x, _, 1, _, rfl, rfl, SqT.of (sx _ _ hx), rfl, ?_⟩
      walk_at "rd"
      refine ⟨f1, _, rfl, .inr (SqT.of (sx _ _ hf)), ?_⟩
      walk_at "rd"
      rw [List.length_map]
      refine ⟨z, _, _, rfl, rfl, e2, by omega, by omega, by rw [sizeLine_eq]; simp only [List.length_singleton]; omega, fun l hl => ?_⟩
      have e3 : (List.replicate ((fs.length : Int)).toNat [V.int 0]).flatten = ((List.replicate (fs.length - 1) (0 : Int)) ++ [0]).map V.int := by
        rw [rep_flat, show ((fs.length : Int)).toNat = fs.length - 1 + 1 by omega, List.replicate_succ']
      rw [e3]
      exact q l _ _ (none_of sx hl) (sx.trans (same_new hl)) upd_same ⟨0, rfl⟩
    | delay n =>
      obtain ⟨o1, o2⟩ := ok
      refine ⟨x, _, 0, _, rfl, rfl, SqT.of hx, rfl, ?_⟩
      walk_at "rd"
      refine iteFb (by decide +kernel) ?_
      walk_at "rd"
      refine iteFb (by decide +kernel) ?_
      walk_at "rd"
      refine newT rfl fun t H1 nt sH1 et => ?_
      refine ⟨t, _, rfl, .inr (SqT.of et), rfl, rfl, ?_⟩
      walk_at "rd"
      refine iteTb (by decide +kernel) ?_
      walk_at "rd"
      refine newL rfl fun z H2 nz s2 e2 => ?_
      have sx := sH1.trans s2
      walk_at "rd"
      refine iteTb (by decide +kernel) ?_
      walk_at "rd"
      refine ⟨x, _, 1, _, rfl, rfl, SqT.of (sx _ _ hx), rfl, ?_⟩
      walk_at "rd"
      refine ⟨z, _, _, rfl, rfl, e2, by omega, by omega, by rw [sizeLine_eq]; simp only [List.length_singleton]; omega, fun l hl => ?_⟩
      rw [rep_flat]
      exact q l _ _ (none_of sx hl) (sx.trans (same_new hl)) upd_same rfl
    | frm n =>
      refine ⟨x, _, 0, _, rfl, rfl, SqT.of hx, rfl, ?_⟩
      walk_at "rd"
      refine iteFb (by decide +kernel) ?_
      walk_at "rd"
      refine iteFb (by decide +kernel) ?_
      walk_at "rd"
      refine newT rfl fun t3 H1 nt3 sH1 et3 => ?_
      refine ⟨t3, _, rfl, .inr (SqT.of et3), rfl, rfl, ?_⟩
      walk_at "rd"
      refine iteFb (by decide +kernel) ?_
      walk_at "rd"
      exact newL rfl fun l H2 nl s2 e2 => q l _ H2 (none_of sH1 nl) (sH1.trans s2) e2 trivial
    | wave t s =>
      refine ⟨x, _, 0, _, rfl, rfl, SqT.of hx, rfl, ?_⟩
      walk_at "rd"
      refine iteFb (by decide +kernel) ?_
      walk_at "rd"
      refine iteFb (by decide +kernel) ?_
      walk_at "rd"
      refine newT rfl fun t3 H1 nt3 sH1 et3 => ?_
      refine ⟨t3, _, rfl, .inr (SqT.of et3), rfl, rfl, ?_⟩
      walk_at "rd"
      refine iteFb (by decide +kernel) ?_
      walk_at "rd"
      exact newL rfl fun l H2 nl s2 e2 => q l _ H2 (none_of sH1 nl) (sH1.trans s2) e2 ⟨0, rfl⟩
    | slow t s =>
      refine ⟨x, _, 0, _, rfl, rfl, SqT.of hx, rfl, ?_⟩
      walk_at "rd"
      refine iteFb (by decide +kernel) ?_
      walk_at "rd"
      refine iteFb (by decide +kernel) ?_
      walk_at "rd"
      refine newT rfl fun t3 H1 nt3 sH1 et3 => ?_
      refine ⟨t3, _, rfl, .inr (SqT.of et3), rfl, rfl, ?_⟩
      walk_at "rd"
      refine iteFb (by decide +kernel) ?_
      walk_at "rd"
      exact newL rfl fun l H2 nl s2 e2 => q l _ H2 (none_of sH1 nl) (sH1.trans s2) e2 ⟨0, rfl, rfl⟩
    | mix fs m =>
      obtain ⟨f1, hx, hf⟩ := hx
      refine ⟨x, _, 0, _, rfl, rfl, SqT.of hx, rfl, ?_⟩
      walk_at "rd"
      refine iteFb (by decide +kernel) ?_
      walk_at "rd"
      refine iteFb (by decide +kernel) ?_
      walk_at "rd"
      refine newT rfl fun t3 H1 nt3 sH1 et3 => ?_
      refine ⟨t3, _, rfl, .inr (SqT.of et3), rfl, rfl, ?_⟩
      walk_at "rd"
      refine iteFb (by decide +kernel) ?_
      walk_at "rd"
      exact newL rfl fun l H2 nl s2 e2 => q l _ H2 (none_of sH1 nl) (sH1.trans s2) e2 trivial
    | times m =>
      refine ⟨x, _, 0, _, rfl, rfl, SqT.of hx, rfl, ?_⟩
      walk_at "rd"
      refine iteFb (by decide +kernel) ?_
      walk_at "rd"
      refine iteFb (by decide +kernel) ?_
      walk_at "rd"
      refine newT rfl fun t3 H1 nt3 sH1 et3 => ?_
      refine ⟨t3, _, rfl, .inr (SqT.of et3), rfl, rfl, ?_⟩
      walk_at "rd"
      refine iteFb (by decide +kernel) ?_
      walk_at "rd"
      exact newL rfl fun l H2 nl s2 e2 => q l _ H2 (none_of sH1 nl) (sH1.trans s2) e2 trivial
    | follow s =>
      refine ⟨x, _, 0, _, rfl, rfl, SqT.of hx, rfl, ?_⟩
      walk_at "rd"
      refine iteFb (by decide +kernel) ?_
      walk_at "rd"
      refine iteFb (by decide +kernel) ?_
      walk_at "rd"
      refine newT rfl fun t3 H1 nt3 sH1 et3 => ?_
      refine ⟨t3, _, rfl, .inr (SqT.of et3), rfl, rfl, ?_⟩
      walk_at "rd"
      refine iteFb (by decide +kernel) ?_
      walk_at "rd"
      exact newL rfl fun l H2 nl s2 e2 => q l _ H2 (none_of sH1 nl) (sH1.trans s2) e2 ⟨0, rfl⟩
theorem c_law_new (T : Txt K mg w C_NoPart C_NoIns C_Worker) : Cal P w K mg base (L2.CX P w) 1 "_law_new" ["part"] spLNew :=
  T.d_law_new.cal (fun F => ok_law_new T F) fun _ _ _ _ _ _ us hl => match us, hl with | [_], _ => rfl
theorem sc_law_shaped : FnScope ["state", "part", "gate", "word", "level", "up", "down", "stay", "away"] ["state", "part", "gate"] (defScope s_law_shaped) := ⟨rfl, rfl, rfl, by decide +kernel, rfl, by decide +kernel, by decide +kernel⟩
theorem ok_law_shaped (T : Txt K mg w C_NoPart C_NoIns C_Worker) (F : Fun K "_law_shaped" "_law_shaped" s_law_shaped f fd) : FnG P w K mg base (L2.CX P w) 1 f fd ["state", "part", "gate"] spLShaped := by
  refine fnG F sc_law_shaped (fun vs H Q E h => ?_) (fun cdv A outer s H vs Q E hG hr h => ?_)
  · obtain ⟨l, x, g, p, lv, y, rfl, hl, hr0, hx, q⟩ := h
    all_goals rfl
  · obtain ⟨l, x, g, p, lv, y, rfl, hl, hr0, hx, q⟩ := h
    have nd := sc_law_shaped.nd
    refine ⟨_, (pss_cons (ps_asg (pv 0) (pg_unl rfl (pgs_cons (pg_name (i := 3) nd rfl (Or.inl rfl)) (pgs_cons (pg_name (i := 4) nd rfl (Or.inl rfl)) pgs_nil))))
        (pss_cons (ps_asg (pe_slice sl_tupA (pv 1) (po_some pe_int) po_none) (pg_tup rfl (pgs_cons (pg_name (i := 5) nd rfl (Or.inl rfl)) (pgs_cons (pg_name (i := 6) nd rfl (Or.inl rfl)) (pgs_cons (pg_name (i := 7) nd rfl (Or.inl rfl)) (pgs_cons (pg_name (i := 8) nd rfl (Or.inl rfl)) pgs_nil))))))
        (pss_cons (ps_if (PW.pt (pw_and (pt_cmpR op_gt (pv 2) pe_int (nomark _)) (pw_and1 (pt_cmpR op_in_seq (pv 3) (pe_tup (pa_cons pe_str (pa_cons pe_str pa_nil))) (by rfl))))) (pss_one (ps_set (i := 3) nd rfl (Or.inl rfl) pe_str)) pss_nil)
        (pss_cons (ps_if (PW.pt (pw_and (pt_cmpR op_le (pv 2) pe_int (nomark _)) (pw_and1 (pt_cmpR op_in_seq (pv 3) (pe_tup (pa_cons pe_str (pa_cons pe_str (pa_cons pe_str pa_nil)))) (by rfl))))) (pss_one (ps_set (i := 3) nd rfl (Or.inl rfl) pe_str)) pss_nil)
        (pss_cons (ps_if (pt_cmpR op_eq (pv 3) pe_str (nomark _)) (pss_cons (ps_set (i := 4) nd rfl (Or.inl rfl) (pe_callB (call_min2 rfl) (by rfl) T.n_min (by decide +kernel) (pa_cons pe_int (pa_cons (pe_op op_add (pv 4) (pv 5)) pa_nil))))
        (pss_one (ps_set (i := 3) nd rfl (Or.inl rfl) (pe_ifExp (pt_cmpR op_eq (pv 4) pe_int (nomark _)) pe_str (pv 3))))) (pss_one (ps_if (pt_cmpR op_eq (pv 3) pe_str (nomark _)) (pss_cons (ps_set (i := 4) nd rfl (Or.inl rfl) (pe_callB (call_max2 rfl) (by rfl) T.n_max (by decide +kernel) (pa_cons (pv 7) (pa_cons (pe_op op_sub (pv 4) (pv 6)) pa_nil))))
        (pss_one (ps_set (i := 3) nd rfl (Or.inl rfl) (pe_ifExp (pt_cmpR op_eq (pv 4) (pv 7) (nomark _)) pe_str (pv 3))))) (pss_one (ps_if (pt_cmpR op_eq (pv 3) pe_str (nomark _)) (pss_one (ps_set (i := 4) nd rfl (Or.inl rfl) (pv 7))) (pss_one (ps_if (pt_cmpR op_eq (pv 3) pe_str (nomark _)) (pss_cons (ps_set (i := 4) nd rfl (Or.inl rfl) (pe_callB (call_max2 rfl) (by rfl) T.n_max (by decide +kernel) (pa_cons pe_int (pa_cons (pe_op op_sub (pv 4) (pv 8)) pa_nil))))
        (pss_one (ps_set (i := 3) nd rfl (Or.inl rfl) (pe_ifExp (pt_cmpR op_eq (pv 4) pe_int (nomark _)) pe_str (pv 3))))) pss_nil)))))))
        (pss_cons (ps_asg (pe_tup (pa_cons (pv 3) (pa_cons (pe_ifExp (pt_cmpR op_ne (pv 3) pe_str (nomark _)) (pv 4) pe_int) pa_nil))) (pg_tup rfl (pgs_cons (pg_sub (pv 0) pe_int set_list) (pgs_cons (pg_sub (pv 0) pe_int set_list) pgs_nil))))
        (pss_one (ps_ret (pe_ix ix_list (pv 0) pe_int (fun _ _ => rfl)))))))))), ?_⟩
    walk_at "rd"
    refine ⟨l, _, rfl, SqL.of hl, rfl, ?_⟩
    refine r_gc ?_
    walk_at "rd"
    refine r_gc ?_
    walk_at "rd"
    refine r_gn ?_
    walk_at "rd"
    refine r_slA hx fun t1 H1 s1 e1 => ?_
    rw [cut_tail (by simp)] at e1
    have e1 : H1 t1 = some (.tup [.int p.u, .int p.d, .int p.s, .int p.a]) := e1
    walk_at "rd"
    refine ⟨t1, _, rfl, SqT.of e1, rfl, ?_⟩
    refine r_gc ?_
    walk_at "rd"
    refine r_gc ?_
    walk_at "rd"
    refine r_gc ?_
    walk_at "rd"
    refine r_gc ?_
    walk_at "rd"
    refine r_gn ?_
    walk_at "rd"
    by_cases c : 0 < g
    · have c1 : decide (g ≤ 0) = false := decide_eq_false (by omega)
      rw [decide_eq_true c] at q
      refine iteTb (decide_eq_true c) ?_
      walk_at "rd"
      refine newT rfl fun t2 H2 _ s2 e2 => ?_
      refine ⟨t2, _, rfl, .inr (SqT.of e2), by cases y <;> rfl, rfl, ?_⟩
      walk_at "rd"
      cases y with
      | rest =>
        refine iteTb (by decide +kernel) ?_
        walk_at "rd"
        refine iteFb c1 ?_
        walk_at "rd"
        refine iteTb (by decide +kernel) ?_
        walk_at "rd"
        refine ⟨_, _, rfl, ?_⟩
        walk_at "rd"
        have e : (if lv + p.u < 2047 then lv + p.u else 2047) = min 2047 (lv + p.u) := by split <;> omega
        rw [e]
        refine ite2 (fun c2 => ?_) (fun c2 => ?_)
        · have c2 : V.int (min 2047 (lv + p.u)) = .int 2047 := of_decide_eq_true c2
          injection c2 with c2
          have e : mv p lv (wordF .rest true) = (2047, .down) := by simp only [wordF, mv, c2, if_pos]
          rw [e] at q
          rw [c2]
          walk_at "rd"
          refine iteTb (by decide +kernel) ?_
          walk_at "rd"
          refine newT rfl fun t3 H3 _ s3 e3 => ?_
          have hl3 := (s1.trans (s2.trans s3)) _ _ hl
          have c3 : Chg [l] H (upd H3 l (.lst [.str "down", .int (2047)])) := (Chg.of (s1.trans (s2.trans s3))).trans (Chg.upd hl3 fun _ z => nomatch z)
          refine ⟨t3, _, rfl, SqT.of e3, rfl, ?_⟩
          refine r_gc ?_
          walk_at "rd"
          refine ⟨l, _, 0, 0, rfl, rfl, hl3, rfl, ?_⟩
          refine r_gc ?_
          walk_at "rd"
          refine ⟨l, _, 1, 1, rfl, rfl, upd_same, rfl, ?_⟩
          rw [upd_upd]
          refine r_gn ?_
          walk_at "rd"
          exact ⟨l, _, 1, _, rfl, rfl, SqL.of upd_same, rfl, q _ c3 ⟨upd_same, (fun z => nomatch z)⟩⟩
        · have c2 : ¬ min 2047 (lv + p.u) = 2047 := fun z => c2 (decide_eq_true (by rw [z]))
          have e : mv p lv (wordF .rest true) = (min 2047 (lv + p.u), .up) := by simp only [wordF, mv, if_neg c2]
          rw [e] at q
          walk_at "rd"
          refine iteTb (by decide +kernel) ?_
          walk_at "rd"
          refine newT rfl fun t3 H3 _ s3 e3 => ?_
          have hl3 := (s1.trans (s2.trans s3)) _ _ hl
          have c3 : Chg [l] H (upd H3 l (.lst [.str "up", .int (min 2047 (lv + p.u))])) := (Chg.of (s1.trans (s2.trans s3))).trans (Chg.upd hl3 fun _ z => nomatch z)
          refine ⟨t3, _, rfl, SqT.of e3, rfl, ?_⟩
          refine r_gc ?_
          walk_at "rd"
          refine ⟨l, _, 0, 0, rfl, rfl, hl3, rfl, ?_⟩
          refine r_gc ?_
          walk_at "rd"
          refine ⟨l, _, 1, 1, rfl, rfl, upd_same, rfl, ?_⟩
          rw [upd_upd]
          refine r_gn ?_
          walk_at "rd"
          exact ⟨l, _, 1, _, rfl, rfl, SqL.of upd_same, rfl, q _ c3 ⟨upd_same, (fun z => nomatch z)⟩⟩
      | up =>
        refine iteFb (by decide +kernel) ?_
        walk_at "rd"
        refine iteFb c1 ?_
        walk_at "rd"
        refine iteTb (by decide +kernel) ?_
        walk_at "rd"
        refine ⟨_, _, rfl, ?_⟩
        walk_at "rd"
        have e : (if lv + p.u < 2047 then lv + p.u else 2047) = min 2047 (lv + p.u) := by split <;> omega
        rw [e]
        refine ite2 (fun c2 => ?_) (fun c2 => ?_)
        · have c2 : V.int (min 2047 (lv + p.u)) = .int 2047 := of_decide_eq_true c2
          injection c2 with c2
          have e : mv p lv (wordF .up true) = (2047, .down) := by simp only [wordF, mv, c2, if_pos]
          rw [e] at q
          rw [c2]
          walk_at "rd"
          refine iteTb (by decide +kernel) ?_
          walk_at "rd"
          refine newT rfl fun t3 H3 _ s3 e3 => ?_
          have hl3 := (s1.trans (s2.trans s3)) _ _ hl
          have c3 : Chg [l] H (upd H3 l (.lst [.str "down", .int (2047)])) := (Chg.of (s1.trans (s2.trans s3))).trans (Chg.upd hl3 fun _ z => nomatch z)
          refine ⟨t3, _, rfl, SqT.of e3, rfl, ?_⟩
          refine r_gc ?_
          walk_at "rd"
          refine ⟨l, _, 0, 0, rfl, rfl, hl3, rfl, ?_⟩
          refine r_gc ?_
          walk_at "rd"
          refine ⟨l, _, 1, 1, rfl, rfl, upd_same, rfl, ?_⟩
          rw [upd_upd]
          refine r_gn ?_
          walk_at "rd"
          exact ⟨l, _, 1, _, rfl, rfl, SqL.of upd_same, rfl, q _ c3 ⟨upd_same, (fun z => nomatch z)⟩⟩
        · have c2 : ¬ min 2047 (lv + p.u) = 2047 := fun z => c2 (decide_eq_true (by rw [z]))
          have e : mv p lv (wordF .up true) = (min 2047 (lv + p.u), .up) := by simp only [wordF, mv, if_neg c2]
          rw [e] at q
          walk_at "rd"
          refine iteTb (by decide +kernel) ?_
          walk_at "rd"
          refine newT rfl fun t3 H3 _ s3 e3 => ?_
          have hl3 := (s1.trans (s2.trans s3)) _ _ hl
          have c3 : Chg [l] H (upd H3 l (.lst [.str "up", .int (min 2047 (lv + p.u))])) := (Chg.of (s1.trans (s2.trans s3))).trans (Chg.upd hl3 fun _ z => nomatch z)
          refine ⟨t3, _, rfl, SqT.of e3, rfl, ?_⟩
          refine r_gc ?_
          walk_at "rd"
          refine ⟨l, _, 0, 0, rfl, rfl, hl3, rfl, ?_⟩
          refine r_gc ?_
          walk_at "rd"
          refine ⟨l, _, 1, 1, rfl, rfl, upd_same, rfl, ?_⟩
          rw [upd_upd]
          refine r_gn ?_
          walk_at "rd"
          exact ⟨l, _, 1, _, rfl, rfl, SqL.of upd_same, rfl, q _ c3 ⟨upd_same, (fun z => nomatch z)⟩⟩
      | down =>
        refine iteFb (by decide +kernel) ?_
        walk_at "rd"
        refine iteFb c1 ?_
        walk_at "rd"
        refine iteFb (by decide +kernel) ?_
        walk_at "rd"
        refine iteTb (by decide +kernel) ?_
        walk_at "rd"
        refine ⟨_, _, rfl, ?_⟩
        walk_at "rd"
        have e : (if lv - p.d > p.s then lv - p.d else p.s) = max p.s (lv - p.d) := by split <;> omega
        rw [e]
        refine ite2 (fun c2 => ?_) (fun c2 => ?_)
        · have c2 : V.int (max p.s (lv - p.d)) = .int p.s := of_decide_eq_true c2
          injection c2 with c2
          have e : mv p lv (wordF .down true) = (max p.s (lv - p.d), .stay) := by simp only [wordF, mv, if_pos c2]
          rw [e] at q
          walk_at "rd"
          refine iteTb (by decide +kernel) ?_
          walk_at "rd"
          refine newT rfl fun t3 H3 _ s3 e3 => ?_
          have hl3 := (s1.trans (s2.trans s3)) _ _ hl
          have c3 : Chg [l] H (upd H3 l (.lst [.str "stays", .int (max p.s (lv - p.d))])) := (Chg.of (s1.trans (s2.trans s3))).trans (Chg.upd hl3 fun _ z => nomatch z)
          refine ⟨t3, _, rfl, SqT.of e3, rfl, ?_⟩
          refine r_gc ?_
          walk_at "rd"
          refine ⟨l, _, 0, 0, rfl, rfl, hl3, rfl, ?_⟩
          refine r_gc ?_
          walk_at "rd"
          refine ⟨l, _, 1, 1, rfl, rfl, upd_same, rfl, ?_⟩
          rw [upd_upd]
          refine r_gn ?_
          walk_at "rd"
          exact ⟨l, _, 1, _, rfl, rfl, SqL.of upd_same, rfl, q _ c3 ⟨upd_same, (fun z => nomatch z)⟩⟩
        · have c2 : ¬ max p.s (lv - p.d) = p.s := fun z => c2 (decide_eq_true (by rw [z]))
          have e : mv p lv (wordF .down true) = (max p.s (lv - p.d), .down) := by simp only [wordF, mv, if_neg c2]
          rw [e] at q
          walk_at "rd"
          refine iteTb (by decide +kernel) ?_
          walk_at "rd"
          refine newT rfl fun t3 H3 _ s3 e3 => ?_
          have hl3 := (s1.trans (s2.trans s3)) _ _ hl
          have c3 : Chg [l] H (upd H3 l (.lst [.str "down", .int (max p.s (lv - p.d))])) := (Chg.of (s1.trans (s2.trans s3))).trans (Chg.upd hl3 fun _ z => nomatch z)
          refine ⟨t3, _, rfl, SqT.of e3, rfl, ?_⟩
          refine r_gc ?_
          walk_at "rd"
          refine ⟨l, _, 0, 0, rfl, rfl, hl3, rfl, ?_⟩
          refine r_gc ?_
          walk_at "rd"
          refine ⟨l, _, 1, 1, rfl, rfl, upd_same, rfl, ?_⟩
          rw [upd_upd]
          refine r_gn ?_
          walk_at "rd"
          exact ⟨l, _, 1, _, rfl, rfl, SqL.of upd_same, rfl, q _ c3 ⟨upd_same, (fun z => nomatch z)⟩⟩
      | stay =>
        refine iteFb (by decide +kernel) ?_
        walk_at "rd"
        refine iteFb c1 ?_
        walk_at "rd"
        refine iteFb (by decide +kernel) ?_
        walk_at "rd"
        refine iteFb (by decide +kernel) ?_
        walk_at "rd"
        refine iteTb (by decide +kernel) ?_
        walk_at "rd"
        refine iteTb (by decide +kernel) ?_
        walk_at "rd"
        refine newT rfl fun t3 H3 _ s3 e3 => ?_
        have hl3 := (s1.trans (s2.trans s3)) _ _ hl
        have c3 : Chg [l] H (upd H3 l (.lst [.str "stays", .int (p.s)])) := (Chg.of (s1.trans (s2.trans s3))).trans (Chg.upd hl3 fun _ z => nomatch z)
        refine ⟨t3, _, rfl, SqT.of e3, rfl, ?_⟩
        refine r_gc ?_
        walk_at "rd"
        refine ⟨l, _, 0, 0, rfl, rfl, hl3, rfl, ?_⟩
        refine r_gc ?_
        walk_at "rd"
        refine ⟨l, _, 1, 1, rfl, rfl, upd_same, rfl, ?_⟩
        rw [upd_upd]
        refine r_gn ?_
        walk_at "rd"
        exact ⟨l, _, 1, _, rfl, rfl, SqL.of upd_same, rfl, q _ c3 ⟨upd_same, (fun z => nomatch z)⟩⟩
      | away =>
        refine iteTb (by decide +kernel) ?_
        walk_at "rd"
        refine iteFb c1 ?_
        walk_at "rd"
        refine iteTb (by decide +kernel) ?_
        walk_at "rd"
        refine ⟨_, _, rfl, ?_⟩
        walk_at "rd"
        have e : (if lv + p.u < 2047 then lv + p.u else 2047) = min 2047 (lv + p.u) := by split <;> omega
        rw [e]
        refine ite2 (fun c2 => ?_) (fun c2 => ?_)
        · have c2 : V.int (min 2047 (lv + p.u)) = .int 2047 := of_decide_eq_true c2
          injection c2 with c2
          have e : mv p lv (wordF .away true) = (2047, .down) := by simp only [wordF, mv, c2, if_pos]
          rw [e] at q
          rw [c2]
          walk_at "rd"
          refine iteTb (by decide +kernel) ?_
          walk_at "rd"
          refine newT rfl fun t3 H3 _ s3 e3 => ?_
          have hl3 := (s1.trans (s2.trans s3)) _ _ hl
          have c3 : Chg [l] H (upd H3 l (.lst [.str "down", .int (2047)])) := (Chg.of (s1.trans (s2.trans s3))).trans (Chg.upd hl3 fun _ z => nomatch z)
          refine ⟨t3, _, rfl, SqT.of e3, rfl, ?_⟩
          refine r_gc ?_
          walk_at "rd"
          refine ⟨l, _, 0, 0, rfl, rfl, hl3, rfl, ?_⟩
          refine r_gc ?_
          walk_at "rd"
          refine ⟨l, _, 1, 1, rfl, rfl, upd_same, rfl, ?_⟩
          rw [upd_upd]
          refine r_gn ?_
          walk_at "rd"
          exact ⟨l, _, 1, _, rfl, rfl, SqL.of upd_same, rfl, q _ c3 ⟨upd_same, (fun z => nomatch z)⟩⟩
        · have c2 : ¬ min 2047 (lv + p.u) = 2047 := fun z => c2 (decide_eq_true (by rw [z]))
          have e : mv p lv (wordF .away true) = (min 2047 (lv + p.u), .up) := by simp only [wordF, mv, if_neg c2]
          rw [e] at q
          walk_at "rd"
          refine iteTb (by decide +kernel) ?_
          walk_at "rd"
          refine newT rfl fun t3 H3 _ s3 e3 => ?_
          have hl3 := (s1.trans (s2.trans s3)) _ _ hl
          have c3 : Chg [l] H (upd H3 l (.lst [.str "up", .int (min 2047 (lv + p.u))])) := (Chg.of (s1.trans (s2.trans s3))).trans (Chg.upd hl3 fun _ z => nomatch z)
          refine ⟨t3, _, rfl, SqT.of e3, rfl, ?_⟩
          refine r_gc ?_
          walk_at "rd"
          refine ⟨l, _, 0, 0, rfl, rfl, hl3, rfl, ?_⟩
          refine r_gc ?_
          walk_at "rd"
          refine ⟨l, _, 1, 1, rfl, rfl, upd_same, rfl, ?_⟩
          rw [upd_upd]
          refine r_gn ?_
          walk_at "rd"
          exact ⟨l, _, 1, _, rfl, rfl, SqL.of upd_same, rfl, q _ c3 ⟨upd_same, (fun z => nomatch z)⟩⟩
    · have c1 : decide (g ≤ 0) = true := decide_eq_true (by omega)
      rw [decide_eq_false c] at q
      refine iteFb (decide_eq_false c) ?_
      walk_at "rd"
      refine iteTb c1 ?_
      walk_at "rd"
      refine newT rfl fun t2 H2 _ s2 e2 => ?_
      refine ⟨t2, _, rfl, .inr (SqT.of e2), by cases y <;> rfl, rfl, ?_⟩
      walk_at "rd"
      cases y with
      | rest =>
        refine iteFb (by decide +kernel) ?_
        walk_at "rd"
        refine iteFb (by decide +kernel) ?_
        walk_at "rd"
        refine iteFb (by decide +kernel) ?_
        walk_at "rd"
        refine iteFb (by decide +kernel) ?_
        walk_at "rd"
        refine iteFb (by decide +kernel) ?_
        walk_at "rd"
        refine iteFb (by decide +kernel) ?_
        walk_at "rd"
        refine newT rfl fun t3 H3 _ s3 e3 => ?_
        have hl3 := (s1.trans (s2.trans s3)) _ _ hl
        have c3 : Chg [l] H (upd H3 l (.lst [.str "rests", .int (0)])) := (Chg.of (s1.trans (s2.trans s3))).trans (Chg.upd hl3 fun _ z => nomatch z)
        refine ⟨t3, _, rfl, SqT.of e3, rfl, ?_⟩
        refine r_gc ?_
        walk_at "rd"
        refine ⟨l, _, 0, 0, rfl, rfl, hl3, rfl, ?_⟩
        refine r_gc ?_
        walk_at "rd"
        refine ⟨l, _, 1, 1, rfl, rfl, upd_same, rfl, ?_⟩
        rw [upd_upd]
        refine r_gn ?_
        walk_at "rd"
        exact ⟨l, _, 1, _, rfl, rfl, SqL.of upd_same, rfl, q _ c3 ⟨upd_same, (fun _ => rfl)⟩⟩
      | up =>
        refine iteTb (by decide +kernel) ?_
        walk_at "rd"
        refine iteFb (by decide +kernel) ?_
        walk_at "rd"
        refine iteFb (by decide +kernel) ?_
        walk_at "rd"
        refine iteFb (by decide +kernel) ?_
        walk_at "rd"
        refine iteTb (by decide +kernel) ?_
        walk_at "rd"
        refine ⟨_, _, rfl, ?_⟩
        walk_at "rd"
        have e : (if lv - p.a > 0 then lv - p.a else 0) = max 0 (lv - p.a) := by split <;> omega
        rw [e]
        refine ite2 (fun c2 => ?_) (fun c2 => ?_)
        · have c2 : V.int (max 0 (lv - p.a)) = .int 0 := of_decide_eq_true c2
          injection c2 with c2
          have e : mv p lv (wordF .up false) = (0, .rest) := by simp only [wordF, mv, c2, if_pos]
          rw [e] at q
          walk_at "rd"
          refine iteFb (by decide +kernel) ?_
          walk_at "rd"
          refine newT rfl fun t3 H3 _ s3 e3 => ?_
          have hl3 := (s1.trans (s2.trans s3)) _ _ hl
          have c3 : Chg [l] H (upd H3 l (.lst [.str "rests", .int (0)])) := (Chg.of (s1.trans (s2.trans s3))).trans (Chg.upd hl3 fun _ z => nomatch z)
          refine ⟨t3, _, rfl, SqT.of e3, rfl, ?_⟩
          refine r_gc ?_
          walk_at "rd"
          refine ⟨l, _, 0, 0, rfl, rfl, hl3, rfl, ?_⟩
          refine r_gc ?_
          walk_at "rd"
          refine ⟨l, _, 1, 1, rfl, rfl, upd_same, rfl, ?_⟩
          rw [upd_upd]
          refine r_gn ?_
          walk_at "rd"
          exact ⟨l, _, 1, _, rfl, rfl, SqL.of upd_same, rfl, q _ c3 ⟨upd_same, (fun _ => rfl)⟩⟩
        · have c2 : ¬ max 0 (lv - p.a) = 0 := fun z => c2 (decide_eq_true (by rw [z]))
          have e : mv p lv (wordF .up false) = (max 0 (lv - p.a), .away) := by simp only [wordF, mv, if_neg c2]
          rw [e] at q
          walk_at "rd"
          refine iteTb (by decide +kernel) ?_
          walk_at "rd"
          refine newT rfl fun t3 H3 _ s3 e3 => ?_
          have hl3 := (s1.trans (s2.trans s3)) _ _ hl
          have c3 : Chg [l] H (upd H3 l (.lst [.str "away", .int (max 0 (lv - p.a))])) := (Chg.of (s1.trans (s2.trans s3))).trans (Chg.upd hl3 fun _ z => nomatch z)
          refine ⟨t3, _, rfl, SqT.of e3, rfl, ?_⟩
          refine r_gc ?_
          walk_at "rd"
          refine ⟨l, _, 0, 0, rfl, rfl, hl3, rfl, ?_⟩
          refine r_gc ?_
          walk_at "rd"
          refine ⟨l, _, 1, 1, rfl, rfl, upd_same, rfl, ?_⟩
          rw [upd_upd]
          refine r_gn ?_
          walk_at "rd"
          exact ⟨l, _, 1, _, rfl, rfl, SqL.of upd_same, rfl, q _ c3 ⟨upd_same, (fun z => nomatch z)⟩⟩
      | down =>
        refine iteTb (by decide +kernel) ?_
        walk_at "rd"
        refine iteFb (by decide +kernel) ?_
        walk_at "rd"
        refine iteFb (by decide +kernel) ?_
        walk_at "rd"
        refine iteFb (by decide +kernel) ?_
        walk_at "rd"
        refine iteTb (by decide +kernel) ?_
        walk_at "rd"
        refine ⟨_, _, rfl, ?_⟩
        walk_at "rd"
        have e : (if lv - p.a > 0 then lv - p.a else 0) = max 0 (lv - p.a) := by split <;> omega
        rw [e]
        refine ite2 (fun c2 => ?_) (fun c2 => ?_)
        · have c2 : V.int (max 0 (lv - p.a)) = .int 0 := of_decide_eq_true c2
          injection c2 with c2
          have e : mv p lv (wordF .down false) = (0, .rest) := by simp only [wordF, mv, c2, if_pos]
          rw [e] at q
          walk_at "rd"
          refine iteFb (by decide +kernel) ?_
          walk_at "rd"
          refine newT rfl fun t3 H3 _ s3 e3 => ?_
          have hl3 := (s1.trans (s2.trans s3)) _ _ hl
          have c3 : Chg [l] H (upd H3 l (.lst [.str "rests", .int (0)])) := (Chg.of (s1.trans (s2.trans s3))).trans (Chg.upd hl3 fun _ z => nomatch z)
          refine ⟨t3, _, rfl, SqT.of e3, rfl, ?_⟩
          refine r_gc ?_
          walk_at "rd"
          refine ⟨l, _, 0, 0, rfl, rfl, hl3, rfl, ?_⟩
          refine r_gc ?_
          walk_at "rd"
          refine ⟨l, _, 1, 1, rfl, rfl, upd_same, rfl, ?_⟩
          rw [upd_upd]
          refine r_gn ?_
          walk_at "rd"
          exact ⟨l, _, 1, _, rfl, rfl, SqL.of upd_same, rfl, q _ c3 ⟨upd_same, (fun _ => rfl)⟩⟩
        · have c2 : ¬ max 0 (lv - p.a) = 0 := fun z => c2 (decide_eq_true (by rw [z]))
          have e : mv p lv (wordF .down false) = (max 0 (lv - p.a), .away) := by simp only [wordF, mv, if_neg c2]
          rw [e] at q
          walk_at "rd"
          refine iteTb (by decide +kernel) ?_
          walk_at "rd"
          refine newT rfl fun t3 H3 _ s3 e3 => ?_
          have hl3 := (s1.trans (s2.trans s3)) _ _ hl
          have c3 : Chg [l] H (upd H3 l (.lst [.str "away", .int (max 0 (lv - p.a))])) := (Chg.of (s1.trans (s2.trans s3))).trans (Chg.upd hl3 fun _ z => nomatch z)
          refine ⟨t3, _, rfl, SqT.of e3, rfl, ?_⟩
          refine r_gc ?_
          walk_at "rd"
          refine ⟨l, _, 0, 0, rfl, rfl, hl3, rfl, ?_⟩
          refine r_gc ?_
          walk_at "rd"
          refine ⟨l, _, 1, 1, rfl, rfl, upd_same, rfl, ?_⟩
          rw [upd_upd]
          refine r_gn ?_
          walk_at "rd"
          exact ⟨l, _, 1, _, rfl, rfl, SqL.of upd_same, rfl, q _ c3 ⟨upd_same, (fun z => nomatch z)⟩⟩
      | stay =>
        refine iteTb (by decide +kernel) ?_
        walk_at "rd"
        refine iteFb (by decide +kernel) ?_
        walk_at "rd"
        refine iteFb (by decide +kernel) ?_
        walk_at "rd"
        refine iteFb (by decide +kernel) ?_
        walk_at "rd"
        refine iteTb (by decide +kernel) ?_
        walk_at "rd"
        refine ⟨_, _, rfl, ?_⟩
        walk_at "rd"
        have e : (if lv - p.a > 0 then lv - p.a else 0) = max 0 (lv - p.a) := by split <;> omega
        rw [e]
        refine ite2 (fun c2 => ?_) (fun c2 => ?_)
        · have c2 : V.int (max 0 (lv - p.a)) = .int 0 := of_decide_eq_true c2
          injection c2 with c2
          have e : mv p lv (wordF .stay false) = (0, .rest) := by simp only [wordF, mv, c2, if_pos]
          rw [e] at q
          walk_at "rd"
          refine iteFb (by decide +kernel) ?_
          walk_at "rd"
          refine newT rfl fun t3 H3 _ s3 e3 => ?_
          have hl3 := (s1.trans (s2.trans s3)) _ _ hl
          have c3 : Chg [l] H (upd H3 l (.lst [.str "rests", .int (0)])) := (Chg.of (s1.trans (s2.trans s3))).trans (Chg.upd hl3 fun _ z => nomatch z)
          refine ⟨t3, _, rfl, SqT.of e3, rfl, ?_⟩
          refine r_gc ?_
          walk_at "rd"
          refine ⟨l, _, 0, 0, rfl, rfl, hl3, rfl, ?_⟩
          refine r_gc ?_
          walk_at "rd"
          refine ⟨l, _, 1, 1, rfl, rfl, upd_same, rfl, ?_⟩
          rw [upd_upd]
          refine r_gn ?_
          walk_at "rd"
          exact ⟨l, _, 1, _, rfl, rfl, SqL.of upd_same, rfl, q _ c3 ⟨upd_same, (fun _ => rfl)⟩⟩
        · have c2 : ¬ max 0 (lv - p.a) = 0 := fun z => c2 (decide_eq_true (by rw [z]))
          have e : mv p lv (wordF .stay false) = (max 0 (lv - p.a), .away) := by simp only [wordF, mv, if_neg c2]
          rw [e] at q
          walk_at "rd"
          refine iteTb (by decide +kernel) ?_
          walk_at "rd"
          refine newT rfl fun t3 H3 _ s3 e3 => ?_
          have hl3 := (s1.trans (s2.trans s3)) _ _ hl
          have c3 : Chg [l] H (upd H3 l (.lst [.str "away", .int (max 0 (lv - p.a))])) := (Chg.of (s1.trans (s2.trans s3))).trans (Chg.upd hl3 fun _ z => nomatch z)
          refine ⟨t3, _, rfl, SqT.of e3, rfl, ?_⟩
          refine r_gc ?_
          walk_at "rd"
          refine ⟨l, _, 0, 0, rfl, rfl, hl3, rfl, ?_⟩
          refine r_gc ?_
          walk_at "rd"
          refine ⟨l, _, 1, 1, rfl, rfl, upd_same, rfl, ?_⟩
          rw [upd_upd]
          refine r_gn ?_
          walk_at "rd"
          exact ⟨l, _, 1, _, rfl, rfl, SqL.of upd_same, rfl, q _ c3 ⟨upd_same, (fun z => nomatch z)⟩⟩
      | away =>
        refine iteFb (by decide +kernel) ?_
        walk_at "rd"
        refine iteFb (by decide +kernel) ?_
        walk_at "rd"
        refine iteFb (by decide +kernel) ?_
        walk_at "rd"
        refine iteFb (by decide +kernel) ?_
        walk_at "rd"
        refine iteTb (by decide +kernel) ?_
        walk_at "rd"
        refine ⟨_, _, rfl, ?_⟩
        walk_at "rd"
        have e : (if lv - p.a > 0 then lv - p.a else 0) = max 0 (lv - p.a) := by split <;> omega
        rw [e]
        refine ite2 (fun c2 => ?_) (fun c2 => ?_)
        · have c2 : V.int (max 0 (lv - p.a)) = .int 0 := of_decide_eq_true c2
          injection c2 with c2
          have e : mv p lv (wordF .away false) = (0, .rest) := by simp only [wordF, mv, c2, if_pos]
          rw [e] at q
          walk_at "rd"
          refine iteFb (by decide +kernel) ?_
          walk_at "rd"
          refine newT rfl fun t3 H3 _ s3 e3 => ?_
          have hl3 := (s1.trans (s2.trans s3)) _ _ hl
          have c3 : Chg [l] H (upd H3 l (.lst [.str "rests", .int (0)])) := (Chg.of (s1.trans (s2.trans s3))).trans (Chg.upd hl3 fun _ z => nomatch z)
          refine ⟨t3, _, rfl, SqT.of e3, rfl, ?_⟩
          refine r_gc ?_
          walk_at "rd"
          refine ⟨l, _, 0, 0, rfl, rfl, hl3, rfl, ?_⟩
          refine r_gc ?_
          walk_at "rd"
          refine ⟨l, _, 1, 1, rfl, rfl, upd_same, rfl, ?_⟩
          rw [upd_upd]
          refine r_gn ?_
          walk_at "rd"
          exact ⟨l, _, 1, _, rfl, rfl, SqL.of upd_same, rfl, q _ c3 ⟨upd_same, (fun _ => rfl)⟩⟩
        · have c2 : ¬ max 0 (lv - p.a) = 0 := fun z => c2 (decide_eq_true (by rw [z]))
          have e : mv p lv (wordF .away false) = (max 0 (lv - p.a), .away) := by simp only [wordF, mv, if_neg c2]
          rw [e] at q
          walk_at "rd"
          refine iteTb (by decide +kernel) ?_
          walk_at "rd"
          refine newT rfl fun t3 H3 _ s3 e3 => ?_
          have hl3 := (s1.trans (s2.trans s3)) _ _ hl
          have c3 : Chg [l] H (upd H3 l (.lst [.str "away", .int (max 0 (lv - p.a))])) := (Chg.of (s1.trans (s2.trans s3))).trans (Chg.upd hl3 fun _ z => nomatch z)
          refine ⟨t3, _, rfl, SqT.of e3, rfl, ?_⟩
          refine r_gc ?_
          walk_at "rd"
          refine ⟨l, _, 0, 0, rfl, rfl, hl3, rfl, ?_⟩
          refine r_gc ?_
          walk_at "rd"
          refine ⟨l, _, 1, 1, rfl, rfl, upd_same, rfl, ?_⟩
          rw [upd_upd]
          refine r_gn ?_
          walk_at "rd"
          exact ⟨l, _, 1, _, rfl, rfl, SqL.of upd_same, rfl, q _ c3 ⟨upd_same, (fun z => nomatch z)⟩⟩
theorem c_law_shaped (T : Txt K mg w C_NoPart C_NoIns C_Worker) : Cal P w K mg base (L2.CX P w) 1 "_law_shaped" ["state", "part", "gate"] spLShaped :=
  T.d_law_shaped.cal (fun F => ok_law_shaped T F) fun _ _ _ _ _ _ us hl => match us, hl with | [_, _, _], _ => rfl
end
end KB
set_option linter.all false
set_option maxRecDepth 100000
set_option maxHeartbeats 4000000
namespace KB
open PySem PySem.Spec PyProof.Rows L2 Gx
local macro_rules | `(tactic| walk_at "rd1") => `(tactic| with_reducible first
  | refine r_var rfl ?_ | refine r_c ?_ | refine r_op ?_ | refine r_un ?_ | refine r_I0 ?_ | refine r_neg ?_ | refine r_test ?_ | refine r_B ?_ | refine r_bl ?_ | refine r_blx ?_
  | refine r_seq ?_ | refine r_ret ?_ | refine r_asg ?_ | refine r_name ?_ | refine r_gsub ?_ | refine r_if ?_ | refine r_next ?_ | refine r_drop ?_ | refine r_cb ?_ | refine r_nil ?_ | refine r_cons ?_
  | refine r_g ?_ | refine r_k ?_ | refine r_lstN ?_ | refine r_tupN ?_ | refine r_notV ?_ | refine r_ifE ?_ | refine r_and ?_ | refine r_or ?_ | refine r_not ?_ | refine r_chain ?_
  | refine r_sl ?_ | refine r_part ?_ | refine r_nop ?_ | refine r_par3 ?_ | refine r_is3 ?_ | refine r_par2 ?_ | refine r_is2 ?_ | refine r_m0 ?_ | refine r_ei ?_ | refine r_nx ?_ | refine r_rt ?_ | refine r_ct ?_ | refine r_eq rfl ?_ | refine r_ne rfl ?_ | refine iteT ?_ | refine iteF ?_ | refine iteNF ?_ | refine iteNT ?_
  | (refine r_fdivK ?hc ?_; (case hc => decide +kernel)) | (refine r_modK ?hc ?_; (case hc => decide +kernel)) | (refine r_mulL ?hc ?_; (case hc => decide +kernel)) | (refine r_mulR ?hc ?_; (case hc => decide +kernel)) | (refine r_powK ?hc ?_; (case hc => decide +kernel)) | fail "no step")
local macro_rules | `(tactic| walk_at "rd") => `(tactic| repeat' walk_at "rd1")
section
variable {P : Program} {w : World} {K : PySem.W.Frag} {mg : Str → Option Value} {base : Heap} {f : Addr} {fd : FuncData} {C_NoPart C_NoIns C_Worker : Addr}
theorem dec_zero {i : Int} : decide (V.int i = V.int 0) = decide (i = 0) := dec_int
theorem sc_law_done : FnScope ["state", "part", "got", "kind", "told", "total", "one", "by", "k"] ["state", "part", "got"] (defScope s_law_done) := ⟨rfl, rfl, rfl, by decide +kernel, rfl, by decide +kernel, by decide +kernel⟩
theorem ok_law_done (T : Txt K mg w C_NoPart C_NoIns C_Worker) (F : Fun K "_law_done" "_law_done" s_law_done f fd) : FnG P w K mg base (L2.CX P w) 2 f fd ["state", "part", "got"] spLDone := by
  refine fnG F sc_law_done (fun vs H Q E h => ?_) (fun cdv A outer s H vs Q E hG hr h => ?_)
  · obtain ⟨l, x, d, p, kp, ls, es, rfl, hl, hs, hx, ok, hf, nf, hd, hi, q⟩ := h
    all_goals rfl
  · obtain ⟨l, x, d, p, kp, ls, es, rfl, hl, hs, hx, ok, hf, nf, hd, hi, q⟩ := h
    have nd := sc_law_done.nd
    refine ⟨_, (pss_cons (ps_set (i := 3) nd rfl (Or.inl rfl) (pe_ix ix_tup (pv 1) pe_int (fun _ _ => rfl)))
        (pss_cons (ps_if (pt_cmpR op_in_seq (pv 3) (pe_tup (pa_cons pe_str (pa_cons pe_str pa_nil))) (by rfl)) (pss_cons (ps_set (i := 4) nd rfl (Or.inl rfl) (pe_g (c_law_table T) hG (hr.mono (by decide)) (fun _ => passS) (pa_cons (pe_ix ix_tup (pv 1) pe_int (fun _ _ => rfl)) (pa_cons (pe_op op_fdiv (pe_ix ix_list (pv 0) pe_int (fun _ _ => rfl)) pe_int) pa_nil))))
        (pss_cons (ps_asg (pe_op op_add (pe_ix ix_list (pv 0) pe_int (fun _ _ => rfl)) pe_int) (pg_sub (pv 0) pe_int set_list))
        (pss_cons (ps_if (pt_cmpR op_eq (pv 3) pe_str (nomark _)) (pss_one (ps_asg (pe_op op_mod (pe_op op_add (pe_op op_add (pe_ix ix_list (pv 0) pe_int (fun _ _ => rfl)) (pe_ix ix_tup (pv 1) pe_int (fun _ _ => rfl))) (pe_op op_fdiv (pe_dget2 (Nat.lt_of_le_of_lt (Nat.add_le_add_left (by decide : 1 ≤ 64) _) hr.units) (pv 2) pe_str pe_int ⟨rfl, rfl, rfl, rfl⟩) pe_int)) pe_int) (pg_sub (pv 0) pe_int set_list))) (pss_one (ps_if (pt_cmpR op_eq (pe_op op_mod (pe_ix ix_list (pv 0) pe_int (fun _ _ => rfl)) pe_int) pe_int (nomark _)) (pss_one (ps_asg (pe_op op_mod (pe_op op_add (pe_ix ix_list (pv 0) pe_int (fun _ _ => rfl)) (pe_ix ix_tup (pv 1) pe_int (fun _ _ => rfl))) pe_int) (pg_sub (pv 0) pe_int set_list))) pss_nil)))
        (pss_one (ps_ret (pe_tup (pa_cons (pv 4) (pa_cons pe_bl pa_nil)))))))) pss_nil)
        (pss_cons (ps_if (pt_cmpR op_eq (pv 3) pe_str (nomark _)) (pss_cons (ps_set (i := 4) nd rfl (Or.inl rfl) (pe_op op_sub (pe_ix ix_list (pv 0) pe_int (fun _ _ => rfl)) pe_int))
        (pss_cons (ps_asg (pe_op op_mod (pe_op op_add (pe_op op_mul pe_int (pe_ix ix_list (pv 0) pe_int (fun _ _ => rfl))) pe_int) pe_int) (pg_sub (pv 0) pe_int set_list))
        (pss_one (ps_ret (pe_tup (pa_cons (pv 4) (pa_cons pe_bl pa_nil))))))) pss_nil)
        (pss_cons (ps_if (pt_cmpR op_eq (pv 3) pe_str (nomark _)) (pss_one (ps_ret (pe_tup (pa_cons (pe_g (c_law_shaped T) hG (hr.mono (by decide)) (fun _ => passS) (pa_cons (pv 0) (pa_cons (pv 1) (pa_cons (pe_dget2 (Nat.lt_of_le_of_lt (Nat.add_le_add_left (by decide : 1 ≤ 64) _) hr.units) (pv 2) pe_str pe_int ⟨rfl, rfl, rfl, rfl⟩) pa_nil)))) (pa_cons pe_bl pa_nil))))) pss_nil)
        (pss_cons (ps_if (pt_cmpR op_eq (pv 3) pe_str (nomark _)) (pss_cons (ps_asg (pe_callB (call_max3Nu rfl) (by rfl) T.n_max (by decide +kernel) (pa_cons (pe_callB (call_min2 rfl) (by rfl) T.n_min (by decide +kernel) (pa_cons pe_int (pa_cons (pe_callB call_abs (by rfl) T.n_abs (by decide +kernel) (pa_cons (pe_dget2 (Nat.lt_of_le_of_lt (Nat.add_le_add_left (by decide : 1 ≤ 64) _) hr.units) (pv 2) pe_str pe_int ⟨rfl, rfl, rfl, rfl⟩) pa_nil)) pa_nil))) (pa_cons (pe_op op_sub (pe_ix ix_list (pv 0) pe_int (fun _ _ => rfl)) (pe_ix ix_tup (pv 1) pe_int (fun _ _ => rfl))) (pa_cons pe_int pa_nil)))) (pg_sub (pv 0) pe_int set_list))
        (pss_one (ps_ret (pe_tup (pa_cons (pe_ix ix_list (pv 0) pe_int (fun _ _ => rfl)) (pa_cons pe_bl pa_nil)))))) pss_nil)
        (pss_cons (ps_if (pt_cmpR op_eq (pv 3) pe_str (nomark _)) (pss_cons (ps_expr (pe_bm PySem.F.plainAttrs_list PySem.F.slot_list_append PySem.F.type_list_append mt_append (pv 0) (pa_cons (pe_dget2 (Nat.lt_of_le_of_lt (Nat.add_le_add_left (by decide : 1 ≤ 64) _) hr.units) (pv 2) pe_str pe_int ⟨rfl, rfl, rfl, rfl⟩) pa_nil)))
        (pss_one (ps_ret (pe_tup (pa_cons (pe_bm PySem.F.plainAttrs_list PySem.F.slot_list_pop PySem.F.type_list_pop mt_popAt (pv 0) (pa_cons pe_int pa_nil)) (pa_cons pe_bl pa_nil)))))) pss_nil)
        (pss_cons (ps_if (pt_cmpR op_eq (pv 3) pe_str (nomark _)) (pss_cons (ps_expr (pe_bm PySem.F.plainAttrs_list PySem.F.slot_list_insert PySem.F.type_list_insert mt_insert (pv 0) (pa_cons pe_int (pa_cons (pe_dget2 (Nat.lt_of_le_of_lt (Nat.add_le_add_left (by decide : 1 ≤ 64) _) hr.units) (pv 2) pe_str pe_int ⟨rfl, rfl, rfl, rfl⟩) pa_nil))))
        (pss_cons (ps_expr (pe_bm0 PySem.F.plainAttrs_list PySem.F.slot_list_pop PySem.F.type_list_pop mt_pop (pv 0)))
        (pss_one (ps_set (i := 5) nd rfl (Or.inl rfl) (pe_op op_fdiv (pe_op op_add (pe_callB (cr_sum rfl) (by rfl) T.n_sum (by decide +kernel) (pa_cons (pe_lc (own := [("one", 6), ("by", 7)]) (g := (gTup K 2 (gCons (gName 6) (gCons (gName 7) gNil)))) (tt := tYes) rfl nd (pi_zipE (by rfl) T.n_zip (pa_cons (pv 0) (pa_cons (pe_ix ix_tup (pv 1) pe_int (fun _ _ => rfl)) pa_nil))) (blkOk_by (N := ["state", "part", "got", "kind", "told", "total", "one", "by", "k"]) (sc := defScope s_law_done) (by decide +kernel)) (fun _ _ _ _ _ => pg_tup rfl (pgs_cons (pg_name (i := 6) nd rfl (Or.inl rfl)) (pgs_cons (pg_name (i := 7) nd rfl (Or.inl rfl)) pgs_nil))) (fun _ _ _ _ _ => pts_nil) (fun _ _ _ _ _ => (pe_op op_mul (pv 6) (pv 7)))) pa_nil)) pe_int) pe_int))))) (pss_one (ps_if (pt_cmpR op_eq (pv 3) pe_str (nomark _)) (pss_one (ps_set (i := 5) nd rfl (Or.inl rfl) (pe_op op_fdiv (pe_op op_add (pe_callB (cr_sum rfl) (by rfl) T.n_sum (by decide +kernel) (pa_cons (pe_lc (own := [("k", 8), ("by", 7)]) (g := (gTup K 2 (gCons (gName 8) (gCons (gName 7) gNil)))) (tt := tYes) rfl nd (pi_enumE (by rfl) T.n_enumerate (pa_cons (pe_ix ix_tup (pv 1) pe_int (fun _ _ => rfl)) pa_nil)) (blkOk_by (N := ["state", "part", "got", "kind", "told", "total", "one", "by", "k"]) (sc := defScope s_law_done) (by decide +kernel)) (fun _ _ _ _ _ => pg_tup rfl (pgs_cons (pg_name (i := 8) nd rfl (Or.inl rfl)) (pgs_cons (pg_name (i := 7) nd rfl (Or.inl rfl)) pgs_nil))) (fun _ _ _ _ _ => pts_nil) (fun _ _ _ _ _ => (pe_op op_mul (pe_dget2 (Nat.lt_of_le_of_lt (Nat.add_le_add_left (by decide : 1 ≤ 64) _) hr.units) (pv 2) (pe_ix (show IxR _ rIxS from ix_str) pe_str (pv 8) (fun _ _ => rfl)) pe_int ⟨rfl, rfl, rfl, rfl⟩) (pv 7)))) pa_nil)) pe_int) pe_int))) (pss_one (ps_set (i := 5) nd rfl (Or.inl rfl) (pe_op op_fdiv (pe_op op_add (pe_op op_mul (pe_dget2 (Nat.lt_of_le_of_lt (Nat.add_le_add_left (by decide : 1 ≤ 64) _) hr.units) (pv 2) pe_str pe_int ⟨rfl, rfl, rfl, rfl⟩) (pe_dget2 (Nat.lt_of_le_of_lt (Nat.add_le_add_left (by decide : 1 ≤ 64) _) hr.units) (pv 2) pe_str pe_int ⟨rfl, rfl, rfl, rfl⟩)) pe_int) pe_int))))))
        (pss_cons (ps_set (i := 4) nd rfl (Or.inl rfl) (pe_g (c_law_folded T) hG (hr.mono (by decide)) (fun _ => passS) (pa_cons (pv 5) (pa_cons (pe_ix ix_tup (pv 1) (pe_un un_neg pe_int) (fun _ _ => rfl)) pa_nil))))
        (pss_one (ps_ret (pe_tup (pa_cons (pv 4) (pa_cons (pe_cmpR op_ne (pv 4) (pv 5) (nomark _)) pa_nil))))))))))))), ?_⟩
    walk_at "rd"
    have dl : d ≠ l := fun z => by
      rw [z, hl] at hd
      cases hd
    have gi := insG_small hi
    cases p with
    | frm n => exact absurd rfl (nf n)
    | wave t s =>
      obtain ⟨ph, rfl⟩ : ∃ ph, kp = .one ph := by cases kp <;> first | exact ⟨_, rfl⟩ | exact hf.elim
      obtain ⟨j, rfl⟩ := hs
      obtain ⟨h0, h1⟩ := hf
      refine ⟨x, _, 0, _, rfl, rfl, SqT.of hx, rfl, ?_⟩
      walk_at "rd"
      refine newT rfl fun t1 H1 nt1 sH1 et1 => ?_
      refine ⟨t1, _, rfl, .inr (SqT.of et1), rfl, rfl, ?_⟩
      walk_at "rd"
      refine iteTb (by decide +kernel) ?_
      walk_at "rd"
      refine ⟨x, _, 1, _, rfl, rfl, SqT.of (sH1 _ _ hx), rfl, ?_⟩
      walk_at "rd"
      refine ⟨l, _, 0, _, rfl, rfl, SqL.of (sH1 _ _ hl), rfl, ?_⟩
      walk_at "rd"
      refine ⟨t, ph / 64, rfl, ok.1, Int.ediv_nonneg h0 (by decide), by omega, fun H2 s2 => ?_⟩
      have sx := sH1.trans s2
      have hl2 := sx _ _ hl
      walk_at "rd"
      refine ⟨l, _, 1, _, rfl, rfl, SqL.of hl2, rfl, ?_⟩
      walk_at "rd"
      refine ⟨l, _, 1, 1, rfl, rfl, hl2, rfl, ?_⟩
      have c3 : Chg [l] H (L2.upd H2 l (.lst [.int ph, .int (j + 1)])) := (Chg.of sx).trans (Chg.upd hl2 fun _ z => nomatch z)
      walk_at "rd"
      refine iteTb (by decide +kernel) ?_
      walk_at "rd"
      refine ⟨l, _, 0, _, rfl, rfl, SqL.of upd_same, rfl, ?_⟩
      walk_at "rd"
      refine ⟨x, _, 2, _, rfl, rfl, SqT.of (c3.tup _ _ hx), rfl, ?_⟩
      walk_at "rd"
      refine r_port rfl (c3.one dl hd) hi ?_
      walk_at "rd"
      refine ⟨l, _, 0, 0, rfl, rfl, upd_same, rfl, ?_⟩
      rw [upd_upd]
      have c4 : Chg [l] H (L2.upd H2 l (.lst [.int ((ph + s + insG es "pitch" / 16) % 4096), .int (j + 1)])) := (Chg.of sx).trans (Chg.upd hl2 fun _ z => nomatch z)
      walk_at "rd"
      exact newT rfl fun r H4 _ s4 e4 => q r _ H4 (c4.same' s4) (s4 _ _ upd_same) ⟨_, rfl⟩ e4
    | slow t s =>
      obtain ⟨ph, c, rfl⟩ : ∃ ph c, kp = .two ph c := by cases kp <;> first | exact ⟨_, _, rfl⟩ | exact hf.elim
      obtain ⟨j, rfl, hj⟩ := hs
      obtain ⟨⟨h0, h1⟩, h2, h3⟩ := hf
      refine ⟨x, _, 0, _, rfl, rfl, SqT.of hx, rfl, ?_⟩
      walk_at "rd"
      refine newT rfl fun t1 H1 nt1 sH1 et1 => ?_
      refine ⟨t1, _, rfl, .inr (SqT.of et1), rfl, rfl, ?_⟩
      walk_at "rd"
      refine iteTb (by decide +kernel) ?_
      walk_at "rd"
      refine ⟨x, _, 1, _, rfl, rfl, SqT.of (sH1 _ _ hx), rfl, ?_⟩
      walk_at "rd"
      refine ⟨l, _, 0, _, rfl, rfl, SqL.of (sH1 _ _ hl), rfl, ?_⟩
      walk_at "rd"
      refine ⟨t, ph / 64, rfl, ok.1, Int.ediv_nonneg h0 (by decide), by omega, fun H2 s2 => ?_⟩
      have sx := sH1.trans s2
      have hl2 := sx _ _ hl
      walk_at "rd"
      refine ⟨l, _, 1, _, rfl, rfl, SqL.of hl2, rfl, ?_⟩
      walk_at "rd"
      refine ⟨l, _, 1, 1, rfl, rfl, hl2, rfl, ?_⟩
      have c3 : Chg [l] H (L2.upd H2 l (.lst [.int ph, .int (j + 1)])) := (Chg.of sx).trans (Chg.upd hl2 fun _ z => nomatch z)
      walk_at "rd"
      refine iteFb (by decide +kernel) ?_
      walk_at "rd"
      refine ⟨l, _, 1, _, rfl, rfl, SqL.of upd_same, rfl, ?_⟩
      walk_at "rd"
      refine ite2 (fun z => ?_) (fun z => ?_)
      · have z : V.int ((j + 1) % 16) = .int 0 := of_decide_eq_true z
        injection z with z
        have n : ¬ c + 1 < 16 := by omega
        walk_at "rd"
        refine ⟨l, _, 0, _, rfl, rfl, SqL.of upd_same, rfl, ?_⟩
        walk_at "rd"
        refine ⟨x, _, 2, _, rfl, rfl, SqT.of (c3.tup _ _ hx), rfl, ?_⟩
        walk_at "rd"
        refine ⟨l, _, 0, 0, rfl, rfl, upd_same, rfl, ?_⟩
        rw [upd_upd]
        have c4 : Chg [l] H (L2.upd H2 l (.lst [.int ((ph + s) % 4096), .int (j + 1)])) := (Chg.of sx).trans (Chg.upd hl2 fun _ z => nomatch z)
        walk_at "rd"
        refine newT rfl fun r H4 _ s4 e4 => q r _ H4 (c4.same' s4) (s4 _ _ upd_same) ?_ e4
        simp only [Gx.step, if_neg n]
        exact ⟨_, rfl, z⟩
      · have z : ¬ (j + 1) % 16 = 0 := fun y => z (decide_eq_true (by rw [y]))
        have n : c + 1 < 16 := by omega
        walk_at "rd"
        refine newT rfl fun r H4 _ s4 e4 => q r _ H4 (c3.same' s4) (s4 _ _ upd_same) ?_ e4
        simp only [Gx.step, if_pos n]
        exact ⟨_, rfl, by omega⟩
    | noise s =>
      obtain ⟨ph, rfl⟩ : ∃ ph, kp = .one ph := by cases kp <;> first | exact ⟨_, rfl⟩ | exact hf.elim
      obtain rfl : ls = [.int ph] := hs
      refine ⟨x, _, 0, _, rfl, rfl, SqT.of hx, rfl, ?_⟩
      walk_at "rd"
      refine newT rfl fun t1 H1 nt1 sH1 et1 => ?_
      refine ⟨t1, _, rfl, .inr (SqT.of et1), rfl, rfl, ?_⟩
      walk_at "rd"
      refine iteFb (by decide +kernel) ?_
      walk_at "rd"
      refine iteTb (by decide +kernel) ?_
      walk_at "rd"
      have hl1 := sH1 _ _ hl
      refine ⟨l, _, 0, _, rfl, rfl, SqL.of hl1, rfl, ?_⟩
      walk_at "rd"
      refine ⟨l, _, 0, _, rfl, rfl, SqL.of hl1, rfl, ?_⟩
      walk_at "rd"
      refine ⟨l, _, 0, 0, rfl, rfl, hl1, rfl, ?_⟩
      have c4 : Chg [l] H (L2.upd H1 l (.lst [.int ((1229 * ph + 351) % 4096)])) := (Chg.of sH1).trans (Chg.upd hl1 fun _ z => nomatch z)
      walk_at "rd"
      exact newT rfl fun r H4 _ s4 e4 => q r _ H4 (c4.same' s4) (s4 _ _ upd_same) rfl e4
    | shape p =>
      obtain ⟨lv, y, rfl⟩ : ∃ lv y, kp = .shp lv y := by cases kp <;> first | exact ⟨_, _, rfl⟩ | exact hf.elim
      obtain ⟨rfl, hr0⟩ := hs
      refine ⟨x, _, 0, _, rfl, rfl, SqT.of hx, rfl, ?_⟩
      walk_at "rd"
      refine newT rfl fun t1 H1 nt1 sH1 et1 => ?_
      refine ⟨t1, _, rfl, .inr (SqT.of et1), rfl, rfl, ?_⟩
      walk_at "rd"
      refine iteFb (by decide +kernel) ?_
      walk_at "rd"
      refine iteFb (by decide +kernel) ?_
      walk_at "rd"
      refine iteTb (by decide +kernel) ?_
      walk_at "rd"
      refine r_port rfl (sH1 _ _ hd) hi ?_
      show tNil _ _ _
      walk_at "rd"
      refine ⟨l, x, insG es "gate", p, lv, y, rfl, sH1 _ _ hl, hr0, sH1 _ _ hx, fun H2 c2 h2 => ?_⟩
      walk_at "rd"
      exact newT rfl fun r H4 _ s4 e4 => q r _ H4 (((Chg.of sH1).trans c2).same' s4) (s4 _ _ h2.1) ⟨rfl, h2.2⟩ e4
    | follow s' =>
      obtain ⟨lv, rfl⟩ : ∃ lv, kp = .one lv := by cases kp <;> first | exact ⟨_, rfl⟩ | exact hf.elim
      obtain ⟨j, rfl⟩ := hs
      refine ⟨x, _, 0, _, rfl, rfl, SqT.of hx, rfl, ?_⟩
      walk_at "rd"
      refine newT rfl fun t1 H1 nt1 sH1 et1 => ?_
      refine ⟨t1, _, rfl, .inr (SqT.of et1), rfl, rfl, ?_⟩
      walk_at "rd"
      refine iteFb (by decide +kernel) ?_
      walk_at "rd"
      refine iteFb (by decide +kernel) ?_
      walk_at "rd"
      refine iteFb (by decide +kernel) ?_
      walk_at "rd"
      refine iteTb (by decide +kernel) ?_
      walk_at "rd"
      have hl1 := sH1 _ _ hl
      refine r_port rfl (sH1 _ _ hd) hi ?_
      show tNil _ _ _
      walk_at "rd"
      refine ⟨_, rfl, ?_⟩
      walk_at "rd"
      refine ⟨_, _, rfl, ?_⟩
      walk_at "rd"
      have e : (if (if insG es "in" < 0 then -insG es "in" else insG es "in") < 2047 then (if insG es "in" < 0 then -insG es "in" else insG es "in") else 2047) = min 2047 ((insG es "in").natAbs : Int) := by split <;> split <;> omega
      rw [e]
      refine ⟨l, _, 0, _, rfl, rfl, SqL.of hl1, rfl, ?_⟩
      walk_at "rd"
      refine ⟨x, _, 1, _, rfl, rfl, SqT.of (sH1 _ _ hx), rfl, ?_⟩
      walk_at "rd"
      refine ⟨_, _, _, _, rfl, nu_max3, ?_⟩
      walk_at "rd"
      refine ⟨l, _, 0, 0, rfl, rfl, hl1, rfl, ?_⟩
      have c4 : Chg [l] H (L2.upd H1 l (.lst [.int (max (max (min 2047 ((insG es "in").natAbs : Int)) (lv - s')) 0), .int j])) := (Chg.of sH1).trans (Chg.upd hl1 fun _ z => nomatch z)
      walk_at "rd"
      refine ⟨l, _, 0, _, rfl, rfl, SqL.of upd_same, rfl, ?_⟩
      walk_at "rd"
      exact newT rfl fun r H4 _ s4 e4 => q r _ H4 (c4.same' s4) (s4 _ _ upd_same) ⟨_, rfl⟩ e4
    | delay n =>
      obtain ⟨xs, rfl⟩ : ∃ xs, kp = .line xs := by cases kp <;> first | exact ⟨_, rfl⟩ | exact hf.elim
      obtain rfl : ls = xs.map V.int := hs
      obtain ⟨hz, hw⟩ := hf
      obtain ⟨o1, o2⟩ := ok
      have ne : xs ≠ [] := fun z => by subst z; simp at hz; omega
      obtain ⟨y, rs, rfl⟩ := List.exists_cons_of_ne_nil ne
      refine ⟨x, _, 0, _, rfl, rfl, SqT.of hx, rfl, ?_⟩
      walk_at "rd"
      refine newT rfl fun t1 H1 nt1 sH1 et1 => ?_
      refine ⟨t1, _, rfl, .inr (SqT.of et1), rfl, rfl, ?_⟩
      walk_at "rd"
      refine iteFb (by decide +kernel) ?_
      walk_at "rd"
      refine iteFb (by decide +kernel) ?_
      walk_at "rd"
      refine iteFb (by decide +kernel) ?_
      walk_at "rd"
      refine iteFb (by decide +kernel) ?_
      walk_at "rd"
      refine iteTb (by decide +kernel) ?_
      walk_at "rd"
      have hl1 := sH1 _ _ hl
      refine r_bm (show tyV _ "list" (.ref l) _ from .inl ⟨rfl, _, SqL.of hl1⟩) rfl ?_
      refine r_port rfl (sH1 _ _ hd) hi ?_
      show tNil _ _ _
      walk_at "rd"
      refine ⟨l, _, _, rfl, rfl, hl1, by rw [List.length_map, sizeLine_eq]; omega, ?_⟩
      have c4 : Chg [l] H (L2.upd H1 l (.lst ((y :: rs).map V.int ++ [.int (insG es "in")]))) := (Chg.of sH1).trans (Chg.upd hl1 fun _ z => nomatch z)
      have e5 : L2.upd H1 l (.lst ((y :: rs).map V.int ++ [.int (insG es "in")])) l = some (.lst (.int y :: (rs ++ [insG es "in"]).map V.int)) := by
        rw [upd_same, List.map_append]
        rfl
      generalize L2.upd H1 l (.lst ((y :: rs).map V.int ++ [.int (insG es "in")])) = H2 at c4 e5 ⊢
      walk_at "rd"
      refine r_bm (show tyV _ "list" (.ref l) _ from .inl ⟨rfl, _, SqL.of e5⟩) rfl ?_
      walk_at "rd"
      refine ⟨l, _, 0, 0, _, rfl, rfl, e5, by decide, by decide, seq0 (by simp), rfl, ?_⟩
      have c5 : Chg [l] H (L2.upd H2 l (.lst ((rs ++ [insG es "in"]).map V.int))) := c4.trans (Chg.upd e5 fun _ z => nomatch z)
      walk_at "rd"
      exact newT rfl fun r H4 _ s4 e4 => q r _ H4 (c5.same' s4) (s4 _ _ upd_same) rfl e4
    | taps fs m =>
      obtain ⟨xs, rfl⟩ : ∃ xs, kp = .line xs := by cases kp <;> first | exact ⟨_, rfl⟩ | exact hf.elim
      obtain ⟨u, rfl⟩ := hs
      obtain ⟨hz, hw⟩ := hf
      obtain ⟨⟨o1, o2, o3⟩, om⟩ := ok
      obtain ⟨f1, hx, hff⟩ := hx
      refine ⟨x, _, 0, _, rfl, rfl, SqT.of hx, rfl, ?_⟩
      walk_at "rd"
      refine newT rfl fun t1 H1 nt1 sH1 et1 => ?_
      refine ⟨t1, _, rfl, .inr (SqT.of et1), rfl, rfl, ?_⟩
      walk_at "rd"
      refine iteFb (by decide +kernel) ?_
      walk_at "rd"
      refine iteFb (by decide +kernel) ?_
      walk_at "rd"
      refine iteFb (by decide +kernel) ?_
      walk_at "rd"
      refine iteFb (by decide +kernel) ?_
      walk_at "rd"
      refine iteFb (by decide +kernel) ?_
      walk_at "rd"
      refine iteTb (by decide +kernel) ?_
      walk_at "rd"
      have hl1 := sH1 _ _ hl
      refine r_bm (show tyV _ "list" (.ref l) _ from .inl ⟨rfl, _, SqL.of hl1⟩) rfl ?_
      walk_at "rd"
      refine r_port rfl (sH1 _ _ hd) hi ?_
      show tNil _ _ _
      walk_at "rd"
      refine ⟨l, _, 0, _, rfl, rfl, hl1, by rw [List.length_map, List.length_append, sizeLine_eq, List.length_singleton]; omega, by decide, by decide, ?_⟩
      have e5 : L2.upd H1 l (.lst (((xs ++ [u]).map V.int).take (0 : Int).toNat ++ [.int (insG es "in")] ++ ((xs ++ [u]).map V.int).drop (0 : Int).toNat)) l = some (.lst ((insG es "in" :: xs).map V.int ++ [V.int u])) := by
        rw [upd_same, List.map_append]
        rfl
      have c4 : Chg [l] H (L2.upd H1 l (.lst (((xs ++ [u]).map V.int).take (0 : Int).toNat ++ [.int (insG es "in")] ++ ((xs ++ [u]).map V.int).drop (0 : Int).toNat))) := (Chg.of sH1).trans (Chg.upd hl1 fun _ z => nomatch z)
      generalize L2.upd H1 l (.lst (((xs ++ [u]).map V.int).take (0 : Int).toNat ++ [.int (insG es "in")] ++ ((xs ++ [u]).map V.int).drop (0 : Int).toNat)) = H2 at c4 e5 ⊢
      walk_at "rd"
      refine r_bm0 (show tyV _ "list" (.ref l) _ from .inl ⟨rfl, _, SqL.of e5⟩) rfl ?_
      refine ⟨l, _, .int u, rfl, rfl, e5, by simp, ?_⟩
      have c5 : Chg [l] H (L2.upd H2 l (.lst (((insG es "in" :: xs).map V.int ++ [V.int u]).dropLast))) := c4.trans (Chg.upd e5 fun _ z => nomatch z)
      have e6 : L2.upd H2 l (.lst (((insG es "in" :: xs).map V.int ++ [V.int u]).dropLast)) l = some (.lst ((insG es "in" :: xs).map V.int)) := by rw [upd_same, List.dropLast_concat]
      generalize L2.upd H2 l (.lst (((insG es "in" :: xs).map V.int ++ [V.int u]).dropLast)) = H3 at c5 e6 ⊢
      have hx3 := c5.tup _ _ hx
      have hf3 := c5.tup _ _ hff
      walk_at "rd"
      refine r_lc ?_
      refine r_zip ?_
      walk_at "rd"
      refine ⟨x, _, 1, _, rfl, rfl, SqT.of hx3, rfl, ?_⟩
      walk_at "rd"
      refine ⟨.l, .t, l, f1, _, _, rfl, SqL.of e6, SqT.of hf3, ?_⟩
      refine lc_pr mulV (fun h s => ⟨_, _, SqL.of (s _ _ e6), SqT.of (s _ _ hf3), rfl⟩) (by rw [List.length_zip, List.length_map, List.length_map]; omega) (fun _ _ => rfl) (fun p hp h R s r => ?_) (fun D H4 s4 e4 => ?_)
      · obtain ⟨i, j, rfl, hj⟩ := zip_mem2 p hp
        obtain ⟨j0, j1⟩ := o3 j hj
        walk_at "rd"
        refine r_I (show CMul _ _ from .inr ⟨by omega, by omega⟩) ?_
        exact r h (Same.refl h)
      · walk_at "rd"
        refine ⟨D, (fs.zip (insG es "in" :: xs)).map fun p => p.1 * p.2, rfl, SqL.of (by rw [e4, ← zip_mul']), ?_⟩
        walk_at "rd"
        refine ⟨x, _, -1, _, rfl, rfl, SqT.of (s4 _ _ hx3), rfl, ?_⟩
        walk_at "rd"
        refine ⟨_, m, rfl, om, ?_⟩
        walk_at "rd"
        rw [dec_int]
        refine newT rfl fun r H5 _ s5 e5 => q r _ H5 ((c5.same' s4).same' s5) (s5 _ _ (s4 _ _ e6)) ?_ e5
        refine ⟨(insG es "in" :: xs).getLast (by simp), ?_⟩
        rw [List.dropLast_concat_getLast]
    | mix fs m =>
      obtain rfl : kp = .none := by cases kp <;> first | rfl | exact hf.elim
      obtain ⟨⟨o1, o2, o3⟩, om⟩ := ok
      obtain ⟨f1, hx, hff⟩ := hx
      refine ⟨x, _, 0, _, rfl, rfl, SqT.of hx, rfl, ?_⟩
      walk_at "rd"
      refine newT rfl fun t1 H1 nt1 sH1 et1 => ?_
      refine ⟨t1, _, rfl, .inr (SqT.of et1), rfl, rfl, ?_⟩
      walk_at "rd"
      refine iteFb (by decide +kernel) ?_
      walk_at "rd"
      refine iteFb (by decide +kernel) ?_
      walk_at "rd"
      refine iteFb (by decide +kernel) ?_
      walk_at "rd"
      refine iteFb (by decide +kernel) ?_
      walk_at "rd"
      refine iteFb (by decide +kernel) ?_
      walk_at "rd"
      refine iteFb (by decide +kernel) ?_
      walk_at "rd"
      refine iteTb (by decide +kernel) ?_
      walk_at "rd"
      have hx3 := sH1 _ _ hx
      have hf3 := sH1 _ _ hff
      refine r_lc ?_
      refine r_enum ?_
      walk_at "rd"
      refine ⟨x, _, 1, _, rfl, rfl, SqT.of hx3, rfl, ?_⟩
      walk_at "rd"
      refine ⟨.t, f1, _, rfl, SqT.of hf3, ?_⟩
      refine lc_pr (mixV (insG es)) (fun h s => ⟨_, SqT.of (s _ _ hf3), rfl⟩) (by rw [enumL_len, List.length_map]; omega) (fun _ _ => rfl) (fun p hp h R s r => ?_) (fun D H4 s4 e4 => ?_)
      · obtain ⟨i, j, rfl, hi4, hj⟩ := enum_mem o2 p hp
        obtain ⟨j0, j1⟩ := o3 j hj
        refine r_portE (z := portAt i) rfl ((sH1.trans s) _ _ hd) hi (fun R r => ?_) ?_
        · walk_at "rd"
          exact ab_ix hi4 r
        walk_at "rd"
        refine r_I (show CMul _ _ from .inr ⟨by omega, by omega⟩) ?_
        exact r h (Same.refl h)
      · walk_at "rd"
        refine ⟨D, (fs.zip ((portsN fs.length).map (insG es))).map fun p => p.1 * p.2, rfl, SqL.of (by rw [e4, mix_mul o2]), ?_⟩
        walk_at "rd"
        refine ⟨x, _, -1, _, rfl, rfl, SqT.of (s4 _ _ hx3), rfl, ?_⟩
        walk_at "rd"
        refine ⟨_, m, rfl, om, ?_⟩
        walk_at "rd"
        rw [dec_int]
        exact newT rfl fun r H5 _ s5 e5 => q r _ H5 (Chg.of (sH1.trans (s4.trans s5))) (s5 _ _ (s4 _ _ (sH1 _ _ hl))) trivial e5
    | times m =>
      obtain rfl : kp = .none := by cases kp <;> first | rfl | exact hf.elim
      refine ⟨x, _, 0, _, rfl, rfl, SqT.of hx, rfl, ?_⟩
      walk_at "rd"
      refine newT rfl fun t1 H1 nt1 sH1 et1 => ?_
      refine ⟨t1, _, rfl, .inr (SqT.of et1), rfl, rfl, ?_⟩
      walk_at "rd"
      refine iteFb (by decide +kernel) ?_
      walk_at "rd"
      refine iteFb (by decide +kernel) ?_
      walk_at "rd"
      refine iteFb (by decide +kernel) ?_
      walk_at "rd"
      refine iteFb (by decide +kernel) ?_
      walk_at "rd"
      refine iteFb (by decide +kernel) ?_
      walk_at "rd"
      refine iteFb (by decide +kernel) ?_
      walk_at "rd"
      refine iteFb (by decide +kernel) ?_
      walk_at "rd"
      refine r_port rfl (sH1 _ _ hd) hi ?_
      refine r_port rfl (sH1 _ _ hd) hi ?_
      have ga := insG_small hi "a"
      have gb := insG_small hi "b"
      refine r_I (show CMul _ _ from .inl ⟨by have := ga.1; omega, by have := ga.2; omega⟩) ?_
      walk_at "rd"
      refine ⟨x, _, -1, _, rfl, rfl, SqT.of (sH1 _ _ hx), rfl, ?_⟩
      walk_at "rd"
      refine ⟨_, m, rfl, ok, ?_⟩
      walk_at "rd"
      rw [dec_int]
      exact newT rfl fun r H5 _ s5 e5 => q r _ H5 (Chg.of (sH1.trans s5)) (s5 _ _ (sH1 _ _ hl)) trivial e5
theorem c_law_done (T : Txt K mg w C_NoPart C_NoIns C_Worker) : Cal P w K mg base (L2.CX P w) 2 "_law_done" ["state", "part", "got"] spLDone :=
  T.d_law_done.cal (fun F => ok_law_done T F) fun _ _ _ _ _ _ us hl => match us, hl with | [_, _, _], _ => rfl
end
end KB
set_option linter.all false
set_option maxRecDepth 100000
set_option maxHeartbeats 4000000
namespace KB
open PySem PySem.Spec PyProof.Rows L2 Gx
local macro_rules | `(tactic| walk_at "rd1") => `(tactic| with_reducible first
  | refine r_var rfl ?_ | refine r_c ?_ | refine r_op ?_ | refine r_un ?_ | refine r_I0 ?_ | refine r_neg ?_ | refine r_test ?_ | refine r_B ?_ | refine r_bl ?_ | refine r_blx ?_
  | refine r_seq ?_ | refine r_ret ?_ | refine r_asg ?_ | refine r_name ?_ | refine r_gsub ?_ | refine r_if ?_ | refine r_next ?_ | refine r_drop ?_ | refine r_cb ?_ | refine r_nil ?_ | refine r_cons ?_
  | refine r_g ?_ | refine r_k ?_ | refine r_lstN ?_ | refine r_tupN ?_ | refine r_notV ?_ | refine r_ifE ?_ | refine r_and ?_ | refine r_or ?_ | refine r_not ?_ | refine r_chain ?_
  | refine r_sl ?_ | refine r_part ?_ | refine r_nop ?_ | refine r_par3 ?_ | refine r_is3 ?_ | refine r_par2 ?_ | refine r_is2 ?_ | refine r_m0 ?_ | refine r_ei ?_ | refine r_nx ?_ | refine r_rt ?_ | refine r_ct ?_ | refine r_eq rfl ?_ | refine r_ne rfl ?_ | refine iteT ?_ | refine iteF ?_ | refine iteNF ?_ | refine iteNT ?_
  | (refine r_fdivK ?hc ?_; (case hc => decide +kernel)) | (refine r_modK ?hc ?_; (case hc => decide +kernel)) | (refine r_mulL ?hc ?_; (case hc => decide +kernel)) | (refine r_mulR ?hc ?_; (case hc => decide +kernel)) | (refine r_powK ?hc ?_; (case hc => decide +kernel)) | fail "no step")
local macro_rules | `(tactic| walk_at "rd") => `(tactic| repeat' walk_at "rd1")
section
variable {P : Program} {w : World} {K : PySem.W.Frag} {mg : Str → Option Value} {base : Heap} {f : Addr} {fd : FuncData} {C_NoPart C_NoIns C_Worker : Addr}
/-! ### twin, == -/
def spTwinM (K : PySem.W.Frag) (CW : Addr) : Sp := fun vs H Q _ => ∃ (a dx x k : Addr) (p : Prt) (kp : Kp) (b : Bool), vs = [.ref a] ∧ Wk K CW H a dx x k p kp b ∧ ∀ a2 dx2 H', H a2 = none → Same H H' → Wk K CW H' a2 dx2 x k p kp b → Q (.ref a2) H'
def spEqM (K : PySem.W.Frag) (CW : Addr) : Sp := fun vs H Q _ => ∃ (a dx x k : Addr) (p : Prt) (kp : Kp) (b : Bool) (y : V), vs = [.ref a, y] ∧ Wk K CW H a dx x k p kp b ∧
  ((∃ (a2 dx2 x2 k2 : Addr) (p2 : Prt) (kp2 : Kp) (b2 : Bool), y = .ref a2 ∧ Wk K CW H a2 dx2 x2 k2 p2 kp2 b2 ∧ ∀ H', Same H H' → Q (.bl (PyData.eqv (standD p kp) (standD p2 kp2))) H') ∨ (((∃ t xs, y = .ref t ∧ H t = some (.tup xs)) ∨ ∃ i, y = .int i) ∧ Q (.bl false) H))
theorem sc_Worker_eq : FnScope ["self", "other"] ["self", "other"] (defScope s_Worker_eq) := ⟨rfl, rfl, rfl, by decide +kernel, rfl, by decide +kernel, by decide +kernel⟩
theorem ok_Worker_eq (T : Txt K mg w C_NoPart C_NoIns C_Worker) (F : Fun K "__eq__" "Worker.__eq__" s_Worker_eq f fd) : FnOk P w K mg base (L2.CX P w) 2 f fd ["self", "other"] (spEqM K C_Worker) := by
  obtain ⟨fSt, dSt, mSt, FSt⟩ := T.me_Worker_stands
  refine F.okX sc_Worker_eq (fun vs H Q E h => ?_) (fun cdv A outer s H vs Q E hr h => ?_)
  · obtain ⟨a, dx, x, k, p, kp, b, y, rfl, W, h⟩ := h
    all_goals rfl
  · obtain ⟨a, dx, x, k, p, kp, b, y, rfl, W, h⟩ := h
    have nd := sc_Worker_eq.nd
    refine ⟨_, (pss_one (ps_ret (pe_and (pe_callB (call_isO T.cl_Worker T.oc_Worker) (by rfl) T.n_isinstance (by decide +kernel) (pa_cons (pv 1) (pa_cons (pe_glob (v := .ref C_Worker) rfl T.gl_Worker rfl) pa_nil))) (pe_one (pe_cmpR (op_eqD hr.units) (pe_meth0 (pv 0) T.cl_Worker mSt (ok_Worker_stands T FSt) (hr.mono (by decide)) (FSt.binds b_Worker_stands) .nil passL rfl) (pe_meth0 (pv 1) T.cl_Worker mSt (ok_Worker_stands T FSt) (hr.mono (by decide)) (FSt.binds b_Worker_stands) .nil passL rfl) (nomark _)))))), ?_⟩
    walk_at "rd"
    refine r_andV ?_
    walk_at "rd"
    rcases h with ⟨a2, dx2, x2, k2, p2, kp2, b2, rfl, W2, q⟩ | ⟨ty, q⟩
    · refine ⟨_, true, rfl, .own W2.at_, ?_⟩
      walk_at "rd"
      refine r_meth ?_
      walk_at "rd"
      refine ⟨a, dx, _, rfl, W.at_, rfl, ?_⟩
      walk_at "rd"
      refine ⟨a, dx, x, k, p, kp, b, rfl, W, fun t1 xs1 H1 s1 e1 d1 => ?_⟩
      have W2 := W2.same s1
      walk_at "rd"
      refine r_meth ?_
      walk_at "rd"
      refine ⟨a2, dx2, _, rfl, W2.at_, rfl, ?_⟩
      walk_at "rd"
      refine ⟨a2, dx2, x2, k2, p2, kp2, b2, rfl, W2, fun t2 xs2 H2 s2 e2 d2 => ?_⟩
      walk_at "rd"
      have sx := s1.trans s2
      refine r_eqDt (.tup (s2 _ _ e1) (.cons (W.part.same sx).dt (d1.same s2))) (.tup e2 (.cons (W2.part.same s2).dt d2)) (plain_nb _ (stand_nb p kp)) (plain_nb _ (stand_nb p2 kp2)) (sm_shaped (stand_sm W.ok W.fit).1 (Nat.le_trans (stand_sm W.ok W.fit).2.1 (by decide))) (sm_shaped (stand_sm W2.ok W2.fit).1 (Nat.le_trans (stand_sm W2.ok W2.fit).2.1 (by decide))) ?_
      exact q H2 sx
    · rcases ty with ⟨t, xs, rfl, ht⟩ | ⟨i, rfl⟩
      · refine ⟨_, false, rfl, .tup ht, ?_⟩
        walk_at "rd"
        exact q
      · refine ⟨_, false, rfl, .int i, ?_⟩
        walk_at "rd"
        exact q
theorem b_Worker_eq : ∀ (kV doc pm : Value) (an : Option Addr) (cdv ct : Value) (us : List Value), us.length = (["self", "other"] : List Str).length → bindArgs (PySem.W.fnOf "__eq__" "Worker.__eq__" (defArgs s_Worker_eq) (defBody s_Worker_eq) (defScope s_Worker_eq) .none kV doc pm an cdv ct) ⟨us, []⟩ = pure ((["self", "other"] : List Str).zip us) :=
  fun _ _ _ _ _ _ us hl => match us, hl with | [_, _], _ => rfl
def spLStands : Sp := fun vs H Q _ => ∃ (x l : Addr) (p : Prt) (kp : Kp) (ls : List V), vs = [.ref x, .ref l] ∧ H l = some (.lst ls) ∧ LSt p kp ls ∧ PAt H x p ∧ p.ok ∧ fits p kp ∧ ∀ t H', Same H H' → Dt H' (.ref t) (standD p kp) → Q (.ref t) H'
end
end KB
set_option linter.all false
set_option maxRecDepth 100000
set_option maxHeartbeats 4000000
namespace Gx
open PySem PySem.Spec PyProof.Rows L2
/-! ### sides: a worker, its part, the law's own state, whether it was folded, in a list -/
structure SR where
  sd : Addr
  a : Addr
  dx : Addr
  l : Addr
  x : Addr
  k : Addr
  p : Prt
  kp : Kp
  w : Bool
  ls : List V
structure Sd (K : PySem.W.Frag) (CW : Addr) (h : Hp) (r : SR) : Prop where
  e : h r.sd = some (.lst [.ref r.a, .ref r.x, .ref r.l, .bl r.w])
  wk : Wk K CW h r.a r.dx r.x r.k r.p r.kp r.w
  hl : h r.l = some (.lst r.ls)
  st : LSt r.p r.kp r.ls
  ff : ∀ n, r.p = .frm n → r.w = false
section
variable {K : PySem.W.Frag} {CW : Addr} {h h' : Hp} {r : SR} {l : List Addr}
theorem Sd.chg (S : Sd K CW h r) (c : Chg l h h') (n1 : r.sd ∉ l) (n2 : r.a ∉ l) (n3 : r.l ∉ l) : Sd K CW h' r :=
  ⟨c.off _ _ n1 S.e, S.wk.off c n2, c.off _ _ n3 S.hl, S.st, S.ff⟩
theorem Sd.same (S : Sd K CW h r) (s : Same h h') : Sd K CW h' r := S.chg (l := []) (.of s) List.not_mem_nil List.not_mem_nil List.not_mem_nil
theorem Sd.al (S : Sd K CW h r) : r.a ≠ r.l := fun z => by
  have := S.wk.at_
  rw [z, S.hl] at this
  cases this
theorem Sd.asd (S : Sd K CW h r) : r.a ≠ r.sd := fun z => by
  have := S.wk.at_
  rw [z, S.e] at this
  cases this
end
theorem lp_en {K : PySem.W.Frag} {k : Sk} {a : Addr} {xs : List V} {i j : Nat} {tb : TS} {D : Ends} {σ : L2.St} {H : Hp} (Pv : Nat → L2.St → Hp → Prop) (h0 : Pv 0 σ H) (hG : ∀ n s h, n ≤ xs.length → Pv n s h → SqK k K h a xs)
    (hs : ∀ n x s h h', xs[n]? = some x → Pv n s h → Same h h' → tb { D with nx := Pv (n + 1), ct := Pv (n + 1), bk := D.nx } ((s.set i (some (.int (n : Nat)))).set j (some x)) h') (hd : ∀ s h, Pv xs.length s h → D.nx s h) :
    Lp (Itp (GEnum k K a)) (gTup K 2 (gCons (gName i) (gCons (gName j) gNil))) tb D σ H := by
  refine for_it (walk_pairs (G := GEnum k K a) (ps := enumL xs)) Pv h0 (fun n s h hn z => ⟨xs, hG n s h (by rw [enumL_len] at hn; exact hn) z, rfl⟩) (fun n x s h h1 hn z y => ?_) (fun s h z => hd s h (by rw [enumL_len] at z; exact z))
  obtain ⟨T, u, v, rfl, hT, rfl, eu, ev⟩ := y
  rw [enumL_len] at hn
  have hx : xs[n]? = some xs[n] := List.getElem?_eq_getElem hn
  have hp := enumL_get hx
  have eu : (enumL xs)[n]?.map Prod.fst = some u := eu
  have ev : (enumL xs)[n]?.map Prod.snd = some v := ev
  rw [hp] at eu ev
  obtain rfl : V.int (n : Nat) = u := by simpa using eu
  obtain rfl : xs[n] = v := by simpa using ev
  have sT := same_new (o := .tup [V.int (n : Nat), xs[n]]) hT
  exact ⟨T, _, rfl, SqT.of upd_same, rfl, _, _, rfl, _, _, rfl, rfl, hs n _ s h _ hx z sT⟩
/-- lists of few sides' standings -/
def stL (rs : List SR) : Nat → PyData := fun i => match rs[i]? with
  | some r => standD r.p r.kp
  | none => .none
def fwL (rs : List SR) : Nat → PyData := fun i => match rs[i]? with
  | some r => .tuple [.bool r.w, optD (aheadF r.p r.kp)]
  | none => .none
def eqL (rs : List SR) (r0 : SR) : Nat → PyData := fun i => match rs[i]? with
  | some r => .bool (PyData.eqv (standD r0.p r0.kp) (standD r.p r.kp))
  | none => .none
theorem list_small {n : Nat} {ds : Nat → PyData} (hn : n ≤ 5) (h : ∀ i, i < n → smD (ds i) = true ∧ (ds i).depth ≤ 4 ∧ cntD (ds i) ≤ 190) : smD (.list ((List.range n).map ds)) = true ∧ (PyData.list ((List.range n).map ds)).depth ≤ 20 ∧ cntD (.list ((List.range n).map ds)) ≤ 1000 := by
  have go : ∀ m, m ≤ n → smL ((List.range m).map ds) = true ∧ PyData.depthAll ((List.range m).map ds) ≤ 4 ∧ cntL ((List.range m).map ds) ≤ 191 * m := fun m => by
    induction m with
    | zero => intro _; exact ⟨rfl, by simp [PyData.depthAll], by simp [cntL]⟩
    | succ m ih =>
      intro hm
      obtain ⟨a, b, c⟩ := ih (by omega)
      obtain ⟨a2, b2, c2⟩ := h m (by omega)
      rw [List.range_succ, List.map_append]
      have s1 : ∀ (x y : List PyData), smL (x ++ y) = (smL x && smL y) := fun x y => by
        induction x with
        | nil => rfl
        | cons z r ih => rw [List.cons_append, smL, smL, ih, Bool.and_assoc]
      have s2 : ∀ (x y : List PyData), PyData.depthAll (x ++ y) = max (PyData.depthAll x) (PyData.depthAll y) := fun x y => by
        induction x with
        | nil => simp [PyData.depthAll]
        | cons z r ih => rw [List.cons_append, PyData.depthAll, PyData.depthAll, ih]; omega
      have s3 : ∀ (x y : List PyData), cntL (x ++ y) = cntL x + cntL y := fun x y => by
        induction x with
        | nil => simp [cntL]
        | cons z r ih => rw [List.cons_append, cntL, cntL, ih]; omega
      refine ⟨by rw [s1, a]; show (true && (smD (ds m) && true)) = true; rw [a2]; rfl, ?_, ?_⟩
      · rw [s2]
        simp only [List.map_cons, List.map_nil, PyData.depthAll]
        omega
      · rw [s3]
        simp only [List.map_cons, List.map_nil, cntL]
        omega
  obtain ⟨a, b, c⟩ := go n (Nat.le_refl _)
  refine ⟨by rw [smD]; exact a, ?_, ?_⟩
  · simp only [PyData.depth]
    omega
  · rw [cntD]
    omega
section
variable {K : PySem.W.Frag} {CW : Addr} {h : Hp} {rs : List SR}
theorem stL_ok (S : ∀ r ∈ rs, Sd K CW h r) : ∀ i, i < rs.length → smD (stL rs i) = true ∧ (stL rs i).depth ≤ 4 ∧ cntD (stL rs i) ≤ 190 := fun i hi => by
  unfold stL
  rw [List.getElem?_eq_getElem hi]
  have := S rs[i] (List.getElem_mem _)
  exact stand_sm this.wk.ok this.wk.fit
theorem fwL_ok (S : ∀ r ∈ rs, Sd K CW h r) : ∀ i, i < rs.length → smD (fwL rs i) = true ∧ (fwL rs i).depth ≤ 4 ∧ cntD (fwL rs i) ≤ 190 := fun i hi => by
  unfold fwL
  rw [List.getElem?_eq_getElem hi]
  have := S rs[i] (List.getElem_mem _)
  have go : ∀ (w : Bool) (o : Option Int), (∀ z, o = some z → -5000 ≤ z ∧ z ≤ 5000) → smD (.tuple [.bool w, optD o]) = true ∧ (PyData.tuple [.bool w, optD o]).depth ≤ 4 ∧ cntD (.tuple [.bool w, optD o]) ≤ 190 := fun w o ho => by
    cases o with
    | none => exact ⟨rfl, by simp [optD, PyData.depth, PyData.depthAll], by simp [cntD, cntL, optD]⟩
    | some z =>
      refine ⟨?_, by simp [optD, PyData.depth, PyData.depthAll], by simp [cntD, cntL, optD]⟩
      show smD (.tuple [.bool _, .int z]) = true
      rw [smD, smL, smL, smL, sm_int (ho z rfl)]
      rfl
  exact go _ _ fun z e => ahead_small this.wk.ok this.wk.fit e
theorem stL_tp : ∀ i, tpD (stL rs i) = true := fun i => by
  unfold stL
  cases rs[i]? with
  | none => rfl
  | some r => exact stand_tp _ _
theorem fwL_tp : ∀ i, tpD (fwL rs i) = true := fun i => by
  unfold fwL
  cases rs[i]? with
  | none => rfl
  | some r =>
    simp only
    cases aheadF r.p r.kp <;> rfl
theorem eqL_tp {r0 : SR} : ∀ i, tpD (eqL rs r0 i) = true := fun i => by
  unfold eqL
  cases rs[i]? <;> rfl
theorem stL_at {i : Nat} {r : SR} (e : rs[i]? = some r) : stL rs i = standD r.p r.kp := by
  unfold stL
  rw [e]
theorem fwL_at {i : Nat} {r : SR} (e : rs[i]? = some r) : fwL rs i = .tuple [.bool r.w, optD (aheadF r.p r.kp)] := by
  unfold fwL
  rw [e]
theorem eqL_at {i : Nat} {r r0 : SR} (e : rs[i]? = some r) : eqL rs r0 i = .bool (PyData.eqv (standD r0.p r0.kp) (standD r.p r.kp)) := by
  unfold eqL
  rw [e]
theorem eqL_plain {r0 : SR} (n : Nat) : plainD (.list ((List.range n).map (eqL rs r0))) = true ∧ SeqAt.shaped (.list ((List.range n).map (eqL rs r0))) = true := by
  have leaf : ∀ i, plainD (eqL rs r0 i) = true ∧ (eqL rs r0 i).canLay0 = true ∧ (eqL rs r0 i).depth = 0 := fun i => by
    unfold eqL
    cases rs[i]? <;> exact ⟨rfl, by simp [PyData.canLay0], by simp [PyData.depth]⟩
  have go : ∀ (l : List Nat), plainL (l.map (eqL rs r0)) = true ∧ PyData.canLayAll0 (l.map (eqL rs r0)) = true ∧ PyData.depthAll (l.map (eqL rs r0)) = 0 := fun l => by
    induction l with
    | nil => exact ⟨rfl, by simp [PyData.canLayAll0], by simp [PyData.depthAll]⟩
    | cons i r ih =>
      obtain ⟨a, b, c⟩ := leaf i
      obtain ⟨a2, b2, c2⟩ := ih
      rw [List.map_cons]
      exact ⟨by rw [plainL, a, a2]; rfl, by simp [PyData.canLayAll0, b, b2], by simp [PyData.depthAll, c, c2]⟩
  obtain ⟨a, b, c⟩ := go (List.range n)
  refine ⟨by rw [plainD]; exact a, ?_⟩
  unfold SeqAt.shaped
  simp [PyData.canLay0, b, PyData.depth, c]
end
end Gx
set_option linter.all false
set_option maxRecDepth 100000
set_option maxHeartbeats 4000000
namespace Gx
open PySem PySem.Spec PyProof.Rows L2
def adr (r : SR) : List Addr := [r.sd, r.l, r.a]
structure Sds (K : PySem.W.Frag) (CW : Addr) (b SL : Addr) (rs : List SR) (h : Hp) : Prop where
  at_ : h SL = some (.lst (rs.map fun r => V.ref r.sd))
  all : ∀ r ∈ rs, Sd K CW h r
  nb : ∀ r ∈ rs, b ∉ adr r ∧ SL ∉ adr r ∧ r.sd ≠ r.l
  bs : b ≠ SL
  pw : (rs.map adr).Pairwise fun u v => ∀ z ∈ u, z ∉ v
section
variable {K : PySem.W.Frag} {CW : Addr} {b SL : Addr} {rs : List SR} {h h' : Hp}
theorem adr_some {r : SR} (S : Sd K CW h r) : ∀ u ∈ adr r, h u ≠ none := fun u hu => by
  simp only [adr, List.mem_cons, List.not_mem_nil, or_false] at hu
  rcases hu with rfl | rfl | rfl
  · rw [S.e]; exact fun z => by cases z
  · rw [S.hl]; exact fun z => by cases z
  · rw [S.wk.at_]; exact fun z => by cases z
theorem Sd.off {l : List Addr} {r : SR} (S : Sd K CW h r) (c : Chg l h h') (n : ∀ u ∈ adr r, u ∉ l) : Sd K CW h' r :=
  S.chg c (n _ (by simp [adr])) (n _ (by simp [adr])) (n _ (by simp [adr]))
theorem Sds.drew (S : Sds K CW b SL rs h) (c : Chg [b] h h') : Sds K CW b SL rs h' :=
  ⟨c.one (Ne.symm S.bs) S.at_, fun r hr => (S.all r hr).off c fun u hu z => (S.nb r hr).1 (by simp at z; rw [← z]; exact hu), S.nb, S.bs, S.pw⟩
theorem Sds.same (S : Sds K CW b SL rs h) (s : Same h h') : Sds K CW b SL rs h' := S.drew (.of s)
theorem Sds.step {i : Nat} {r r' : SR} (S : Sds K CW b SL rs h) (e : rs[i]? = some r) (ad : adr r' = adr r) (c : Chg [b, r.sd, r.l, r.a] h h') (S' : Sd K CW h' r') : Sds K CW b SL (rs.set i r') h' := by
  have hi : i < rs.length := (List.getElem?_eq_some_iff.mp e).1
  have er : rs[i] = r := (List.getElem?_eq_some_iff.mp e).2
  have hm : r ∈ rs := List.mem_of_getElem? e
  have ma : (rs.set i r').map adr = rs.map adr := by
    rw [List.map_set]
    apply List.ext_getElem
    · simp
    intro j h1 h2
    rw [List.getElem_set]
    split
    · rename_i z
      subst z
      simp [ad, er]
    · rfl
  have nn : ∀ r2 ∈ rs.set i r', r2 = r' ∨ (r2 ∈ rs ∧ ∀ u ∈ adr r2, u ∉ adr r) := fun r2 h2 => by
    obtain ⟨j, hj, ej⟩ := List.getElem_of_mem h2
    rw [List.getElem_set] at ej
    split at ej
    · exact .inl ej.symm
    · rename_i ne
      have hj2 : j < rs.length := by simpa using hj
      refine .inr ⟨ej ▸ List.getElem_mem _, ?_⟩
      have pw := List.pairwise_iff_getElem.mp S.pw
      subst ej
      rcases Nat.lt_or_ge j i with q | q
      · have := pw j i (by simpa using hj2) (by simpa using hi) q
        simp only [List.getElem_map, er] at this
        exact this
      · have := pw i j (by simpa using hi) (by simpa using hj2) (by omega)
        simp only [List.getElem_map, er] at this
        exact fun u hu z => this u z hu
  have sd : r'.sd = r.sd ∧ r'.l = r.l ∧ r'.a = r.a := by
    simp only [adr, List.cons.injEq, and_true] at ad
    exact ad
  refine ⟨?_, fun r2 h2 => ?_, fun r2 h2 => ?_, S.bs, by rw [ma]; exact S.pw⟩
  · have n := (S.nb r hm).2.1
    have n : SL ∉ [b, r.sd, r.l, r.a] := fun z => by
      rcases List.mem_cons.mp z with z | z
      · exact S.bs z.symm
      · exact n z
    rw [c.off _ _ n S.at_, List.map_set]
    congr 2
    apply List.ext_getElem
    · simp
    intro j h1 h2
    rw [List.getElem_set]
    split
    · rename_i z
      subst z
      simp [sd.1, er]
    · rfl
  · rcases nn r2 h2 with rfl | ⟨m, d⟩
    · exact S'
    · refine (S.all r2 m).off c fun u hu z => ?_
      rcases List.mem_cons.mp z with rfl | z
      · exact (S.nb r2 m).1 hu
      · exact d u hu z
  · rcases nn r2 h2 with rfl | ⟨m, d⟩
    · have := S.nb r hm
      rw [ad, sd.1, sd.2.1]
      exact this
    · exact S.nb r2 m
theorem Sds.push {r : SR} {h0 : Hp} (S0 : Sds K CW b SL rs h0) (s : Same h0 h) (eb : h0 b ≠ none) (S' : Sd K CW h r) (new : ∀ u ∈ adr r, h0 u = none) (nsl : r.sd ≠ r.l) : Sds K CW b SL (rs ++ [r]) (L2.upd h SL (.lst (rs.map (fun r => V.ref r.sd) ++ [.ref r.sd]))) := by
  have S := S0.same s
  have c : Chg [SL] h (L2.upd h SL (.lst (rs.map (fun r => V.ref r.sd) ++ [.ref r.sd]))) := Chg.upd S.at_ fun _ z => nomatch z
  have nSL : SL ∉ adr r := fun z => by
    have := new _ z
    rw [S0.at_] at this
    cases this
  have nB : b ∉ adr r := fun z => eb (new _ z)
  refine ⟨by rw [upd_same, List.map_append]; rfl, fun r2 h2 => ?_, fun r2 h2 => ?_, S.bs, ?_⟩
  · rcases List.mem_append.mp h2 with m | m
    · exact (S.all r2 m).off c fun u hu z => (S.nb r2 m).2.1 (by simp at z; rw [← z]; exact hu)
    · obtain rfl := List.mem_singleton.mp m
      exact S'.off c fun u hu z => nSL (by simp at z; rw [← z]; exact hu)
  · rcases List.mem_append.mp h2 with m | m
    · exact S.nb r2 m
    · obtain rfl := List.mem_singleton.mp m
      exact ⟨nB, nSL, nsl⟩
  · rw [List.map_append]
    refine List.pairwise_append.mpr ⟨S.pw, by simp, fun u hu v hv => ?_⟩
    obtain ⟨r2, m, rfl⟩ := List.mem_map.mp hu
    simp at hv
    subst hv
    exact fun z hz hz2 => adr_some (S0.all r2 m) z hz (new z hz2)
/-- two sides, new ones, in a new list -/
theorem Sds.two {r1 r2 : SR} {h1 : Hp} (bs : b ≠ SL) (e : h SL = some (.lst [.ref r1.sd, .ref r2.sd])) (S1 : Sd K CW h1 r1) (s : Same h1 h) (S2 : Sd K CW h r2) (n1 : b ∉ adr r1) (n2 : b ∉ adr r2) (m1 : SL ∉ adr r1) (m2 : SL ∉ adr r2) (d1 : r1.sd ≠ r1.l) (d2 : r2.sd ≠ r2.l) (new : ∀ u ∈ adr r2, h1 u = none) : Sds K CW b SL [r1, r2] h := by
  refine ⟨e, fun r hr => ?_, fun r hr => ?_, bs, ?_⟩
  · simp at hr
    rcases hr with rfl | rfl
    · exact S1.same s
    · exact S2
  · simp at hr
    rcases hr with rfl | rfl
    · exact ⟨n1, m1, d1⟩
    · exact ⟨n2, m2, d2⟩
  · simp only [List.map_cons, List.map_nil]
    refine .cons (fun v hv => ?_) (.cons (fun v hv => absurd hv List.not_mem_nil) .nil)
    simp at hv
    subst hv
    exact fun z hz hz2 => adr_some S1 z hz (new z hz2)
end
end Gx
namespace Gx
open PySem PySem.Spec PyProof.Rows L2
theorem chg_new3 {b u v w : Addr} {H h h' : Hp} (c : Chg [b] H h) (d : Chg [b, u, v, w] h h') (n1 : H u = none) (n2 : H v = none) (n3 : H w = none) : Chg [b] H h' :=
  ⟨fun z o m e => d.off z o (fun y => by
    have mb : z ≠ b := by simpa using m
    simp only [List.mem_cons, List.not_mem_nil, or_false] at y
    rcases y with y | y | y | y
    · exact mb y
    · rw [y, n1] at e; cases e
    · rw [y, n2] at e; cases e
    · rw [y, n3] at e; cases e) (c.off z o m e), fun z xs e => d.tup z xs (c.tup z xs e)⟩
end Gx
set_option linter.all false
set_option maxRecDepth 100000
set_option maxHeartbeats 4000000
namespace Gx
open PySem PySem.Spec PyProof.Rows L2
/-- x is not y, of truths -/
theorem op_notBl {X : Cx} : OpR X (compareOp .IsNot) (fun x y H Q => ∃ a b, x = .bl a ∧ y = .bl b ∧ Q (.bl (!(a == b))) H) := by
  intro pins s σ H x y v u Q I rx ry h
  obtain ⟨a, b, rfl, rfl, q⟩ := h
  obtain rfl : v = Value.bool a := rx
  obtain rfl : u = Value.bool b := ry
  exact wpAny_isNot_plain rfl (fin_bl I q (by cases a <;> cases b <;> rfl))
theorem wsm {i : Int} (h : wsmall i) : -5000 ≤ i ∧ i ≤ 5000 := ⟨by have := h.1; omega, by have := h.2; omega⟩
theorem dBy_sm {z : Str} {i : Int} : -5000 ≤ dBy z i ∧ dBy z i ≤ 5000 := by
  have := dBy_small (z := z) (i := i)
  omega
theorem step_sm5 {p : Prt} {k : Kp} {g : Str → Int} (ok : p.ok) (f : fits p k) (hg : ∀ z, wsmall (g z)) : -5000 ≤ (Gx.step p k g).1 ∧ (Gx.step p k g).1 ≤ 5000 := by
  cases p with
  | frm n => cases k <;> first | exact wsm (hg n) | exact f.elim
  | wave t s => cases k with
    | one x =>
      have := gTab_small (z := t) (p := x / 64) ok.1 (Int.ediv_nonneg f.1 (by decide)) (by have := f.2; omega)
      simp only [Gx.step]
      omega
    | _ => exact f.elim
  | slow t s => cases k with
    | two x c =>
      have := gTab_small (z := t) (p := x / 64) ok.1 (Int.ediv_nonneg f.1.1 (by decide)) (by have := f.1.2; omega)
      simp only [Gx.step]
      omega
    | _ => exact f.elim
  | noise s => cases k with
    | one x =>
      have : 0 ≤ x ∧ x < 4096 := f
      simp only [Gx.step]
      omega
    | _ => exact f.elim
  | shape z => cases k with
    | shp lv y =>
      have := mv_small (y := wordF y (decide (0 < g "gate"))) ok f
      simp only [Gx.step]
      omega
    | _ => exact f.elim
  | taps fs m => cases k with
    | line xs => exact dBy_sm
    | _ => exact f.elim
  | mix fs m => cases k <;> first | exact dBy_sm | exact f.elim
  | times m => cases k <;> first | exact dBy_sm | exact f.elim
  | delay n => cases k with
    | line xs =>
      simp only [Gx.step]
      cases xs with
      | nil => exact ⟨by decide, by decide⟩
      | cons y r => exact wsm (f.2 y List.mem_cons_self)
    | _ => exact f.elim
  | follow s => cases k with
    | one x =>
      have : 0 ≤ x ∧ x ≤ 2047 := f
      have h1 := (hg "in").1
      have h2 := (hg "in").2
      have := ok.1
      simp only [Gx.step]
      omega
    | _ => exact f.elim
theorem two_ints {H : Hp} {Q : VK} {r : Addr} {i j : Int} (hi : -5000 ≤ i ∧ i ≤ 5000) (hj : -5000 ≤ j ∧ j ≤ 5000) (e : H r = some (.lst [.int i, .int j])) (q : Q (.str (PyData.list [.int i, .int j]).shown) H) : rShowE [.ref r] H Q :=
  sm_show (.lst e (.cons (.int _) (.cons (.int _) .nil))) (by rw [smD, smL, smL, smL, sm_int hi, sm_int hj]; rfl) (by simp [PyData.depth, PyData.depthAll]) (by simp [cntD, cntL]) q
theorem two_bls {H : Hp} {Q : VK} {r : Addr} {a b : Bool} (e : H r = some (.lst [.bl a, .bl b])) (q : Q (.str (PyData.list [.bool a, .bool b]).shown) H) : rShowE [.ref r] H Q :=
  sm_show (.lst e (.cons (.bl _) (.cons (.bl _) .nil))) rfl (by simp [PyData.depth, PyData.depthAll]) (by simp [cntD, cntL]) q
section
variable {σ : L2.St} {H : Hp} {Q : VK}
theorem r_tD {trs : List (TE × TE)} (h : ∀ p, H p = none → tPairs trs σ (upd H p (.dK [])) fun ps H2 => H2 p = some (.dK []) ∧ ∃ kvs : List (Key × V), ps = kvs.map (fun kv => (kV kv.1, kv.2)) ∧ kvs.length ≤ 15 ∧ Q (.ref p) (upd H2 p (.dK (mergeK [] kvs)))) : tDisp trs σ H Q := h
end
theorem put_nd {es : List (Key × V)} {z : Key} {v : V} (h : (es.map (·.1)).Nodup) : ((putK es z v).map (·.1)).Nodup := by
  unfold putK
  split
  · rw [List.map_map]
    have e : ((fun x : Key × V => x.1) ∘ fun kv : Key × V => if kv.1 = z then (kv.1, v) else kv) = fun x => x.1 := by
      funext x
      simp only [Function.comp]
      split <;> rfl
    rw [e]
    exact h
  · rename_i n
    rw [List.map_append]
    refine List.nodup_append.mpr ⟨h, by simp, fun a ha b hb => ?_⟩
    simp at hb
    subst hb
    intro y
    subst y
    obtain ⟨kv, hk, e⟩ := List.mem_map.mp ha
    exact n (List.any_eq_true.mpr ⟨kv, hk, decide_eq_true e⟩)
theorem val_nd {es : List (Key × V)} (h : (es.map (·.1)).Nodup) : ∀ kv ∈ es, valV es kv.1 = some kv.2 := by
  induction es with
  | nil => intro kv hk; cases hk
  | cons a r ih =>
    intro kv hk
    rw [List.map_cons, List.nodup_cons] at h
    unfold valV
    rcases List.mem_cons.mp hk with rfl | hk
    · simp
    · have ne : ¬ a.1 = kv.1 := fun z => h.1 (z ▸ List.mem_map.mpr ⟨kv, hk, rfl⟩)
      rw [List.find?_cons_of_neg (by simpa using ne)]
      exact ih h.2 kv hk
end Gx
namespace Gx
open PySem PySem.Spec PyProof.Rows L2
theorem r_tp {σ : L2.St} {H : Hp} {tk tv : TE} {r : List (TE × TE)} {Q : List (V × V) → Hp → Prop} (h : tk σ H fun x H1 => tv σ H1 fun y H2 => tPairs r σ H2 fun ps H3 => Q ((x, y) :: ps) H3) : tPairs ((tk, tv) :: r) σ H Q := h
theorem r_tp0 {σ : L2.St} {H : Hp} {Q : List (V × V) → Hp → Prop} (h : Q [] H) : tPairs [] σ H Q := h
end Gx
set_option linter.all false
set_option maxRecDepth 100000
set_option maxHeartbeats 4000000
namespace KB
open PySem PySem.Spec PyProof.Rows L2 Gx
local macro_rules | `(tactic| walk_at "rd1") => `(tactic| with_reducible first
  | refine r_var rfl ?_ | refine r_c ?_ | refine r_op ?_ | refine r_un ?_ | refine r_I0 ?_ | refine r_neg ?_ | refine r_test ?_ | refine r_B ?_ | refine r_bl ?_ | refine r_blx ?_
  | refine r_seq ?_ | refine r_ret ?_ | refine r_asg ?_ | refine r_name ?_ | refine r_gsub ?_ | refine r_if ?_ | refine r_next ?_ | refine r_drop ?_ | refine r_cb ?_ | refine r_nil ?_ | refine r_cons ?_
  | refine r_g ?_ | refine r_k ?_ | refine r_lstN ?_ | refine r_tupN ?_ | refine r_notV ?_ | refine r_ifE ?_ | refine r_and ?_ | refine r_or ?_ | refine r_not ?_ | refine r_chain ?_
  | refine r_sl ?_ | refine r_part ?_ | refine r_nop ?_ | refine r_par3 ?_ | refine r_is3 ?_ | refine r_par2 ?_ | refine r_is2 ?_ | refine r_m0 ?_ | refine r_ei ?_ | refine r_nx ?_ | refine r_rt ?_ | refine r_ct ?_ | refine r_eq rfl ?_ | refine r_ne rfl ?_ | refine iteT ?_ | refine iteF ?_ | refine iteNF ?_ | refine iteNT ?_
  | (refine r_fdivK ?hc ?_; (case hc => decide +kernel)) | (refine r_modK ?hc ?_; (case hc => decide +kernel)) | (refine r_mulL ?hc ?_; (case hc => decide +kernel)) | (refine r_mulR ?hc ?_; (case hc => decide +kernel)) | (refine r_powK ?hc ?_; (case hc => decide +kernel)) | fail "no step")
local macro_rules | `(tactic| walk_at "rd") => `(tactic| repeat' walk_at "rd1")
section
variable {P : Program} {w : World} {K : PySem.W.Frag} {mg : Str → Option Value} {base : Heap} {f : Addr} {fd : FuncData} {C_NoPart C_NoIns C_Worker : Addr}
/-! ### ports and ins -/
def nm8 (z : Str) : Prop := nameB z = true ∧ z.length ≤ 1000
def spLPorts : Sp := fun vs H Q _ => ∃ (x : Addr) (p : Prt), vs = [.ref x] ∧ PAt H x p ∧ p.ok ∧ ∀ l (zs : List Str) H', H l = none → Same H H' → H' l = some (.lst (zs.map V.str)) → (∀ z ∈ zs, nm8 z) → zs.length ≤ 4 → Q (.ref l) H'
theorem sc_law_ports : FnScope ["part"] ["part"] (defScope s_law_ports) := ⟨rfl, rfl, rfl, by decide +kernel, rfl, by decide +kernel, by decide +kernel⟩
theorem ok_law_ports (T : Txt K mg w C_NoPart C_NoIns C_Worker) (F : Fun K "_law_ports" "_law_ports" s_law_ports f fd) : FnG P w K mg base (L2.CX P w) 1 f fd ["part"] spLPorts := by
  refine fnG F sc_law_ports (fun vs H Q E h => ?_) (fun cdv A outer s H vs Q E hG hr h => ?_)
  · obtain ⟨x, p, rfl, hx, ok, q⟩ := h
    all_goals rfl
  · obtain ⟨x, p, rfl, hx, ok, q⟩ := h
    have nd := sc_law_ports.nd
    refine ⟨_, (pss_cons (ps_if (pt_cmpR op_eq (pe_ix ix_tup (pv 0) pe_int (fun _ _ => rfl)) pe_str (nomark _)) (pss_one (ps_ret (pe_slice sl_list (pe_lst (pa_cons pe_str (pa_cons pe_str (pa_cons pe_str (pa_cons pe_str pa_nil))))) po_none (po_some (pe_callB call_len_seq (by rfl) T.n_len PySem.boot_len (pa_cons (pe_ix ix_tup (pv 0) pe_int (fun _ _ => rfl)) pa_nil)))))) pss_nil)
        (pss_cons (ps_if (pt_cmpR op_in_seq (pe_ix ix_tup (pv 0) pe_int (fun _ _ => rfl)) (pe_tup (pa_cons pe_str (pa_cons pe_str (pa_cons pe_str pa_nil)))) (by rfl)) (pss_one (ps_ret (pe_lst (pa_cons pe_str pa_nil)))) pss_nil)
        (pss_one (ps_ret (pe_dget2 (Nat.lt_of_le_of_lt (Nat.add_le_add_left (by decide : 1 ≤ 64) _) hr.units) (pe_disp (pps_cons pe_str (pe_lst (pa_cons pe_str pa_nil)) (pps_cons pe_str (pe_lst (pa_cons pe_str pa_nil)) (pps_cons pe_str (pe_lst (pa_cons pe_str (pa_cons pe_str pa_nil))) (pps_cons pe_str (pe_lst (pa_cons (pe_ix ix_tup (pv 0) pe_int (fun _ _ => rfl)) pa_nil)) pps_nil)))) (by rfl) (by rfl) (by simp) (by decide)) (pe_ix ix_tup (pv 0) pe_int (fun _ _ => rfl)) (pe_lst pa_nil) ⟨rfl, rfl, rfl, rfl⟩))))), ?_⟩
    walk_at "rd"
    cases p with
    | mix fs m =>
      obtain ⟨f1, hx, hf⟩ := hx
      obtain ⟨⟨o1, o2, _⟩, _⟩ := ok
      refine ⟨x, _, 0, _, rfl, rfl, SqT.of hx, rfl, ?_⟩
      walk_at "rd"
      refine iteTb (by decide +kernel) ?_
      walk_at "rd"
      refine newL rfl fun l0 H1 n0 s1 e1 => ?_
      walk_at "rd"
      refine ⟨x, _, 1, _, rfl, rfl, SqT.of (s1 _ _ hx), rfl, ?_⟩
      walk_at "rd"
      refine ⟨f1, _, rfl, .inr (SqT.of (s1 _ _ hf)), ?_⟩
      walk_at "rd"
      rw [List.length_map]
      refine ⟨l0, _, rfl, SqL.of e1, fun g hg => ?_⟩
      have e : cutV [V.str "a", .str "b", .str "c", .str "d"] none (some (fs.length : Int)) = ((["a", "b", "c", "d"] : List Str).take fs.length).map V.str := by
        rw [cut_take, List.map_take]
        rfl
      rw [e]
      refine q g _ _ (none_of s1 hg) (s1.trans (same_new hg)) upd_same (fun z hz => ?_) (by rw [List.length_take]; exact Nat.min_le_right _ _)
      have hz := List.mem_of_mem_take hz
      simp at hz
      rcases hz with rfl | rfl | rfl | rfl <;> exact ⟨by decide +kernel, by decide +kernel⟩
    | taps fs m =>
      obtain ⟨f1, hx, hf⟩ := hx
      refine ⟨x, _, 0, _, rfl, rfl, SqT.of hx, rfl, ?_⟩
      walk_at "rd"
      refine iteFb (by decide +kernel) ?_
      walk_at "rd"
      refine ⟨x, _, 0, _, rfl, rfl, SqT.of hx, rfl, ?_⟩
      walk_at "rd"
      refine newT rfl fun t1 H1 nt1 sH1 et1 => ?_
      refine ⟨t1, _, rfl, .inr (SqT.of et1), rfl, rfl, ?_⟩
      walk_at "rd"
      refine iteTb (by decide +kernel) ?_
      walk_at "rd"
      refine newL rfl fun l H2 nl s2 e2 => q l ["in"] H2 (none_of sH1 nl) (sH1.trans s2) e2 (fun z hz => ?_) (by decide)
      simp at hz
      subst hz
      exact ⟨by decide +kernel, by decide +kernel⟩
    | delay n =>
      refine ⟨x, _, 0, _, rfl, rfl, SqT.of hx, rfl, ?_⟩
      walk_at "rd"
      refine iteFb (by decide +kernel) ?_
      walk_at "rd"
      refine ⟨x, _, 0, _, rfl, rfl, SqT.of hx, rfl, ?_⟩
      walk_at "rd"
      refine newT rfl fun t1 H1 nt1 sH1 et1 => ?_
      refine ⟨t1, _, rfl, .inr (SqT.of et1), rfl, rfl, ?_⟩
      walk_at "rd"
      refine iteTb (by decide +kernel) ?_
      walk_at "rd"
      refine newL rfl fun l H2 nl s2 e2 => q l ["in"] H2 (none_of sH1 nl) (sH1.trans s2) e2 (fun z hz => ?_) (by decide)
      simp at hz
      subst hz
      exact ⟨by decide +kernel, by decide +kernel⟩
    | follow s =>
      refine ⟨x, _, 0, _, rfl, rfl, SqT.of hx, rfl, ?_⟩
      walk_at "rd"
      refine iteFb (by decide +kernel) ?_
      walk_at "rd"
      refine ⟨x, _, 0, _, rfl, rfl, SqT.of hx, rfl, ?_⟩
      walk_at "rd"
      refine newT rfl fun t1 H1 nt1 sH1 et1 => ?_
      refine ⟨t1, _, rfl, .inr (SqT.of et1), rfl, rfl, ?_⟩
      walk_at "rd"
      refine iteTb (by decide +kernel) ?_
      walk_at "rd"
      refine newL rfl fun l H2 nl s2 e2 => q l ["in"] H2 (none_of sH1 nl) (sH1.trans s2) e2 (fun z hz => ?_) (by decide)
      simp at hz
      subst hz
      exact ⟨by decide +kernel, by decide +kernel⟩
    | frm n =>
      refine ⟨x, _, 0, _, rfl, rfl, SqT.of hx, rfl, ?_⟩
      walk_at "rd"
      refine iteFb (by decide +kernel) ?_
      walk_at "rd"
      refine ⟨x, _, 0, _, rfl, rfl, SqT.of hx, rfl, ?_⟩
      walk_at "rd"
      refine newT rfl fun t1 H1 nt1 sH1 et1 => ?_
      refine ⟨t1, _, rfl, .inr (SqT.of et1), rfl, rfl, ?_⟩
      walk_at "rd"
      refine iteFb (by decide +kernel) ?_
      walk_at "rd"
      refine r_dg2 ?_
      refine r_tD fun d0 hd0 => ?_
      have t0 := same_new (o := .dK []) hd0
      have ed0 := upd_same (H := H1) (a := d0) (o := .dK [])
      generalize L2.upd H1 d0 (.dK []) = J0 at t0 ed0 ⊢
      refine r_tp ?_
      walk_at "rd"
      refine newL rfl fun l1 J1 n1 s1 e1 => ?_
      refine r_tp ?_
      walk_at "rd"
      refine newL rfl fun l2 J2 n2 s2 e2 => ?_
      refine r_tp ?_
      walk_at "rd"
      refine newL rfl fun l3 J3 n3 s3 e3 => ?_
      refine r_tp ?_
      walk_at "rd"
      refine ⟨x, _, 1, _, rfl, rfl, SqT.of ((sH1.trans (t0.trans (s1.trans (s2.trans s3)))) _ _ hx), rfl, ?_⟩
      walk_at "rd"
      refine newL rfl fun l4 J4 n4 s4 e4 => ?_
      refine r_tp0 ?_
      have ed4 := (s1.trans (s2.trans (s3.trans s4))) _ _ ed0
      refine ⟨ed4, [(.inr "wave", .ref l1), (.inr "shape", .ref l2), (.inr "times", .ref l3), (.inr "from", .ref l4)], rfl, Nat.le_of_ble_eq_true rfl, ?_⟩
      have c6 : Chg [d0] J4 (L2.upd J4 d0 (.dK (mergeK [] [(.inr "wave", .ref l1), (.inr "shape", .ref l2), (.inr "times", .ref l3), (.inr "from", .ref l4)]))) := Chg.upd ed4 fun _ z => nomatch z
      have e6 := upd_same (H := J4) (a := d0) (o := .dK (mergeK [] [(.inr "wave", .ref l1), (.inr "shape", .ref l2), (.inr "times", .ref l3), (.inr "from", .ref l4)]))
      have keep : ∀ {u : Addr} {ys : List V}, J4 u = some (.lst ys) → L2.upd J4 d0 (.dK (mergeK [] [(.inr "wave", .ref l1), (.inr "shape", .ref l2), (.inr "times", .ref l3), (.inr "from", .ref l4)])) u = some (.lst ys) := fun {u ys} h => c6.one (fun z => by rw [z, ed4] at h; cases h) h
      have sAll : Same H (L2.upd J4 d0 (.dK (mergeK [] [(.inr "wave", .ref l1), (.inr "shape", .ref l2), (.inr "times", .ref l3), (.inr "from", .ref l4)]))) := same_upd (none_of sH1 hd0) (sH1.trans (t0.trans (s1.trans (s2.trans (s3.trans s4)))))
      have k1 := keep ((s2.trans (s3.trans s4)) _ _ e1)
      have k2 := keep ((s3.trans s4) _ _ e2)
      have k3 := keep (s4 _ _ e3)
      have k4 := keep e4
      generalize L2.upd J4 d0 (.dK (mergeK [] [(.inr "wave", .ref l1), (.inr "shape", .ref l2), (.inr "times", .ref l3), (.inr "from", .ref l4)])) = J6 at c6 e6 sAll k1 k2 k3 k4 ⊢
      refine ⟨d0, rfl, .inl ⟨_, .inl e6⟩, ?_⟩
      walk_at "rd"
      refine ⟨x, _, 0, _, rfl, rfl, SqT.of (sAll _ _ hx), rfl, ?_⟩
      walk_at "rd"
      refine newL rfl fun l5 J7 n5 s7 e5 => ?_
      refine ⟨_, DGet.k (k := .inr "from") (s7 _ _ e6), ?_⟩
      refine q l4 [n] J7 (none_of (sH1.trans (t0.trans (s1.trans (s2.trans s3)))) n4) (sAll.trans s7) (s7 _ _ k4) (fun z hz => ?_) (by simp)
      simp at hz
      subst hz
      exact ok
    | wave t s =>
      refine ⟨x, _, 0, _, rfl, rfl, SqT.of hx, rfl, ?_⟩
      walk_at "rd"
      refine iteFb (by decide +kernel) ?_
      walk_at "rd"
      refine ⟨x, _, 0, _, rfl, rfl, SqT.of hx, rfl, ?_⟩
      walk_at "rd"
      refine newT rfl fun t1 H1 nt1 sH1 et1 => ?_
      refine ⟨t1, _, rfl, .inr (SqT.of et1), rfl, rfl, ?_⟩
      walk_at "rd"
      refine iteFb (by decide +kernel) ?_
      walk_at "rd"
      refine r_dg2 ?_
      refine r_tD fun d0 hd0 => ?_
      have t0 := same_new (o := .dK []) hd0
      have ed0 := upd_same (H := H1) (a := d0) (o := .dK [])
      generalize L2.upd H1 d0 (.dK []) = J0 at t0 ed0 ⊢
      refine r_tp ?_
      walk_at "rd"
      refine newL rfl fun l1 J1 n1 s1 e1 => ?_
      refine r_tp ?_
      walk_at "rd"
      refine newL rfl fun l2 J2 n2 s2 e2 => ?_
      refine r_tp ?_
      walk_at "rd"
      refine newL rfl fun l3 J3 n3 s3 e3 => ?_
      refine r_tp ?_
      walk_at "rd"
      refine ⟨x, _, 1, _, rfl, rfl, SqT.of ((sH1.trans (t0.trans (s1.trans (s2.trans s3)))) _ _ hx), rfl, ?_⟩
      walk_at "rd"
      refine newL rfl fun l4 J4 n4 s4 e4 => ?_
      refine r_tp0 ?_
      have ed4 := (s1.trans (s2.trans (s3.trans s4))) _ _ ed0
      refine ⟨ed4, [(.inr "wave", .ref l1), (.inr "shape", .ref l2), (.inr "times", .ref l3), (.inr "from", .ref l4)], rfl, Nat.le_of_ble_eq_true rfl, ?_⟩
      have c6 : Chg [d0] J4 (L2.upd J4 d0 (.dK (mergeK [] [(.inr "wave", .ref l1), (.inr "shape", .ref l2), (.inr "times", .ref l3), (.inr "from", .ref l4)]))) := Chg.upd ed4 fun _ z => nomatch z
      have e6 := upd_same (H := J4) (a := d0) (o := .dK (mergeK [] [(.inr "wave", .ref l1), (.inr "shape", .ref l2), (.inr "times", .ref l3), (.inr "from", .ref l4)]))
      have keep : ∀ {u : Addr} {ys : List V}, J4 u = some (.lst ys) → L2.upd J4 d0 (.dK (mergeK [] [(.inr "wave", .ref l1), (.inr "shape", .ref l2), (.inr "times", .ref l3), (.inr "from", .ref l4)])) u = some (.lst ys) := fun {u ys} h => c6.one (fun z => by rw [z, ed4] at h; cases h) h
      have sAll : Same H (L2.upd J4 d0 (.dK (mergeK [] [(.inr "wave", .ref l1), (.inr "shape", .ref l2), (.inr "times", .ref l3), (.inr "from", .ref l4)]))) := same_upd (none_of sH1 hd0) (sH1.trans (t0.trans (s1.trans (s2.trans (s3.trans s4)))))
      have k1 := keep ((s2.trans (s3.trans s4)) _ _ e1)
      have k2 := keep ((s3.trans s4) _ _ e2)
      have k3 := keep (s4 _ _ e3)
      have k4 := keep e4
      generalize L2.upd J4 d0 (.dK (mergeK [] [(.inr "wave", .ref l1), (.inr "shape", .ref l2), (.inr "times", .ref l3), (.inr "from", .ref l4)])) = J6 at c6 e6 sAll k1 k2 k3 k4 ⊢
      refine ⟨d0, rfl, .inl ⟨_, .inl e6⟩, ?_⟩
      walk_at "rd"
      refine ⟨x, _, 0, _, rfl, rfl, SqT.of (sAll _ _ hx), rfl, ?_⟩
      walk_at "rd"
      refine newL rfl fun l5 J7 n5 s7 e5 => ?_
      refine ⟨_, DGet.k (k := .inr "wave") (s7 _ _ e6), ?_⟩
      refine q l1 ["pitch"] J7 (none_of (sH1.trans t0) n1) (sAll.trans s7) (s7 _ _ k1) (fun z hz => ?_) (by simp)
      simp at hz
      rcases hz with rfl <;> exact ⟨by decide +kernel, by decide +kernel⟩
    | slow t s =>
      refine ⟨x, _, 0, _, rfl, rfl, SqT.of hx, rfl, ?_⟩
      walk_at "rd"
      refine iteFb (by decide +kernel) ?_
      walk_at "rd"
      refine ⟨x, _, 0, _, rfl, rfl, SqT.of hx, rfl, ?_⟩
      walk_at "rd"
      refine newT rfl fun t1 H1 nt1 sH1 et1 => ?_
      refine ⟨t1, _, rfl, .inr (SqT.of et1), rfl, rfl, ?_⟩
      walk_at "rd"
      refine iteFb (by decide +kernel) ?_
      walk_at "rd"
      refine r_dg2 ?_
      refine r_tD fun d0 hd0 => ?_
      have t0 := same_new (o := .dK []) hd0
      have ed0 := upd_same (H := H1) (a := d0) (o := .dK [])
      generalize L2.upd H1 d0 (.dK []) = J0 at t0 ed0 ⊢
      refine r_tp ?_
      walk_at "rd"
      refine newL rfl fun l1 J1 n1 s1 e1 => ?_
      refine r_tp ?_
      walk_at "rd"
      refine newL rfl fun l2 J2 n2 s2 e2 => ?_
      refine r_tp ?_
      walk_at "rd"
      refine newL rfl fun l3 J3 n3 s3 e3 => ?_
      refine r_tp ?_
      walk_at "rd"
      refine ⟨x, _, 1, _, rfl, rfl, SqT.of ((sH1.trans (t0.trans (s1.trans (s2.trans s3)))) _ _ hx), rfl, ?_⟩
      walk_at "rd"
      refine newL rfl fun l4 J4 n4 s4 e4 => ?_
      refine r_tp0 ?_
      have ed4 := (s1.trans (s2.trans (s3.trans s4))) _ _ ed0
      refine ⟨ed4, [(.inr "wave", .ref l1), (.inr "shape", .ref l2), (.inr "times", .ref l3), (.inr "from", .ref l4)], rfl, Nat.le_of_ble_eq_true rfl, ?_⟩
      have c6 : Chg [d0] J4 (L2.upd J4 d0 (.dK (mergeK [] [(.inr "wave", .ref l1), (.inr "shape", .ref l2), (.inr "times", .ref l3), (.inr "from", .ref l4)]))) := Chg.upd ed4 fun _ z => nomatch z
      have e6 := upd_same (H := J4) (a := d0) (o := .dK (mergeK [] [(.inr "wave", .ref l1), (.inr "shape", .ref l2), (.inr "times", .ref l3), (.inr "from", .ref l4)]))
      have keep : ∀ {u : Addr} {ys : List V}, J4 u = some (.lst ys) → L2.upd J4 d0 (.dK (mergeK [] [(.inr "wave", .ref l1), (.inr "shape", .ref l2), (.inr "times", .ref l3), (.inr "from", .ref l4)])) u = some (.lst ys) := fun {u ys} h => c6.one (fun z => by rw [z, ed4] at h; cases h) h
      have sAll : Same H (L2.upd J4 d0 (.dK (mergeK [] [(.inr "wave", .ref l1), (.inr "shape", .ref l2), (.inr "times", .ref l3), (.inr "from", .ref l4)]))) := same_upd (none_of sH1 hd0) (sH1.trans (t0.trans (s1.trans (s2.trans (s3.trans s4)))))
      have k1 := keep ((s2.trans (s3.trans s4)) _ _ e1)
      have k2 := keep ((s3.trans s4) _ _ e2)
      have k3 := keep (s4 _ _ e3)
      have k4 := keep e4
      generalize L2.upd J4 d0 (.dK (mergeK [] [(.inr "wave", .ref l1), (.inr "shape", .ref l2), (.inr "times", .ref l3), (.inr "from", .ref l4)])) = J6 at c6 e6 sAll k1 k2 k3 k4 ⊢
      refine ⟨d0, rfl, .inl ⟨_, .inl e6⟩, ?_⟩
      walk_at "rd"
      refine ⟨x, _, 0, _, rfl, rfl, SqT.of (sAll _ _ hx), rfl, ?_⟩
      walk_at "rd"
      refine newL rfl fun l5 J7 n5 s7 e5 => ?_
      refine ⟨_, DGet.k (k := .inr "slow") (s7 _ _ e6), ?_⟩
      refine q l5 ([] : List Str) J7 (none_of sAll n5) (sAll.trans s7) e5 (fun z hz => ?_) (by simp)
      simp at hz

    | noise s =>
      refine ⟨x, _, 0, _, rfl, rfl, SqT.of hx, rfl, ?_⟩
      walk_at "rd"
      refine iteFb (by decide +kernel) ?_
      walk_at "rd"
      refine ⟨x, _, 0, _, rfl, rfl, SqT.of hx, rfl, ?_⟩
      walk_at "rd"
      refine newT rfl fun t1 H1 nt1 sH1 et1 => ?_
      refine ⟨t1, _, rfl, .inr (SqT.of et1), rfl, rfl, ?_⟩
      walk_at "rd"
      refine iteFb (by decide +kernel) ?_
      walk_at "rd"
      refine r_dg2 ?_
      refine r_tD fun d0 hd0 => ?_
      have t0 := same_new (o := .dK []) hd0
      have ed0 := upd_same (H := H1) (a := d0) (o := .dK [])
      generalize L2.upd H1 d0 (.dK []) = J0 at t0 ed0 ⊢
      refine r_tp ?_
      walk_at "rd"
      refine newL rfl fun l1 J1 n1 s1 e1 => ?_
      refine r_tp ?_
      walk_at "rd"
      refine newL rfl fun l2 J2 n2 s2 e2 => ?_
      refine r_tp ?_
      walk_at "rd"
      refine newL rfl fun l3 J3 n3 s3 e3 => ?_
      refine r_tp ?_
      walk_at "rd"
      refine ⟨x, _, 1, _, rfl, rfl, SqT.of ((sH1.trans (t0.trans (s1.trans (s2.trans s3)))) _ _ hx), rfl, ?_⟩
      walk_at "rd"
      refine newL rfl fun l4 J4 n4 s4 e4 => ?_
      refine r_tp0 ?_
      have ed4 := (s1.trans (s2.trans (s3.trans s4))) _ _ ed0
      refine ⟨ed4, [(.inr "wave", .ref l1), (.inr "shape", .ref l2), (.inr "times", .ref l3), (.inr "from", .ref l4)], rfl, Nat.le_of_ble_eq_true rfl, ?_⟩
      have c6 : Chg [d0] J4 (L2.upd J4 d0 (.dK (mergeK [] [(.inr "wave", .ref l1), (.inr "shape", .ref l2), (.inr "times", .ref l3), (.inr "from", .ref l4)]))) := Chg.upd ed4 fun _ z => nomatch z
      have e6 := upd_same (H := J4) (a := d0) (o := .dK (mergeK [] [(.inr "wave", .ref l1), (.inr "shape", .ref l2), (.inr "times", .ref l3), (.inr "from", .ref l4)]))
      have keep : ∀ {u : Addr} {ys : List V}, J4 u = some (.lst ys) → L2.upd J4 d0 (.dK (mergeK [] [(.inr "wave", .ref l1), (.inr "shape", .ref l2), (.inr "times", .ref l3), (.inr "from", .ref l4)])) u = some (.lst ys) := fun {u ys} h => c6.one (fun z => by rw [z, ed4] at h; cases h) h
      have sAll : Same H (L2.upd J4 d0 (.dK (mergeK [] [(.inr "wave", .ref l1), (.inr "shape", .ref l2), (.inr "times", .ref l3), (.inr "from", .ref l4)]))) := same_upd (none_of sH1 hd0) (sH1.trans (t0.trans (s1.trans (s2.trans (s3.trans s4)))))
      have k1 := keep ((s2.trans (s3.trans s4)) _ _ e1)
      have k2 := keep ((s3.trans s4) _ _ e2)
      have k3 := keep (s4 _ _ e3)
      have k4 := keep e4
      generalize L2.upd J4 d0 (.dK (mergeK [] [(.inr "wave", .ref l1), (.inr "shape", .ref l2), (.inr "times", .ref l3), (.inr "from", .ref l4)])) = J6 at c6 e6 sAll k1 k2 k3 k4 ⊢
      refine ⟨d0, rfl, .inl ⟨_, .inl e6⟩, ?_⟩
      walk_at "rd"
      refine ⟨x, _, 0, _, rfl, rfl, SqT.of (sAll _ _ hx), rfl, ?_⟩
      walk_at "rd"
      refine newL rfl fun l5 J7 n5 s7 e5 => ?_
      refine ⟨_, DGet.k (k := .inr "noise") (s7 _ _ e6), ?_⟩
      refine q l5 ([] : List Str) J7 (none_of sAll n5) (sAll.trans s7) e5 (fun z hz => ?_) (by simp)
      simp at hz

    | shape z =>
      refine ⟨x, _, 0, _, rfl, rfl, SqT.of hx, rfl, ?_⟩
      walk_at "rd"
      refine iteFb (by decide +kernel) ?_
      walk_at "rd"
      refine ⟨x, _, 0, _, rfl, rfl, SqT.of hx, rfl, ?_⟩
      walk_at "rd"
      refine newT rfl fun t1 H1 nt1 sH1 et1 => ?_
      refine ⟨t1, _, rfl, .inr (SqT.of et1), rfl, rfl, ?_⟩
      walk_at "rd"
      refine iteFb (by decide +kernel) ?_
      walk_at "rd"
      refine r_dg2 ?_
      refine r_tD fun d0 hd0 => ?_
      have t0 := same_new (o := .dK []) hd0
      have ed0 := upd_same (H := H1) (a := d0) (o := .dK [])
      generalize L2.upd H1 d0 (.dK []) = J0 at t0 ed0 ⊢
      refine r_tp ?_
      walk_at "rd"
      refine newL rfl fun l1 J1 n1 s1 e1 => ?_
      refine r_tp ?_
      walk_at "rd"
      refine newL rfl fun l2 J2 n2 s2 e2 => ?_
      refine r_tp ?_
      walk_at "rd"
      refine newL rfl fun l3 J3 n3 s3 e3 => ?_
      refine r_tp ?_
      walk_at "rd"
      refine ⟨x, _, 1, _, rfl, rfl, SqT.of ((sH1.trans (t0.trans (s1.trans (s2.trans s3)))) _ _ hx), rfl, ?_⟩
      walk_at "rd"
      refine newL rfl fun l4 J4 n4 s4 e4 => ?_
      refine r_tp0 ?_
      have ed4 := (s1.trans (s2.trans (s3.trans s4))) _ _ ed0
      refine ⟨ed4, [(.inr "wave", .ref l1), (.inr "shape", .ref l2), (.inr "times", .ref l3), (.inr "from", .ref l4)], rfl, Nat.le_of_ble_eq_true rfl, ?_⟩
      have c6 : Chg [d0] J4 (L2.upd J4 d0 (.dK (mergeK [] [(.inr "wave", .ref l1), (.inr "shape", .ref l2), (.inr "times", .ref l3), (.inr "from", .ref l4)]))) := Chg.upd ed4 fun _ z => nomatch z
      have e6 := upd_same (H := J4) (a := d0) (o := .dK (mergeK [] [(.inr "wave", .ref l1), (.inr "shape", .ref l2), (.inr "times", .ref l3), (.inr "from", .ref l4)]))
      have keep : ∀ {u : Addr} {ys : List V}, J4 u = some (.lst ys) → L2.upd J4 d0 (.dK (mergeK [] [(.inr "wave", .ref l1), (.inr "shape", .ref l2), (.inr "times", .ref l3), (.inr "from", .ref l4)])) u = some (.lst ys) := fun {u ys} h => c6.one (fun z => by rw [z, ed4] at h; cases h) h
      have sAll : Same H (L2.upd J4 d0 (.dK (mergeK [] [(.inr "wave", .ref l1), (.inr "shape", .ref l2), (.inr "times", .ref l3), (.inr "from", .ref l4)]))) := same_upd (none_of sH1 hd0) (sH1.trans (t0.trans (s1.trans (s2.trans (s3.trans s4)))))
      have k1 := keep ((s2.trans (s3.trans s4)) _ _ e1)
      have k2 := keep ((s3.trans s4) _ _ e2)
      have k3 := keep (s4 _ _ e3)
      have k4 := keep e4
      generalize L2.upd J4 d0 (.dK (mergeK [] [(.inr "wave", .ref l1), (.inr "shape", .ref l2), (.inr "times", .ref l3), (.inr "from", .ref l4)])) = J6 at c6 e6 sAll k1 k2 k3 k4 ⊢
      refine ⟨d0, rfl, .inl ⟨_, .inl e6⟩, ?_⟩
      walk_at "rd"
      refine ⟨x, _, 0, _, rfl, rfl, SqT.of (sAll _ _ hx), rfl, ?_⟩
      walk_at "rd"
      refine newL rfl fun l5 J7 n5 s7 e5 => ?_
      refine ⟨_, DGet.k (k := .inr "shape") (s7 _ _ e6), ?_⟩
      refine q l2 ["gate"] J7 (none_of (sH1.trans (t0.trans s1)) n2) (sAll.trans s7) (s7 _ _ k2) (fun z hz => ?_) (by simp)
      simp at hz
      rcases hz with rfl <;> exact ⟨by decide +kernel, by decide +kernel⟩
    | times m =>
      refine ⟨x, _, 0, _, rfl, rfl, SqT.of hx, rfl, ?_⟩
      walk_at "rd"
      refine iteFb (by decide +kernel) ?_
      walk_at "rd"
      refine ⟨x, _, 0, _, rfl, rfl, SqT.of hx, rfl, ?_⟩
      walk_at "rd"
      refine newT rfl fun t1 H1 nt1 sH1 et1 => ?_
      refine ⟨t1, _, rfl, .inr (SqT.of et1), rfl, rfl, ?_⟩
      walk_at "rd"
      refine iteFb (by decide +kernel) ?_
      walk_at "rd"
      refine r_dg2 ?_
      refine r_tD fun d0 hd0 => ?_
      have t0 := same_new (o := .dK []) hd0
      have ed0 := upd_same (H := H1) (a := d0) (o := .dK [])
      generalize L2.upd H1 d0 (.dK []) = J0 at t0 ed0 ⊢
      refine r_tp ?_
      walk_at "rd"
      refine newL rfl fun l1 J1 n1 s1 e1 => ?_
      refine r_tp ?_
      walk_at "rd"
      refine newL rfl fun l2 J2 n2 s2 e2 => ?_
      refine r_tp ?_
      walk_at "rd"
      refine newL rfl fun l3 J3 n3 s3 e3 => ?_
      refine r_tp ?_
      walk_at "rd"
      refine ⟨x, _, 1, _, rfl, rfl, SqT.of ((sH1.trans (t0.trans (s1.trans (s2.trans s3)))) _ _ hx), rfl, ?_⟩
      walk_at "rd"
      refine newL rfl fun l4 J4 n4 s4 e4 => ?_
      refine r_tp0 ?_
      have ed4 := (s1.trans (s2.trans (s3.trans s4))) _ _ ed0
      refine ⟨ed4, [(.inr "wave", .ref l1), (.inr "shape", .ref l2), (.inr "times", .ref l3), (.inr "from", .ref l4)], rfl, Nat.le_of_ble_eq_true rfl, ?_⟩
      have c6 : Chg [d0] J4 (L2.upd J4 d0 (.dK (mergeK [] [(.inr "wave", .ref l1), (.inr "shape", .ref l2), (.inr "times", .ref l3), (.inr "from", .ref l4)]))) := Chg.upd ed4 fun _ z => nomatch z
      have e6 := upd_same (H := J4) (a := d0) (o := .dK (mergeK [] [(.inr "wave", .ref l1), (.inr "shape", .ref l2), (.inr "times", .ref l3), (.inr "from", .ref l4)]))
      have keep : ∀ {u : Addr} {ys : List V}, J4 u = some (.lst ys) → L2.upd J4 d0 (.dK (mergeK [] [(.inr "wave", .ref l1), (.inr "shape", .ref l2), (.inr "times", .ref l3), (.inr "from", .ref l4)])) u = some (.lst ys) := fun {u ys} h => c6.one (fun z => by rw [z, ed4] at h; cases h) h
      have sAll : Same H (L2.upd J4 d0 (.dK (mergeK [] [(.inr "wave", .ref l1), (.inr "shape", .ref l2), (.inr "times", .ref l3), (.inr "from", .ref l4)]))) := same_upd (none_of sH1 hd0) (sH1.trans (t0.trans (s1.trans (s2.trans (s3.trans s4)))))
      have k1 := keep ((s2.trans (s3.trans s4)) _ _ e1)
      have k2 := keep ((s3.trans s4) _ _ e2)
      have k3 := keep (s4 _ _ e3)
      have k4 := keep e4
      generalize L2.upd J4 d0 (.dK (mergeK [] [(.inr "wave", .ref l1), (.inr "shape", .ref l2), (.inr "times", .ref l3), (.inr "from", .ref l4)])) = J6 at c6 e6 sAll k1 k2 k3 k4 ⊢
      refine ⟨d0, rfl, .inl ⟨_, .inl e6⟩, ?_⟩
      walk_at "rd"
      refine ⟨x, _, 0, _, rfl, rfl, SqT.of (sAll _ _ hx), rfl, ?_⟩
      walk_at "rd"
      refine newL rfl fun l5 J7 n5 s7 e5 => ?_
      refine ⟨_, DGet.k (k := .inr "times") (s7 _ _ e6), ?_⟩
      refine q l3 ["a", "b"] J7 (none_of (sH1.trans (t0.trans (s1.trans s2))) n3) (sAll.trans s7) (s7 _ _ k3) (fun z hz => ?_) (by simp)
      simp at hz
      rcases hz with rfl | rfl <;> exact ⟨by decide +kernel, by decide +kernel⟩
theorem c_law_ports (T : Txt K mg w C_NoPart C_NoIns C_Worker) : Cal P w K mg base (L2.CX P w) 1 "_law_ports" ["part"] spLPorts :=
  T.d_law_ports.cal (fun F => ok_law_ports T F) fun _ _ _ _ _ _ us hl => match us, hl with | [_], _ => rfl
def spLGot : Sp := fun vs H Q _ => ∃ (b x : Addr) (p : Prt) (way : Int) (n : Nat), vs = [.ref b, .ref x, .int way] ∧ Bx n H b ∧ n < 80000 ∧ PAt H x p ∧ p.ok ∧
  ∀ g es H', H g = none → Chg [b] H H' → H' g = some (.dK es) → InsOk es → (es.map (·.1)).Nodup → Bx (n + 40) H' b → Q (.ref g) H'
theorem sc_law_got : FnScope ["box", "part", "way", "got", "port", "worth"] ["box", "part", "way"] (defScope s_law_got) := ⟨rfl, rfl, rfl, by decide +kernel, rfl, by decide +kernel, by decide +kernel⟩
theorem ok_law_got (T : Txt K mg w C_NoPart C_NoIns C_Worker) (F : Fun K "_law_got" "_law_got" s_law_got f fd) : FnG P w K mg base (L2.CX P w) 2 f fd ["box", "part", "way"] spLGot := by
  refine fnG F sc_law_got (fun vs H Q E h => ?_) (fun cdv A outer s H vs Q E hG hr h => ?_)
  · obtain ⟨b, x, p, way, n, rfl, B, hn, hx, ok, q⟩ := h
    all_goals rfl
  · obtain ⟨b, x, p, way, n, rfl, B, hn, hx, ok, q⟩ := h
    have nd := sc_law_got.nd
    refine ⟨_, (pss_cons (ps_set (i := 3) nd rfl (Or.inl rfl) pe_dnewK)
        (pss_cons (ps_for (passes_of rfl) rfl (pi_list (pe_g (c_law_ports T) hG (hr.mono (by decide)) (fun _ => passS) (pa_cons (pv 1) pa_nil))) (pg_name (i := 4) nd rfl (Or.inl rfl)) (pss_cons (ps_set (i := 5) nd rfl (Or.inl rfl) (pe_ix ix_list (pe_lst (pa_cons pe_int (pa_cons (pe_un un_neg pe_int) (pa_cons pe_int (pa_cons (pe_op op_sub (pe_g (c_law_take T) hG (hr.mono (by decide)) (fun _ => passS) (pa_cons (pv 0) (pa_cons pe_int pa_nil))) pe_int) (pa_cons (pe_op op_sub (pe_g (c_law_take T) hG (hr.mono (by decide)) (fun _ => passS) (pa_cons (pv 0) (pa_cons pe_int pa_nil))) pe_int) pa_nil)))))) (pe_g (c_law_take T) hG (hr.mono (by decide)) (fun _ => passS) (pa_cons (pv 0) (pa_cons pe_int pa_nil))) (fun _ _ => rfl)))
        (pss_cons (ps_if (pt_cmpR op_eq (pv 2) pe_int (nomark _)) (pss_one (ps_set (i := 5) nd rfl (Or.inl rfl) (pe_ix ix_list (pe_lst (pa_cons pe_int (pa_cons (pe_un un_neg pe_int) pa_nil))) (pe_g (c_law_take T) hG (hr.mono (by decide)) (fun _ => passS) (pa_cons (pv 0) (pa_cons pe_int pa_nil))) (fun _ _ => rfl)))) pss_nil)
        (pss_one (ps_if (pt_cmpR op_gt (pe_g (c_law_take T) hG (hr.mono (by decide)) (fun _ => passS) (pa_cons (pv 0) (pa_cons pe_int pa_nil))) pe_int (nomark _)) (pss_one (ps_asg (pv 5) (pg_sub (pv 3) (pv 4) (set_dict (Nat.lt_of_le_of_lt (Nat.add_le_add_left (by decide : 1 ≤ 64) _) hr.units))))) pss_nil)))))
        (pss_cons (ps_if (pt_cmpR op_eq (pe_g (c_law_take T) hG (hr.mono (by decide)) (fun _ => passS) (pa_cons (pv 0) (pa_cons pe_int pa_nil))) pe_int (nomark _)) (pss_one (ps_asg (pe_g (c_law_take T) hG (hr.mono (by decide)) (fun _ => passS) (pa_cons (pv 0) (pa_cons pe_int pa_nil))) (pg_sub (pv 3) pe_str (set_dict (Nat.lt_of_le_of_lt (Nat.add_le_add_left (by decide : 1 ≤ 64) _) hr.units))))) pss_nil)
        (pss_one (ps_ret (pv 3)))))), ?_⟩
    walk_at "rd"
    refine r_dnewK fun g H1 ng s1 e1 => ?_
    have gb : g ≠ b := B.ne ng
    walk_at "rd"
    refine r_for ?_
    refine r_iList ?_
    walk_at "rd"
    refine ⟨x, p, rfl, hx.same s1, ok, fun l zs H2 nl s2 el nz n4 => ?_⟩
    have lb : l ≠ b := (B.same s1).ne nl
    have lg : l ≠ g := fun z => by
      rw [z, e1] at nl
      cases nl
    refine ⟨l, rfl, ⟨_, SqL.of el⟩, ?_⟩
    refine lp_list (xs := zs.map V.str) (fun i s h => ∃ (s4 s5 : Option V) (es : List (Key × V)), s = [some (.ref b), some (.ref x), some (.int way), some (.ref g), s4, s5] ∧ h g = some (.dK es) ∧ es.length ≤ i ∧ okKV es ∧ (es.map (·.1)).Nodup ∧ h l = some (.lst (zs.map V.str)) ∧ Bx (n + i * 6) h b ∧ Chg [b] H h) ⟨_, _, [], rfl, s2 _ _ e1, Nat.le_refl _, (fun _ y => absurd y List.not_mem_nil), by simp, el, (B.same s1).same s2, .of (s1.trans s2)⟩ (fun i s h _ y => ?_) (fun i v s h hv y => ?_) (fun s h y => ?_)
    · obtain ⟨_, _, _, _, _, _, _, _, hp, _⟩ := y
      exact SqL.of hp
    · obtain ⟨s4, s5, es, rfl, he, hz, hk, nd, hp, B, C⟩ := y
      obtain ⟨z, rfl, mz⟩ : ∃ z, v = .str z ∧ z ∈ zs := by
        rw [List.getElem?_map] at hv
        cases e : zs[i]? with
        | none => rw [e] at hv; cases hv
        | some z =>
          rw [e] at hv
          exact ⟨z, (Option.some.inj hv).symm, List.mem_of_getElem? e⟩
      have hi : i < zs.length := by
        have := (List.getElem?_eq_some_iff.mp hv).1
        rwa [List.length_map] at this
      have D : Dw b h h (n + i * 6) := ⟨B, .refl⟩
      walk_at "rd"
      refine dr_take D (by decide) (by decide) (by omega) fun d1 h1 d10 d11 kh1 D1 => ?_
      walk_at "rd"
      refine dr_take D1 (by decide) (by decide) (by omega) fun d2 h2 d20 d21 kh2 D2 => ?_
      walk_at "rd"
      refine newL rfl fun p70 G70 np70 s70 e70 => ?_
      walk_at "rd"
      refine dr_take (D2.same s70) (by decide) (by decide) (by omega) fun d70 h3 d070 d170 c70 D3 => ?_
      have kh3 := (Chg.of s70).trans c70
      walk_at "rd"
      refine r_ixP (R := (fun v => ∃ i : Int, v = .int i ∧ (-2048) ≤ i ∧ i ≤ 2047)) (c70.one (D2.new np70) e70) (by intro v hv; repeat (first | exact absurd hv List.not_mem_nil | (rcases List.mem_cons.mp hv with rfl | hv; · exact ⟨_, rfl, by omega, by omega⟩))) d070 d170 ?_
      rintro v ⟨i1, rfl, i10, i11⟩
      walk_at "rd"
      have ky : Chg [b] h h3 := kh1.trans (kh2.trans kh3)
      refine ite2 (fun c => ?_) (fun c => ?_)
      · walk_at "rd"
        refine newL rfl fun p71 G71 np71 s71 e71 => ?_
        walk_at "rd"
        refine dr_take (D3.same s71) (by decide) (by decide) (by omega) fun d71 h4 d071 d171 c71 D4 => ?_
        have kh4 := (Chg.of s71).trans c71
        walk_at "rd"
        refine r_ixP (R := (fun v => ∃ i : Int, v = .int i ∧ (-2048) ≤ i ∧ i ≤ 2047)) (c71.one (D3.new np71) e71) (by intro v hv; repeat (first | exact absurd hv List.not_mem_nil | (rcases List.mem_cons.mp hv with rfl | hv; · exact ⟨_, rfl, by omega, by omega⟩))) d071 d171 ?_
        rintro v ⟨i2, rfl, i20, i21⟩
        walk_at "rd"
        have ky2 : Chg [b] h h4 := ky.trans kh4
        refine dr_take D4 (by decide) (by decide) (by omega) fun d9 h9 d90 d91 kh9 D9 => ?_
        walk_at "rd"
        have ky : Chg [b] h h9 := ky2.trans kh9
        have he := ky.one gb he
        have hp := ky.one lb hp
        refine ite2 (fun c9 => ?_) (fun c9 => ?_)
        · walk_at "rd"
          refine ⟨g, _, rfl, DPut.k (k := .inr z) he (by rw [sizeLine_eq]; omega), ?_⟩
          have cg : Chg [g] h9 (L2.upd h9 g (.dK (putK es (.inr z) (.int i2)))) := Chg.upd he fun _ y => nomatch y
          walk_at "rd"
          exact ⟨_, _, _, rfl, upd_same, Nat.le_trans put_len (by omega), ok_put hk (nz z mz) ⟨i20, i21⟩, put_nd nd, cg.one lg hp, (Bx.one D9.bx cg (Ne.symm gb)).up (by omega), chg_new (C.trans ky) cg ng⟩
        · walk_at "rd"
          exact ⟨_, _, es, rfl, he, by omega, hk, nd, hp, D9.bx.up (by omega), C.trans ky⟩
      · walk_at "rd"
        refine dr_take D3 (by decide) (by decide) (by omega) fun d9 h9 d90 d91 kh9 D9 => ?_
        walk_at "rd"
        have ky : Chg [b] h h9 := ky.trans kh9
        have he := ky.one gb he
        have hp := ky.one lb hp
        refine ite2 (fun c9 => ?_) (fun c9 => ?_)
        · walk_at "rd"
          refine ⟨g, _, rfl, DPut.k (k := .inr z) he (by rw [sizeLine_eq]; omega), ?_⟩
          have cg : Chg [g] h9 (L2.upd h9 g (.dK (putK es (.inr z) (.int i1)))) := Chg.upd he fun _ y => nomatch y
          walk_at "rd"
          exact ⟨_, _, _, rfl, upd_same, Nat.le_trans put_len (by omega), ok_put hk (nz z mz) ⟨i10, i11⟩, put_nd nd, cg.one lg hp, (Bx.one D9.bx cg (Ne.symm gb)).up (by omega), chg_new (C.trans ky) cg ng⟩
        · walk_at "rd"
          exact ⟨_, _, es, rfl, he, by omega, hk, nd, hp, D9.bx.up (by omega), C.trans ky⟩
    · obtain ⟨s4, s5, es, rfl, he, hz, hk, nd, hp, B, C⟩ := y
      rw [List.length_map] at hz B
      have D : Dw b h h (n + zs.length * 6) := ⟨B, .refl⟩
      walk_at "rd"
      refine dr_take D (by decide) (by decide) (by omega) fun d1 h1 d10 d11 kh1 D1 => ?_
      walk_at "rd"
      refine ite2 (fun c => ?_) (fun c => ?_)
      · walk_at "rd"
        refine dr_take D1 (by decide) (by decide) (by omega) fun d2 h2 d20 d21 kh2 D2 => ?_
        walk_at "rd"
        have ky : Chg [b] h h2 := kh1.trans kh2
        have he := ky.one gb he
        refine ⟨g, _, rfl, DPut.k (k := .inr "other") he (by rw [sizeLine_eq]; omega), ?_⟩
        have cg : Chg [g] h2 (L2.upd h2 g (.dK (putK es (.inr "other") (.int d2)))) := Chg.upd he fun _ y => nomatch y
        walk_at "rd"
        exact q g _ _ ng (chg_new (C.trans ky) cg ng) upd_same ⟨Nat.le_trans put_len (by omega), ok_put hk ⟨by decide +kernel, by decide +kernel⟩ ⟨by omega, by omega⟩⟩ (put_nd nd) ((Bx.one D2.bx cg (Ne.symm gb)).up (by omega))
      · walk_at "rd"
        exact q g es _ ng (C.trans kh1) (kh1.one gb he) ⟨by omega, hk⟩ nd (D1.bx.up (by omega))
theorem c_law_got (T : Txt K mg w C_NoPart C_NoIns C_Worker) : Cal P w K mg base (L2.CX P w) 2 "_law_got" ["box", "part", "way"] spLGot :=
  T.d_law_got.cal (fun F => ok_law_got T F) fun _ _ _ _ _ _ us hl => match us, hl with | [_, _, _], _ => rfl
end
end KB
set_option linter.all false
set_option maxRecDepth 100000
set_option maxHeartbeats 4000000
namespace KB
open PySem PySem.Spec PyProof.Rows L2 Gx
local macro_rules | `(tactic| walk_at "rd1") => `(tactic| with_reducible first
  | refine r_var rfl ?_ | refine r_c ?_ | refine r_op ?_ | refine r_un ?_ | refine r_I0 ?_ | refine r_neg ?_ | refine r_test ?_ | refine r_B ?_ | refine r_bl ?_ | refine r_blx ?_
  | refine r_seq ?_ | refine r_ret ?_ | refine r_asg ?_ | refine r_name ?_ | refine r_gsub ?_ | refine r_if ?_ | refine r_next ?_ | refine r_drop ?_ | refine r_cb ?_ | refine r_nil ?_ | refine r_cons ?_
  | refine r_g ?_ | refine r_k ?_ | refine r_lstN ?_ | refine r_tupN ?_ | refine r_notV ?_ | refine r_ifE ?_ | refine r_and ?_ | refine r_or ?_ | refine r_not ?_ | refine r_chain ?_
  | refine r_sl ?_ | refine r_part ?_ | refine r_nop ?_ | refine r_par3 ?_ | refine r_is3 ?_ | refine r_par2 ?_ | refine r_is2 ?_ | refine r_m0 ?_ | refine r_ei ?_ | refine r_nx ?_ | refine r_rt ?_ | refine r_ct ?_ | refine r_eq rfl ?_ | refine r_ne rfl ?_ | refine iteT ?_ | refine iteF ?_ | refine iteNF ?_ | refine iteNT ?_
  | (refine r_fdivK ?hc ?_; (case hc => decide +kernel)) | (refine r_modK ?hc ?_; (case hc => decide +kernel)) | (refine r_mulL ?hc ?_; (case hc => decide +kernel)) | (refine r_mulR ?hc ?_; (case hc => decide +kernel)) | (refine r_powK ?hc ?_; (case hc => decide +kernel)) | fail "no step")
local macro_rules | `(tactic| walk_at "rd") => `(tactic| repeat' walk_at "rd1")
section
variable {P : Program} {w : World} {K : PySem.W.Frag} {mg : Str → Option Value} {base : Heap} {f : Addr} {fd : FuncData} {C_NoPart C_NoIns C_Worker : Addr}
/-! ### two workers beside the law's own state -/
theorem lst_frm {n : Str} {k : Kp} {l : List V} : LSt (.frm n) k l := by cases k <;> trivial
def spLRight7 : Sp := fun vs H Q _ => ∃ (b x : Addr) (p : Prt) (many : Int) (n : Nat), vs = [.ref b, .ref x, .int many] ∧ Bx n H b ∧ n < 60000 ∧ PAt H x p ∧ p.ok ∧ 0 ≤ many ∧ many ≤ 100 ∧ ∀ H', Chg [b] H H' → Bx (n + 4200) H' b → Q (.bl true) H'
theorem sc_law_right : FnScope ["box", "part", "many", "one", "other", "state", "way", "turn", "got", "before", "due", "was", "found"] ["box", "part", "many"] (defScope s_law_right) := ⟨rfl, rfl, rfl, by decide +kernel, rfl, by decide +kernel, by decide +kernel⟩
theorem ok_law_right (T : Txt K mg w C_NoPart C_NoIns C_Worker) (F : Fun K "_law_right" "_law_right" s_law_right f fd) : FnG P w K mg base (L2.CX P w) 9 f fd ["box", "part", "many"] spLRight7 := by
  obtain ⟨fIn, dIn, mkW, FIn⟩ := T.me_Worker_init
  obtain ⟨fWf, dWf, mWf, FWf⟩ := T.me_Worker_was_folded
  obtain ⟨fPa, dPa, mPa, FPa⟩ := T.me_Worker_part
  obtain ⟨fSa, dSa, mSa, FSa⟩ := T.me_Worker_sample
  obtain ⟨fEq, dEq, mEq, FEq⟩ := T.me_Worker_eq
  refine fnG F sc_law_right (fun vs H Q E h => ?_) (fun cdv A outer s H vs Q E hG hr h => ?_)
  · obtain ⟨b, x, p, many, n, rfl, B, hn, hx, ok, m0, m1, q⟩ := h
    all_goals rfl
  · obtain ⟨b, x, p, many, n, rfl, B, hn, hx, ok, m0, m1, q⟩ := h
    have nd := sc_law_right.nd
    refine ⟨_, (pss_cons (ps_par (i := 3) (j := 4) rfl nd rfl rfl (by decide) rfl rfl (pa_cons (pe_make mkW (ok_Worker_init T FIn) (hr.mono (by decide)) rfl T.gl_Worker (FIn.binds b_Worker_init) .nil passL (pa_cons (pv 1) pa_nil)) (pa_cons (pe_make mkW (ok_Worker_init T FIn) (hr.mono (by decide)) rfl T.gl_Worker (FIn.binds b_Worker_init) .nil passL (pa_cons (pv 1) pa_nil)) pa_nil)) rfl)
        (pss_cons (ps_par (i := 5) (j := 6) rfl nd rfl rfl (by decide) rfl rfl (pa_cons (pe_g (c_law_new T) hG (hr.mono (by decide)) (fun _ => passS) (pa_cons (pv 1) pa_nil)) (pa_cons (pe_g (c_law_take T) hG (hr.mono (by decide)) (fun _ => passS) (pa_cons (pv 0) (pa_cons pe_int pa_nil))) pa_nil)) rfl)
        (pss_cons (ps_if (PW.pt (pw_or (pt_cmpR Gx.op_notBl (pe_meth0 (pv 3) T.cl_Worker mWf (ok_Worker_was_folded T FWf) (hr.mono (by decide)) (FWf.binds b_Worker_was_folded) .nil passL rfl) pe_bl (nomark _)) (pw_or1 (pt_cmpR (op_neD hr.units) (pe_meth0 (pv 3) T.cl_Worker mPa (ok_Worker_part T FPa) (hr.mono (by decide)) (FPa.binds b_Worker_part) .nil passL rfl) (pv 1) (nomark _))))) (pss_one (ps_ret pe_bl)) pss_nil)
        (pss_cons (ps_for (passes_of rfl) rfl (pi_range1 rfl T.n_range (pa_cons (pv 2) pa_nil)) (pg_name (i := 7) nd rfl (Or.inl rfl)) (pss_cons (ps_set (i := 8) nd rfl (Or.inl rfl) (pe_g (c_law_got T) hG (hr.mono (by decide)) (fun _ => passS) (pa_cons (pv 0) (pa_cons (pv 1) (pa_cons (pv 6) pa_nil)))))
        (pss_cons (ps_set (i := 9) nd rfl (Or.inl rfl) (pe_callTy call_dictD (by rfl) T.n_dict (by decide +kernel) (pa_cons (pv 8) pa_nil)))
        (pss_cons (ps_asg (pe_ifExp (pt_cmpR op_eq (pe_ix ix_tup (pv 1) pe_int (fun _ _ => rfl)) pe_str (nomark _)) (pe_tup (pa_cons (pe_dget2 (Nat.lt_of_le_of_lt (Nat.add_le_add_left (by decide : 1 ≤ 64) _) hr.units) (pv 8) (pe_ix ix_tup (pv 1) pe_int (fun _ _ => rfl)) pe_int ⟨rfl, rfl, rfl, rfl⟩) (pa_cons pe_bl pa_nil))) (pe_g (c_law_done T) hG (hr.mono (by decide)) (fun _ => passS) (pa_cons (pv 5) (pa_cons (pv 1) (pa_cons (pv 8) pa_nil))))) (pg_tup rfl (pgs_cons (pg_name (i := 10) nd rfl (Or.inl rfl)) (pgs_cons (pg_name (i := 11) nd rfl (Or.inl rfl)) pgs_nil))))
        (pss_cons (ps_set (i := 12) nd rfl (Or.inl rfl) (pe_lst (pa_cons (pe_meth (pv 3) T.cl_Worker mSa (ok_Worker_sample T FSa) (hr.mono (by decide)) (FSa.binds b_Worker_sample) .nil passL (pa_cons (pv 8) pa_nil) rfl rfl rfl) (pa_cons (pe_meth (pv 4) T.cl_Worker mSa (ok_Worker_sample T FSa) (hr.mono (by decide)) (FSa.binds b_Worker_sample) .nil passL (pa_cons (pe_callTy call_dictD (by rfl) T.n_dict (by decide +kernel) (pa_cons (pv 8) pa_nil)) pa_nil) rfl rfl rfl) pa_nil))))
        (pss_cons (ps_if (PW.pt (pw_or (pt_cmpR op_ne (pe_callB (call_showE hG hr.units) (by rfl) T.n_repr (by decide +kernel) (pa_cons (pv 12) pa_nil)) (pe_callB (call_showE hG hr.units) (by rfl) T.n_repr (by decide +kernel) (pa_cons (pe_lst (pa_cons (pv 10) (pa_cons (pv 10) pa_nil))) pa_nil)) (nomark _)) (pw_or1 (pt_cmpR op_ne (pe_callB (call_showE hG hr.units) (by rfl) T.n_repr (by decide +kernel) (pa_cons (pe_lst (pa_cons (pe_meth0 (pv 3) T.cl_Worker mWf (ok_Worker_was_folded T FWf) (hr.mono (by decide)) (FWf.binds b_Worker_was_folded) .nil passL rfl) (pa_cons (pe_meth0 (pv 4) T.cl_Worker mWf (ok_Worker_was_folded T FWf) (hr.mono (by decide)) (FWf.binds b_Worker_was_folded) .nil passL rfl) pa_nil))) pa_nil)) (pe_callB (call_showE hG hr.units) (by rfl) T.n_repr (by decide +kernel) (pa_cons (pe_lst (pa_cons (pv 11) (pa_cons (pv 11) pa_nil))) pa_nil)) (nomark _))))) (pss_one (ps_ret pe_bl)) pss_nil)
        (pss_one (ps_if (PW.pt (pw_or (pt_cmpR (op_ne_dictA (Nat.lt_of_le_of_lt (Nat.le_add_right _ 64) hr.units)) (pv 8) (pv 9) (nomark _)) (pw_or1 (pt_not (pt_cmpR (op_eqO (ok_Worker_eq T FEq) mEq (FEq.binds b_Worker_eq) passL T.oc_Worker (hr.mono (by decide))) (pv 3) (pv 4) (nomark _)))))) (pss_one (ps_ret pe_bl)) pss_nil))))))))
        (pss_one (ps_ret pe_bl)))))), ?_⟩
    walk_at "rd"
    refine r_make ?_
    walk_at "rd"
    intro a_1 dx_1 ha_1 hdx_1 nda_1
    have sz_1 : Same H (L2.upd (L2.upd H dx_1 (.own a_1)) a_1 (.ins C_Worker dx_1 [])) := (same_new hdx_1).trans (same_new (by rw [upd_ne (Ne.symm nda_1)]; exact ha_1))
    refine ⟨a_1, dx_1, .ref x, rfl, upd_same, .inl ⟨x, p, rfl, (hx).same sz_1, ok, fun k_1 G_1 c_1 W_1 => ⟨rfl, ?_⟩⟩⟩
    have t_1 : Same H G_1 := (Chg.drop (l := []) ha_1 sz_1 c_1).same
    clear c_1 sz_1
    walk_at "rd"
    refine r_make ?_
    walk_at "rd"
    intro a_2 dx_2 ha_2 hdx_2 nda_2
    have sz_2 : Same G_1 (L2.upd (L2.upd G_1 dx_2 (.own a_2)) a_2 (.ins C_Worker dx_2 [])) := (same_new hdx_2).trans (same_new (by rw [upd_ne (Ne.symm nda_2)]; exact ha_2))
    refine ⟨a_2, dx_2, .ref x, rfl, upd_same, .inl ⟨x, p, rfl, (hx.same t_1).same sz_2, ok, fun k_2 G_2 c_2 W_2 => ⟨rfl, ?_⟩⟩⟩
    have t_2 : Same G_1 G_2 := (Chg.drop (l := []) ha_2 sz_2 c_2).same
    clear c_2 sz_2
    walk_at "rd"
    have t12 := t_1.trans t_2
    refine ⟨x, p, rfl, hx.same t12, ok, fun l ls J nl u el hL => ?_⟩
    have tJ := t12.trans u
    walk_at "rd"
    have hn1 : H a_1 = none := ha_1
    have hn2 : H a_2 = none := none_of t_1 ha_2
    have hn3 : H l = none := none_of t12 nl
    have b1 : a_1 ≠ b := B.ne hn1
    have b2 : a_2 ≠ b := B.ne hn2
    have b3 : l ≠ b := B.ne hn3
    have n12 : a_1 ≠ a_2 := fun z => by
      have := W_1.at_
      rw [z, ha_2] at this
      cases this
    have W1 := (W_1.same t_2).same u
    have W2 := W_2.same u
    have D : Dw b J J n := ⟨B.same tJ, .refl⟩
    refine dr_take D (by decide) (by decide) (by omega) fun way J2 way0 way1 kJ2 D2 => ?_
    walk_at "rd"
    have W1 := W1.off kJ2 (by simpa using b1)
    have W2 := W2.off kJ2 (by simpa using b2)
    have el := kJ2.one b3 el
    have C2 : Chg [b] H J2 := (Chg.of tJ).trans kJ2
    refine r_meth ?_
    walk_at "rd"
    refine ⟨a_1, dx_1, _, rfl, W1.at_, rfl, ?_⟩
    walk_at "rd"
    refine ⟨a_1, dx_1, x, k_1, p, first p, false, rfl, W1, ?_⟩
    walk_at "rd"
    refine ⟨_, _, rfl, rfl, ?_⟩
    walk_at "rd"
    refine iteFb rfl ?_
    walk_at "rd"
    refine r_meth ?_
    walk_at "rd"
    refine ⟨a_1, dx_1, _, rfl, W1.at_, rfl, ?_⟩
    walk_at "rd"
    refine ⟨a_1, dx_1, x, k_1, p, first p, false, rfl, W1, ?_⟩
    walk_at "rd"
    refine r_neDt W1.part.dt W1.part.dt (plain_nb _ (dat_nb _)) (plain_nb _ (dat_nb _)) (sm_shaped (dat_sm ok) (dat_dp ok)) (sm_shaped (dat_sm ok) (dat_dp ok)) ?_
    rw [eqv_same _ (dat_nb _)]
    walk_at "rd"
    refine r_for ?_
    refine r_rng1 ?_
    walk_at "rd"
    refine ⟨many, rfl, by omega, by omega, ?_⟩
    refine lp_range (fun j s h => ∃ (k1 k2 : Addr) (kp : Kp) (w : Bool) (ls : List V) (s7 s8 s9 s10 s11 s12 : Option V), s = [some (.ref b), some (.ref x), some (.int many), some (.ref a_1), some (.ref a_2), some (.ref l), some (.int way), s7, s8, s9, s10, s11, s12] ∧ Wk K C_Worker h a_1 dx_1 x k1 p kp w ∧ Wk K C_Worker h a_2 dx_2 x k2 p kp w ∧ h l = some (.lst ls) ∧ LSt p kp ls ∧ Bx (n + 1 + j * 40) h b ∧ Chg [b] H h) ⟨k_1, k_2, first p, false, ls, _, _, _, _, _, _, rfl, W1, W2, el, hL, D2.bx.up (by omega), C2⟩ (fun j s h hj z => ?_) (fun s h z => ?_)
    · obtain ⟨k1, k2, kp, w, ls, s7, s8, s9, s10, s11, s12, rfl, W1, W2, el, hL, B, C⟩ := z
      have hj100 : j < 100 := by omega
      walk_at "rd"
      refine ⟨b, x, p, way, _, rfl, B, by omega, W1.part, ok, fun g es h1 ng c1 e1 io nd B1 => ?_⟩
      have la : l ≠ a_1 := fun z => by
        rw [z, W1.at_] at el
        cases el
      have la2 : l ≠ a_2 := fun z => by
        rw [z, W2.at_] at el
        cases el
      have g1 : g ≠ a_1 := fun z => by
        rw [z, W1.at_] at ng
        cases ng
      have g2 : g ≠ a_2 := fun z => by
        rw [z, W2.at_] at ng
        cases ng
      have gl : g ≠ l := fun z => by
        rw [z, el] at ng
        cases ng
      have W1 := W1.off c1 (by simpa using b1)
      have W2 := W2.off c1 (by simpa using b2)
      have el := c1.one b3 el
      have C := C.trans c1
      walk_at "rd"
      refine ⟨g, es, rfl, .inl e1, fun f hf => ?_⟩
      have s2 := same_new (o := .dK es) hf
      have e2 := upd_same (H := h1) (a := f) (o := .dK es)
      generalize L2.upd h1 f (.dK es) = h2 at s2 e2 ⊢
      have f1 : f ≠ a_1 := fun z => by
        rw [z, W1.at_] at hf
        cases hf
      have f2 : f ≠ a_2 := fun z => by
        rw [z, W2.at_] at hf
        cases hf
      have f3 : f ≠ l := fun z => by
        rw [z, el] at hf
        cases hf
      have W1 := W1.same s2
      have W2 := W2.same s2
      have el := s2 _ _ el
      have e1 := s2 _ _ e1
      have B2 := B1.same s2
      have C := C.same' s2
      obtain ⟨xs, ex, _⟩ := W1.part.tup
      walk_at "rd"
      refine ⟨x, _, 0, _, rfl, rfl, SqT.of ex, atI_nat (j := 0) rfl, ?_⟩
      walk_at "rd"
      by_cases hf : ∃ n2, p = .frm n2
      · obtain ⟨n2, rfl⟩ := hf
        refine iteTb (kd_eq rfl) ?_
        walk_at "rd"
        have hx2 : h2 x = some (.tup [.str "from", .str n2]) := W1.part
        refine r_portE (z := n2) rfl e1 io (fun R r => ?_) ?_
        · walk_at "rd"
          exact ⟨x, _, 1, _, rfl, rfl, SqT.of hx2, rfl, r⟩
        walk_at "rd"
        refine newT rfl fun r h3 _ s3 er => ?_
        have W1 := W1.same s3
        have W2 := W2.same s3
        have el := s3 _ _ el
        have e1 := s3 _ _ e1
        have e2 := s3 _ _ e2
        have B3 := B2.same s3
        have C := C.same' s3
        have er : h3 r = some (.tup [.int (Gx.step (.frm n2) kp (insG es)).1, .bl (Gx.step (.frm n2) kp (insG es)).2.2]) := er
        have hL : LSt (.frm n2) (Gx.step (.frm n2) kp (insG es)).2.1 ls := lst_frm
        have W0 := W1
        refine ⟨r, _, rfl, SqT.of er, rfl, ?_⟩
        refine r_gc ?_
        walk_at "rd"
        refine r_gc ?_
        walk_at "rd"
        refine r_gn ?_
        walk_at "rd"
        refine r_meth ?_
        walk_at "rd"
        refine ⟨a_1, dx_1, _, rfl, W1.at_, rfl, ?_⟩
        walk_at "rd"
        refine ⟨a_1, dx_1, x, k1, g, (.frm n2), kp, w, es, rfl, W1, e1, io, fun k1' h4 c4 W1 => ?_⟩
        have W2 := W2.off c4 (by simpa using Ne.symm n12)
        have el := c4.one la el
        have e1 := c4.one g1 e1
        have e2 := c4.one f1 e2
        have B4 := Bx.one B3 c4 (Ne.symm b1)
        have C := chg_new C c4 hn1
        walk_at "rd"
        refine r_meth ?_
        walk_at "rd"
        refine ⟨a_2, dx_2, _, rfl, W2.at_, rfl, ?_⟩
        walk_at "rd"
        refine ⟨g, es, rfl, .inl e1, fun f5 hf5 => ?_⟩
        have s5 := same_new (o := .dK es) hf5
        have e5 := upd_same (H := h4) (a := f5) (o := .dK es)
        generalize L2.upd h4 f5 (.dK es) = h5 at s5 e5 ⊢
        walk_at "rd"
        refine ⟨a_2, dx_2, x, k2, f5, (.frm n2), kp, w, es, rfl, W2.same s5, e5, io, fun k2' h6 c6 W2 => ?_⟩
        have W1 := (W1.same s5).off c6 (by simpa using n12)
        have el := c6.one la2 (s5 _ _ el)
        have e1 := c6.one g2 (s5 _ _ e1)
        have e2 := c6.one f2 (s5 _ _ e2)
        have B6 := Bx.one (B4.same s5) c6 (Ne.symm b2)
        have C := chg_new (C.same' s5) c6 hn2
        have sm := step_sm5 ok W0.fit (insG_small io)
        walk_at "rd"
        refine newL rfl fun r7 h7 _ s7 e7 => ?_
        walk_at "rd"
        refine two_ints sm sm e7 ?_
        walk_at "rd"
        refine newL rfl fun r8 h8 _ s8 e8 => ?_
        walk_at "rd"
        refine two_ints sm sm e8 ?_
        walk_at "rd"
        refine iteNE rfl ?_
        walk_at "rd"
        have W1 := W1.same (s7.trans s8)
        have W2 := W2.same (s7.trans s8)
        refine r_meth ?_
        walk_at "rd"
        refine ⟨a_1, dx_1, _, rfl, W1.at_, rfl, ?_⟩
        walk_at "rd"
        refine ⟨a_1, dx_1, x, k1', (.frm n2), _, _, rfl, W1, ?_⟩
        walk_at "rd"
        refine r_meth ?_
        walk_at "rd"
        refine ⟨a_2, dx_2, _, rfl, W2.at_, rfl, ?_⟩
        walk_at "rd"
        refine ⟨a_2, dx_2, x, k2', (.frm n2), _, _, rfl, W2, ?_⟩
        walk_at "rd"
        refine newL rfl fun r9 h9 _ s9 e9 => ?_
        walk_at "rd"
        refine two_bls e9 ?_
        walk_at "rd"
        refine newL rfl fun r10 h10 _ s10 e10 => ?_
        walk_at "rd"
        refine two_bls e10 ?_
        walk_at "rd"
        refine iteNE rfl ?_
        walk_at "rd"
        have sx := s7.trans (s8.trans (s9.trans s10))
        have W1 := W1.same (s9.trans s10)
        have W2 := W2.same (s9.trans s10)
        refine ⟨g, f, es, es, rfl, rfl, sx _ _ e1, sx _ _ e2, rfl, fun kv hk => ⟨val_nd nd kv hk, ?_⟩, ?_⟩
        · obtain ⟨n3, i3, rfl, _⟩ := io.2 kv hk
          rfl
        walk_at "rd"
        refine ⟨a_1, dx_1, _, true, rfl, W1.at_, .own W2.at_, ?_⟩
        refine ⟨a_1, dx_1, x, k1', (.frm n2), _, _, _, rfl, W1, .inl ⟨a_2, dx_2, x, k2', (.frm n2), _, _, rfl, W2, fun h11 s11 => ⟨_, rfl, ?_⟩⟩⟩
        rw [eqv_same _ (stand_nb _ _)]
        walk_at "rd"
        exact ⟨k1', k2', _, _, ls, _, _, _, _, _, _, rfl, W1.same s11, W2.same s11, s11 _ _ (sx _ _ el), hL, ((B6.same sx).same s11).up (by omega), (C.same' sx).same' s11⟩
      · have nf : ∀ n2, p ≠ .frm n2 := fun n2 y => hf ⟨n2, y⟩
        refine iteFb (decide_eq_false fun y => frm_kind nf (V.str.inj y)) ?_
        walk_at "rd"
        refine ⟨l, x, g, p, kp, ls, es, rfl, el, hL, W1.part, ok, W1.fit, nf, e1, io, fun r ls2 h3 c3 el hL er => ?_⟩
        have W1 := W1.off c3 (by simpa using Ne.symm la)
        have W2 := W2.off c3 (by simpa using Ne.symm la2)
        have e1 := c3.one gl e1
        have e2 := c3.one f3 e2
        have B3 := Bx.one B2 c3 (Ne.symm b3)
        have C := chg_new C c3 hn3
        have W0 := W1
        walk_at "rd"
        refine ⟨r, _, rfl, SqT.of er, rfl, ?_⟩
        refine r_gc ?_
        walk_at "rd"
        refine r_gc ?_
        walk_at "rd"
        refine r_gn ?_
        walk_at "rd"
        refine r_meth ?_
        walk_at "rd"
        refine ⟨a_1, dx_1, _, rfl, W1.at_, rfl, ?_⟩
        walk_at "rd"
        refine ⟨a_1, dx_1, x, k1, g, p, kp, w, es, rfl, W1, e1, io, fun k1' h4 c4 W1 => ?_⟩
        have W2 := W2.off c4 (by simpa using Ne.symm n12)
        have el := c4.one la el
        have e1 := c4.one g1 e1
        have e2 := c4.one f1 e2
        have B4 := Bx.one B3 c4 (Ne.symm b1)
        have C := chg_new C c4 hn1
        walk_at "rd"
        refine r_meth ?_
        walk_at "rd"
        refine ⟨a_2, dx_2, _, rfl, W2.at_, rfl, ?_⟩
        walk_at "rd"
        refine ⟨g, es, rfl, .inl e1, fun f5 hf5 => ?_⟩
        have s5 := same_new (o := .dK es) hf5
        have e5 := upd_same (H := h4) (a := f5) (o := .dK es)
        generalize L2.upd h4 f5 (.dK es) = h5 at s5 e5 ⊢
        walk_at "rd"
        refine ⟨a_2, dx_2, x, k2, f5, p, kp, w, es, rfl, W2.same s5, e5, io, fun k2' h6 c6 W2 => ?_⟩
        have W1 := (W1.same s5).off c6 (by simpa using n12)
        have el := c6.one la2 (s5 _ _ el)
        have e1 := c6.one g2 (s5 _ _ e1)
        have e2 := c6.one f2 (s5 _ _ e2)
        have B6 := Bx.one (B4.same s5) c6 (Ne.symm b2)
        have C := chg_new (C.same' s5) c6 hn2
        have sm := step_sm5 ok W0.fit (insG_small io)
        walk_at "rd"
        refine newL rfl fun r7 h7 _ s7 e7 => ?_
        walk_at "rd"
        refine two_ints sm sm e7 ?_
        walk_at "rd"
        refine newL rfl fun r8 h8 _ s8 e8 => ?_
        walk_at "rd"
        refine two_ints sm sm e8 ?_
        walk_at "rd"
        refine iteNE rfl ?_
        walk_at "rd"
        have W1 := W1.same (s7.trans s8)
        have W2 := W2.same (s7.trans s8)
        refine r_meth ?_
        walk_at "rd"
        refine ⟨a_1, dx_1, _, rfl, W1.at_, rfl, ?_⟩
        walk_at "rd"
        refine ⟨a_1, dx_1, x, k1', p, _, _, rfl, W1, ?_⟩
        walk_at "rd"
        refine r_meth ?_
        walk_at "rd"
        refine ⟨a_2, dx_2, _, rfl, W2.at_, rfl, ?_⟩
        walk_at "rd"
        refine ⟨a_2, dx_2, x, k2', p, _, _, rfl, W2, ?_⟩
        walk_at "rd"
        refine newL rfl fun r9 h9 _ s9 e9 => ?_
        walk_at "rd"
        refine two_bls e9 ?_
        walk_at "rd"
        refine newL rfl fun r10 h10 _ s10 e10 => ?_
        walk_at "rd"
        refine two_bls e10 ?_
        walk_at "rd"
        refine iteNE rfl ?_
        walk_at "rd"
        have sx := s7.trans (s8.trans (s9.trans s10))
        have W1 := W1.same (s9.trans s10)
        have W2 := W2.same (s9.trans s10)
        refine ⟨g, f, es, es, rfl, rfl, sx _ _ e1, sx _ _ e2, rfl, fun kv hk => ⟨val_nd nd kv hk, ?_⟩, ?_⟩
        · obtain ⟨n3, i3, rfl, _⟩ := io.2 kv hk
          rfl
        walk_at "rd"
        refine ⟨a_1, dx_1, _, true, rfl, W1.at_, .own W2.at_, ?_⟩
        refine ⟨a_1, dx_1, x, k1', p, _, _, _, rfl, W1, .inl ⟨a_2, dx_2, x, k2', p, _, _, rfl, W2, fun h11 s11 => ⟨_, rfl, ?_⟩⟩⟩
        rw [eqv_same _ (stand_nb _ _)]
        walk_at "rd"
        exact ⟨k1', k2', _, _, ls2, _, _, _, _, _, _, rfl, W1.same s11, W2.same s11, s11 _ _ (sx _ _ el), hL, ((B6.same sx).same s11).up (by omega), (C.same' sx).same' s11⟩
    · obtain ⟨k1, k2, kp, w, ls, s7, s8, s9, s10, s11, s12, rfl, W1, W2, el, hL, B, C⟩ := z
      have hm : many.toNat ≤ 100 := by omega
      walk_at "rd"
      exact q h C (B.up (by omega))
theorem c_law_right (T : Txt K mg w C_NoPart C_NoIns C_Worker) : Cal P w K mg base (L2.CX P w) 9 "_law_right" ["box", "part", "many"] spLRight7 :=
  T.d_law_right.cal (fun F => ok_law_right T F) fun _ _ _ _ _ _ us hl => match us, hl with | [_, _, _], _ => rfl
/-! ### the law -/
def spLaw (K : PySem.W.Frag) : Sp := fun vs H Q _ => ∃ (a : Addr) (ns : List Int), vs = [.ref a] ∧ SqL K H a (ns.map V.int) ∧ ns.length ≤ 1000 ∧ ∀ H', Q (.bl true) H'
def tenK : List V := [.str "from", .str "wave", .str "slow", .str "noise", .str "shape", .str "taps", .str "mix", .str "times", .str "delay", .str "follow"]
theorem ten_in {i : Nat} {v : V} (h : tenK[i]? = some v) : ∃ k : Str, v = .str k ∧ some k ∈ [some ("from" : Str), some "wave", some "slow", some "noise", some "shape", some "taps", some "mix", some "times", some "delay", some "follow"] := by
  have hv := List.mem_of_getElem? h
  unfold tenK at hv
  simp only [List.mem_cons, List.not_mem_nil, or_false] at hv
  rcases hv with rfl | rfl | rfl | rfl | rfl | rfl | rfl | rfl | rfl | rfl <;> exact ⟨_, rfl, by simp⟩
theorem sc_law : FnScope ["script", "k", "box", "kind"] ["script"] (defScope s_law) := ⟨rfl, rfl, rfl, by decide +kernel, rfl, by decide +kernel, by decide +kernel⟩
theorem ok_law (T : Txt K mg w C_NoPart C_NoIns C_Worker) (F : Fun K "law" "law" s_law f fd) : FnG P w K mg base (L2.CX P w) 10 f fd ["script"] (spLaw K) := by
  refine fnG F sc_law (fun vs H Q E h => ?_) (fun cdv A outer s H vs Q E hG hr h => ?_)
  · obtain ⟨sc, ns, rfl, hS, hn, q⟩ := h
    all_goals rfl
  · obtain ⟨sc, ns, rfl, hS, hn, q⟩ := h
    have nd := sc_law.nd
    refine ⟨_, (pss_cons (ps_for (passes_of rfl) rfl (pi_range1 rfl T.n_range (pa_cons (pe_callB (call_max2 rfl) (by rfl) T.n_max (by decide +kernel) (pa_cons pe_int (pa_cons (pe_callB (call_min2 rfl) (by rfl) T.n_min (by decide +kernel) (pa_cons pe_int (pa_cons (pe_callB call_len_seq (by rfl) T.n_len PySem.boot_len (pa_cons (pv 0) pa_nil)) pa_nil))) pa_nil))) pa_nil)) (pg_name (i := 1) nd rfl (Or.inl rfl)) (pss_cons (ps_set (i := 2) nd rfl (Or.inl rfl) (pe_g (c_law_box T) hG (hr.mono (by decide)) (fun _ => passS) (pa_cons (pe_g (c_law_cell T) hG (hr.mono (by decide)) (fun _ => passS) (pa_cons (pv 0) (pa_cons (pv 1) pa_nil))) pa_nil)))
        (pss_one (ps_for (passes_of rfl) rfl (pi_list (pe_lst (pa_cons pe_str (pa_cons pe_str (pa_cons pe_str (pa_cons pe_str (pa_cons pe_str (pa_cons pe_str (pa_cons pe_str (pa_cons pe_str (pa_cons pe_str (pa_cons pe_str pa_nil)))))))))))) (pg_name (i := 3) nd rfl (Or.inl rfl)) (pss_one (ps_if (pt_not (pt_val (pe_g (c_law_right T) hG (hr.mono (by decide)) (fun _ => passS) (pa_cons (pv 2) (pa_cons (pe_g (c_law_part T) hG (hr.mono (by decide)) (fun _ => passS) (pa_cons (pv 2) (pa_cons (pv 3) pa_nil))) (pa_cons (pe_op op_add pe_int (pe_g (c_law_take T) hG (hr.mono (by decide)) (fun _ => passS) (pa_cons (pv 2) (pa_cons pe_int pa_nil)))) pa_nil)))))) (pss_one (ps_ret pe_bl)) pss_nil))))))
        (pss_one (ps_ret pe_bl))), ?_⟩
    walk_at "rd"
    refine r_for ?_
    refine r_rng1 ?_
    walk_at "rd"
    refine ⟨sc, _, rfl, .inl hS, ?_⟩
    walk_at "rd"
    refine ⟨_, _, rfl, ?_⟩
    walk_at "rd"
    refine ⟨_, _, rfl, ?_⟩
    walk_at "rd"
    refine ⟨_, rfl, by split <;> split <;> omega, by split <;> split <;> omega, ?_⟩
    refine lp_range (fun _ s h => (∃ x1 x2 x3, s = [some (.ref sc), x1, x2, x3]) ∧ Same H h) ⟨⟨_, _, _, rfl⟩, fun _ _ h => h⟩ (fun i s H2 hi => ?_) ?_
    · rintro ⟨⟨x1, x2, x3, rfl⟩, s2⟩
      rw [Int.zero_add]
      walk_at "rd"
      refine ⟨sc, ns, i, rfl, sql_same hS s2, fun cell => ?_⟩
      walk_at "rd"
      refine ⟨cell, rfl, fun b H3 hb B s3 => ?_⟩
      walk_at "rd"
      refine r_for ?_
      refine r_iList ?_
      walk_at "rd"
      refine newL rfl fun pl H4 npl s4 e4 => ?_
      have plb : pl ≠ b := B.ne npl
      refine ⟨pl, rfl, ⟨_, SqL.of e4⟩, ?_⟩
      have B4 := B.same s4
      refine lp_list (xs := tenK) (fun j s h => (∃ x3, s = [some (.ref sc), some (.int i), some (.ref b), x3]) ∧ Bx (j * 4300) h b ∧ Chg [b] H4 h ∧ h pl = some (.lst tenK)) ⟨⟨_, rfl⟩, B4.up (by omega), .refl, e4⟩ (fun j s h _ y => SqL.of y.2.2.2) (fun j v s h hv y => ?_) (fun s h y => ?_)
      · obtain ⟨⟨x3, rfl⟩, B5, c5, e5⟩ := y
        obtain ⟨k, rfl, hk⟩ := ten_in hv
        have hj10 : j < 10 := by
          have h7 := (List.getElem?_eq_some_iff.mp hv).1
          simpa [tenK] using h7
        walk_at "rd"
        refine ⟨b, _, k, rfl, hk, B5, by omega, fun x p h2 hk2 ok hx c6 B6 => ?_⟩
        walk_at "rd"
        have D6 : Dw b h2 h2 (j * 4300 + 20) := ⟨B6, .refl⟩
        refine dr_take D6 (by decide) (by decide) (by omega) fun d6 h26 d60 d61 kh26 D7 => ?_
        walk_at "rd"
        refine ⟨b, x, p, _, _, rfl, D7.bx, by omega, hx.chg kh26, ok, by omega, by omega, fun h3 c7 B7 => ?_⟩
        walk_at "rd"
        exact ⟨⟨_, rfl⟩, B7.up (by omega), ((c5.trans c6).trans kh26).trans c7, c7.one plb (kh26.one plb (c6.one plb e5))⟩
      · obtain ⟨⟨x3, rfl⟩, B5, c5, e5⟩ := y
        walk_at "rd"
        refine ⟨⟨_, _, _, rfl⟩, fun c u hc => ?_⟩
        have h2 := s2 c u hc
        have cb : c ≠ b := fun z => by
          rw [z, hb] at h2
          cases h2
        exact c5.one cb (s4 _ _ (s3 _ _ h2))
    · rintro s H2 ⟨⟨x1, x2, x3, rfl⟩, s2⟩
      walk_at "rd"
      exact q _

end
end KB
set_option linter.all false
set_option maxRecDepth 100000
set_option maxHeartbeats 4000000
namespace KB
open PySem PySem.Spec PyProof.Rows L2 Gx
theorem all_mk {P : Program} {w : World} {K : PySem.W.Frag} {h : Heap} {mg : Str → Option Value} {fa : Addr} (X : K.In h) (G : h.Ns mainGlobals mg) (hfa : mg "law" = some (.ref fa))
    {f0 : Addr} {oc0 kV0 dc0 pm0 cd0 ct0 : Value} {od0 an0 : Option Addr} {sl0 : Array (Option Value)}
    {f1 : Addr} {oc1 kV1 dc1 pm1 cd1 ct1 : Value} {od1 an1 : Option Addr} {sl1 : Array (Option Value)}
    {f2 : Addr} {oc2 kV2 dc2 pm2 cd2 ct2 : Value} {od2 an2 : Option Addr} {sl2 : Array (Option Value)}
    {f3 : Addr} {oc3 kV3 dc3 pm3 cd3 ct3 : Value} {od3 an3 : Option Addr} {sl3 : Array (Option Value)}
    {f4 : Addr} {oc4 kV4 dc4 pm4 cd4 ct4 : Value} {od4 an4 : Option Addr} {sl4 : Array (Option Value)}
    {f5 : Addr} {oc5 kV5 dc5 pm5 cd5 ct5 : Value} {od5 an5 : Option Addr} {sl5 : Array (Option Value)}
    {f6 : Addr} {oc6 kV6 dc6 pm6 cd6 ct6 : Value} {od6 an6 : Option Addr} {sl6 : Array (Option Value)}
    {f7 : Addr} {oc7 kV7 dc7 pm7 cd7 ct7 : Value} {od7 an7 : Option Addr} {sl7 : Array (Option Value)}
    {f8 : Addr} {oc8 kV8 dc8 pm8 cd8 ct8 : Value} {od8 an8 : Option Addr} {sl8 : Array (Option Value)}
    {f9 : Addr} {oc9 kV9 dc9 pm9 cd9 ct9 : Value} {od9 an9 : Option Addr} {sl9 : Array (Option Value)}
    {f10 : Addr} {oc10 kV10 dc10 pm10 cd10 ct10 : Value} {od10 an10 : Option Addr} {sl10 : Array (Option Value)}
    {f11 : Addr} {oc11 kV11 dc11 pm11 cd11 ct11 : Value} {od11 an11 : Option Addr} {sl11 : Array (Option Value)}
    {f12 : Addr} {oc12 kV12 dc12 pm12 cd12 ct12 : Value} {od12 an12 : Option Addr} {sl12 : Array (Option Value)}
    {f13 : Addr} {oc13 kV13 dc13 pm13 cd13 ct13 : Value} {od13 an13 : Option Addr} {sl13 : Array (Option Value)}
    {f14 : Addr} {oc14 kV14 dc14 pm14 cd14 ct14 : Value} {od14 an14 : Option Addr} {sl14 : Array (Option Value)}
    {f15 : Addr} {oc15 kV15 dc15 pm15 cd15 ct15 : Value} {od15 an15 : Option Addr} {sl15 : Array (Option Value)}
    {f16 : Addr} {oc16 kV16 dc16 pm16 cd16 ct16 : Value} {od16 an16 : Option Addr} {sl16 : Array (Option Value)}
    {f17 : Addr} {oc17 kV17 dc17 pm17 cd17 ct17 : Value} {od17 an17 : Option Addr} {sl17 : Array (Option Value)}
    {f18 : Addr} {oc18 kV18 dc18 pm18 cd18 ct18 : Value} {od18 an18 : Option Addr} {sl18 : Array (Option Value)}
    {f19 : Addr} {oc19 kV19 dc19 pm19 cd19 ct19 : Value} {od19 an19 : Option Addr} {sl19 : Array (Option Value)}
    {f20 : Addr} {oc20 kV20 dc20 pm20 cd20 ct20 : Value} {od20 an20 : Option Addr} {sl20 : Array (Option Value)}
    {f21 : Addr} {oc21 kV21 dc21 pm21 cd21 ct21 : Value} {od21 an21 : Option Addr} {sl21 : Array (Option Value)}
    {f22 : Addr} {oc22 kV22 dc22 pm22 cd22 ct22 : Value} {od22 an22 : Option Addr} {sl22 : Array (Option Value)}
    {f23 : Addr} {oc23 kV23 dc23 pm23 cd23 ct23 : Value} {od23 an23 : Option Addr} {sl23 : Array (Option Value)}
    {f24 : Addr} {oc24 kV24 dc24 pm24 cd24 ct24 : Value} {od24 an24 : Option Addr} {sl24 : Array (Option Value)}
    {f25 : Addr} {oc25 kV25 dc25 pm25 cd25 ct25 : Value} {od25 an25 : Option Addr} {sl25 : Array (Option Value)}
    {f26 : Addr} {oc26 kV26 dc26 pm26 cd26 ct26 : Value} {od26 an26 : Option Addr} {sl26 : Array (Option Value)}
    {f27 : Addr} {oc27 kV27 dc27 pm27 cd27 ct27 : Value} {od27 an27 : Option Addr} {sl27 : Array (Option Value)}
    {f28 : Addr} {oc28 kV28 dc28 pm28 cd28 ct28 : Value} {od28 an28 : Option Addr} {sl28 : Array (Option Value)}
    {f29 : Addr} {oc29 kV29 dc29 pm29 cd29 ct29 : Value} {od29 an29 : Option Addr} {sl29 : Array (Option Value)}
    {f30 : Addr} {oc30 kV30 dc30 pm30 cd30 ct30 : Value} {od30 an30 : Option Addr} {sl30 : Array (Option Value)}
    {f31 : Addr} {oc31 kV31 dc31 pm31 cd31 ct31 : Value} {od31 an31 : Option Addr} {sl31 : Array (Option Value)}
    {f32 : Addr} {oc32 kV32 dc32 pm32 cd32 ct32 : Value} {od32 an32 : Option Addr} {sl32 : Array (Option Value)}
    {f33 : Addr} {oc33 kV33 dc33 pm33 cd33 ct33 : Value} {od33 an33 : Option Addr} {sl33 : Array (Option Value)}
    {f34 : Addr} {oc34 kV34 dc34 pm34 cd34 ct34 : Value} {od34 an34 : Option Addr} {sl34 : Array (Option Value)}
    {f35 : Addr} {oc35 kV35 dc35 pm35 cd35 ct35 : Value} {od35 an35 : Option Addr} {sl35 : Array (Option Value)}
    {f36 : Addr} {oc36 kV36 dc36 pm36 cd36 ct36 : Value} {od36 an36 : Option Addr} {sl36 : Array (Option Value)}
    {f37 : Addr} {oc37 kV37 dc37 pm37 cd37 ct37 : Value} {od37 an37 : Option Addr} {sl37 : Array (Option Value)}
    {f38 : Addr} {oc38 kV38 dc38 pm38 cd38 ct38 : Value} {od38 an38 : Option Addr} {sl38 : Array (Option Value)}
    {f39 : Addr} {oc39 kV39 dc39 pm39 cd39 ct39 : Value} {od39 an39 : Option Addr} {sl39 : Array (Option Value)}
    {f40 : Addr} {oc40 kV40 dc40 pm40 cd40 ct40 : Value} {od40 an40 : Option Addr} {sl40 : Array (Option Value)}
    {f41 : Addr} {oc41 kV41 dc41 pm41 cd41 ct41 : Value} {od41 an41 : Option Addr} {sl41 : Array (Option Value)}
    {f42 : Addr} {oc42 kV42 dc42 pm42 cd42 ct42 : Value} {od42 an42 : Option Addr} {sl42 : Array (Option Value)}
    {f43 : Addr} {oc43 kV43 dc43 pm43 cd43 ct43 : Value} {od43 an43 : Option Addr} {sl43 : Array (Option Value)}
    {f44 : Addr} {oc44 kV44 dc44 pm44 cd44 ct44 : Value} {od44 an44 : Option Addr} {sl44 : Array (Option Value)}
    {f45 : Addr} {oc45 kV45 dc45 pm45 cd45 ct45 : Value} {od45 an45 : Option Addr} {sl45 : Array (Option Value)}
    {f46 : Addr} {oc46 kV46 dc46 pm46 cd46 ct46 : Value} {od46 an46 : Option Addr} {sl46 : Array (Option Value)}
    {f47 : Addr} {oc47 kV47 dc47 pm47 cd47 ct47 : Value} {od47 an47 : Option Addr} {sl47 : Array (Option Value)}
    {f48 : Addr} {oc48 kV48 dc48 pm48 cd48 ct48 : Value} {od48 an48 : Option Addr} {sl48 : Array (Option Value)}
    {f49 : Addr} {oc49 kV49 dc49 pm49 cd49 ct49 : Value} {od49 an49 : Option Addr} {sl49 : Array (Option Value)}
    {f50 : Addr} {oc50 kV50 dc50 pm50 cd50 ct50 : Value} {od50 an50 : Option Addr} {sl50 : Array (Option Value)}
    {f51 : Addr} {oc51 kV51 dc51 pm51 cd51 ct51 : Value} {od51 an51 : Option Addr} {sl51 : Array (Option Value)}
    {f52 : Addr} {oc52 kV52 dc52 pm52 cd52 ct52 : Value} {od52 an52 : Option Addr} {sl52 : Array (Option Value)}
    {f53 : Addr} {oc53 kV53 dc53 pm53 cd53 ct53 : Value} {od53 an53 : Option Addr} {sl53 : Array (Option Value)}
    {f54 : Addr} {oc54 kV54 dc54 pm54 cd54 ct54 : Value} {od54 an54 : Option Addr} {sl54 : Array (Option Value)}
    {f55 : Addr} {oc55 kV55 dc55 pm55 cd55 ct55 : Value} {od55 an55 : Option Addr} {sl55 : Array (Option Value)}
    {f56 : Addr} {oc56 kV56 dc56 pm56 cd56 ct56 : Value} {od56 an56 : Option Addr} {sl56 : Array (Option Value)}
    {f57 : Addr} {oc57 kV57 dc57 pm57 cd57 ct57 : Value} {od57 an57 : Option Addr} {sl57 : Array (Option Value)}
    {f58 : Addr} {oc58 kV58 dc58 pm58 cd58 ct58 : Value} {od58 an58 : Option Addr} {sl58 : Array (Option Value)}
    {t0 : Nat}
    {t1 : Nat}
    {t2 : Nat}
    {t3 : Nat}
    {t4 : Nat}
    {t5 : Nat}
    {t6 : Nat}
    {t7 : Nat}
    {t8 : Nat}
    {t9 : Nat}
    {b0 : Addr} {z00 z01 z02 : Nat} {bd0 : Option Addr} {bs0 : Array (Option Value)} {bn0 : Nat}
    {b1 : Addr} {z10 z11 z12 z13 z14 : Nat} {bd1 : Option Addr} {bs1 : Array (Option Value)} {bn1 : Nat}
    {b2 : Addr} {z20 z21 z22 z23 : Nat} {bd2 : Option Addr} {bs2 : Array (Option Value)} {bn2 : Nat}
    {S0 : Addr}
    {C_NoPart IC_NoPart NC_NoPart : Addr} {nmC_NoPart qnC_NoPart : Str} {bsC_NoPart bmC_NoPart : List Value} {snC_NoPart : List Str} {subC_NoPart : List Value} {abC_NoPart : Bool} {colC_NoPart : Option Bool} {ddC_NoPart : Option Addr} {q0C_NoPart q1C_NoPart q2C_NoPart q3C_NoPart q5C_NoPart : Option Value} {ocC_NoPart kVC_NoPart dcC_NoPart pmC_NoPart cdC_NoPart ctC_NoPart : Value} {odC_NoPart anC_NoPart : Option Addr} {slC_NoPart : Array (Option Value)}
    {C_NoIns IC_NoIns NC_NoIns : Addr} {nmC_NoIns qnC_NoIns : Str} {bsC_NoIns bmC_NoIns : List Value} {snC_NoIns : List Str} {subC_NoIns : List Value} {abC_NoIns : Bool} {colC_NoIns : Option Bool} {ddC_NoIns : Option Addr} {q0C_NoIns q1C_NoIns q2C_NoIns q3C_NoIns q5C_NoIns : Option Value} {ocC_NoIns kVC_NoIns dcC_NoIns pmC_NoIns cdC_NoIns ctC_NoIns : Value} {odC_NoIns anC_NoIns : Option Addr} {slC_NoIns : Array (Option Value)}
    (a0 : PySem.W.nsIn K mainGlobals "_wall" = some (some (.ref f0))) (l0 : K.lookup f0 = some ⟨oc0, od0, .func (PySem.W.fnOf "_wall" "_wall" (defArgs s_wall) (defBody s_wall) (defScope s_wall) .none kV0 dc0 pm0 an0 cd0 ct0), sl0⟩) (c0 : PySem.W.codeIn K cd0 "_wall" = true) (k0 : PySem.W.keepIn K (.ref f0) = true)
    (a1 : PySem.W.nsIn K mainGlobals "is_number" = some (some (.ref f1))) (l1 : K.lookup f1 = some ⟨oc1, od1, .func (PySem.W.fnOf "is_number" "is_number" (defArgs s_is_number) (defBody s_is_number) (defScope s_is_number) .none kV1 dc1 pm1 an1 cd1 ct1), sl1⟩) (c1 : PySem.W.codeIn K cd1 "is_number" = true) (k1 : PySem.W.keepIn K (.ref f1) = true)
    (a2 : PySem.W.nsIn K mainGlobals "is_whole" = some (some (.ref f2))) (l2 : K.lookup f2 = some ⟨oc2, od2, .func (PySem.W.fnOf "is_whole" "is_whole" (defArgs s_is_whole) (defBody s_is_whole) (defScope s_is_whole) .none kV2 dc2 pm2 an2 cd2 ct2), sl2⟩) (c2 : PySem.W.codeIn K cd2 "is_whole" = true) (k2 : PySem.W.keepIn K (.ref f2) = true)
    (a3 : PySem.W.nsIn K mainGlobals "is_name" = some (some (.ref f3))) (l3 : K.lookup f3 = some ⟨oc3, od3, .func (PySem.W.fnOf "is_name" "is_name" (defArgs s_is_name) (defBody s_is_name) (defScope s_is_name) .none kV3 dc3 pm3 an3 cd3 ct3), sl3⟩) (c3 : PySem.W.codeIn K cd3 "is_name" = true) (k3 : PySem.W.keepIn K (.ref f3) = true)
    (a4 : PySem.W.nsIn K mainGlobals "is_worth" = some (some (.ref f4))) (l4 : K.lookup f4 = some ⟨oc4, od4, .func (PySem.W.fnOf "is_worth" "is_worth" (defArgs s_is_worth) (defBody s_is_worth) (defScope s_is_worth) .none kV4 dc4 pm4 an4 cd4 ct4), sl4⟩) (c4 : PySem.W.codeIn K cd4 "is_worth" = true) (k4 : PySem.W.keepIn K (.ref f4) = true)
    (a5 : PySem.W.nsIn K mainGlobals "is_manner" = some (some (.ref f5))) (l5 : K.lookup f5 = some ⟨oc5, od5, .func (PySem.W.fnOf "is_manner" "is_manner" (defArgs s_is_manner) (defBody s_is_manner) (defScope s_is_manner) .none kV5 dc5 pm5 an5 cd5 ct5), sl5⟩) (c5 : PySem.W.codeIn K cd5 "is_manner" = true) (k5 : PySem.W.keepIn K (.ref f5) = true)
    (a6 : PySem.W.nsIn K mainGlobals "is_table" = some (some (.ref f6))) (l6 : K.lookup f6 = some ⟨oc6, od6, .func (PySem.W.fnOf "is_table" "is_table" (defArgs s_is_table) (defBody s_is_table) (defScope s_is_table) .none kV6 dc6 pm6 an6 cd6 ct6), sl6⟩) (c6 : PySem.W.codeIn K cd6 "is_table" = true) (k6 : PySem.W.keepIn K (.ref f6) = true)
    (a7 : PySem.W.nsIn K mainGlobals "folded" = some (some (.ref f7))) (l7 : K.lookup f7 = some ⟨oc7, od7, .func (PySem.W.fnOf "folded" "folded" (defArgs s_folded) (defBody s_folded) (defScope s_folded) .none kV7 dc7 pm7 an7 cd7 ct7), sl7⟩) (c7 : PySem.W.codeIn K cd7 "folded" = true) (k7 : PySem.W.keepIn K (.ref f7) = true)
    (a8 : PySem.W.nsIn K mainGlobals "_turned_back" = some (some (.ref f8))) (l8 : K.lookup f8 = some ⟨oc8, od8, .func (PySem.W.fnOf "_turned_back" "_turned_back" (defArgs s_turned_back) (defBody s_turned_back) (defScope s_turned_back) .none kV8 dc8 pm8 an8 cd8 ct8), sl8⟩) (c8 : PySem.W.codeIn K cd8 "_turned_back" = true) (k8 : PySem.W.keepIn K (.ref f8) = true)
    (a9 : PySem.W.nsIn K mainGlobals "is_folded" = some (some (.ref f9))) (l9 : K.lookup f9 = some ⟨oc9, od9, .func (PySem.W.fnOf "is_folded" "is_folded" (defArgs s_is_folded) (defBody s_is_folded) (defScope s_is_folded) .none kV9 dc9 pm9 an9 cd9 ct9), sl9⟩) (c9 : PySem.W.codeIn K cd9 "is_folded" = true) (k9 : PySem.W.keepIn K (.ref f9) = true)
    (a10 : PySem.W.nsIn K mainGlobals "table_worth" = some (some (.ref f10))) (l10 : K.lookup f10 = some ⟨oc10, od10, .func (PySem.W.fnOf "table_worth" "table_worth" (defArgs s_table_worth) (defBody s_table_worth) (defScope s_table_worth) .none kV10 dc10 pm10 an10 cd10 ct10), sl10⟩) (c10 : PySem.W.codeIn K cd10 "table_worth" = true) (k10 : PySem.W.keepIn K (.ref f10) = true)
    (a11 : PySem.W.nsIn K mainGlobals "_saw" = some (some (.ref f11))) (l11 : K.lookup f11 = some ⟨oc11, od11, .func (PySem.W.fnOf "_saw" "_saw" (defArgs s_saw) (defBody s_saw) (defScope s_saw) .none kV11 dc11 pm11 an11 cd11 ct11), sl11⟩) (c11 : PySem.W.codeIn K cd11 "_saw" = true) (k11 : PySem.W.keepIn K (.ref f11) = true)
    (a12 : PySem.W.nsIn K mainGlobals "_square" = some (some (.ref f12))) (l12 : K.lookup f12 = some ⟨oc12, od12, .func (PySem.W.fnOf "_square" "_square" (defArgs s_square) (defBody s_square) (defScope s_square) .none kV12 dc12 pm12 an12 cd12 ct12), sl12⟩) (c12 : PySem.W.codeIn K cd12 "_square" = true) (k12 : PySem.W.keepIn K (.ref f12) = true)
    (a13 : PySem.W.nsIn K mainGlobals "_tri" = some (some (.ref f13))) (l13 : K.lookup f13 = some ⟨oc13, od13, .func (PySem.W.fnOf "_tri" "_tri" (defArgs s_tri) (defBody s_tri) (defScope s_tri) .none kV13 dc13 pm13 an13 cd13 ct13), sl13⟩) (c13 : PySem.W.codeIn K cd13 "_tri" = true) (k13 : PySem.W.keepIn K (.ref f13) = true)
    (a14 : PySem.W.nsIn K mainGlobals "_pulse" = some (some (.ref f14))) (l14 : K.lookup f14 = some ⟨oc14, od14, .func (PySem.W.fnOf "_pulse" "_pulse" (defArgs s_pulse) (defBody s_pulse) (defScope s_pulse) .none kV14 dc14 pm14 an14 cd14 ct14), sl14⟩) (c14 : PySem.W.codeIn K cd14 "_pulse" = true) (k14 : PySem.W.keepIn K (.ref f14) = true)
    (a15 : PySem.W.nsIn K mainGlobals "_hump" = some (some (.ref f15))) (l15 : K.lookup f15 = some ⟨oc15, od15, .func (PySem.W.fnOf "_hump" "_hump" (defArgs s_hump) (defBody s_hump) (defScope s_hump) .none kV15 dc15 pm15 an15 cd15 ct15), sl15⟩) (c15 : PySem.W.codeIn K cd15 "_hump" = true) (k15 : PySem.W.keepIn K (.ref f15) = true)
    (a16 : PySem.W.nsIn K mainGlobals "next_noise" = some (some (.ref f16))) (l16 : K.lookup f16 = some ⟨oc16, od16, .func (PySem.W.fnOf "next_noise" "next_noise" (defArgs s_next_noise) (defBody s_next_noise) (defScope s_next_noise) .none kV16 dc16 pm16 an16 cd16 ct16), sl16⟩) (c16 : PySem.W.codeIn K cd16 "next_noise" = true) (k16 : PySem.W.keepIn K (.ref f16) = true)
    (a17 : PySem.W.nsIn K mainGlobals "_is_from" = some (some (.ref f17))) (l17 : K.lookup f17 = some ⟨oc17, od17, .func (PySem.W.fnOf "_is_from" "_is_from" (defArgs s_is_from) (defBody s_is_from) (defScope s_is_from) .none kV17 dc17 pm17 an17 cd17 ct17), sl17⟩) (c17 : PySem.W.codeIn K cd17 "_is_from" = true) (k17 : PySem.W.keepIn K (.ref f17) = true)
    (a18 : PySem.W.nsIn K mainGlobals "_is_wave" = some (some (.ref f18))) (l18 : K.lookup f18 = some ⟨oc18, od18, .func (PySem.W.fnOf "_is_wave" "_is_wave" (defArgs s_is_wave) (defBody s_is_wave) (defScope s_is_wave) .none kV18 dc18 pm18 an18 cd18 ct18), sl18⟩) (c18 : PySem.W.codeIn K cd18 "_is_wave" = true) (k18 : PySem.W.keepIn K (.ref f18) = true)
    (a19 : PySem.W.nsIn K mainGlobals "_is_noise" = some (some (.ref f19))) (l19 : K.lookup f19 = some ⟨oc19, od19, .func (PySem.W.fnOf "_is_noise" "_is_noise" (defArgs s_is_noise) (defBody s_is_noise) (defScope s_is_noise) .none kV19 dc19 pm19 an19 cd19 ct19), sl19⟩) (c19 : PySem.W.codeIn K cd19 "_is_noise" = true) (k19 : PySem.W.keepIn K (.ref f19) = true)
    (a20 : PySem.W.nsIn K mainGlobals "_is_shape" = some (some (.ref f20))) (l20 : K.lookup f20 = some ⟨oc20, od20, .func (PySem.W.fnOf "_is_shape" "_is_shape" (defArgs s_is_shape) (defBody s_is_shape) (defScope s_is_shape) .none kV20 dc20 pm20 an20 cd20 ct20), sl20⟩) (c20 : PySem.W.codeIn K cd20 "_is_shape" = true) (k20 : PySem.W.keepIn K (.ref f20) = true)
    (a21 : PySem.W.nsIn K mainGlobals "_are_factors" = some (some (.ref f21))) (l21 : K.lookup f21 = some ⟨oc21, od21, .func (PySem.W.fnOf "_are_factors" "_are_factors" (defArgs s_are_factors) (defBody s_are_factors) (defScope s_are_factors) .none kV21 dc21 pm21 an21 cd21 ct21), sl21⟩) (c21 : PySem.W.codeIn K cd21 "_are_factors" = true) (k21 : PySem.W.keepIn K (.ref f21) = true)
    (a22 : PySem.W.nsIn K mainGlobals "_is_taps" = some (some (.ref f22))) (l22 : K.lookup f22 = some ⟨oc22, od22, .func (PySem.W.fnOf "_is_taps" "_is_taps" (defArgs s_is_taps) (defBody s_is_taps) (defScope s_is_taps) .none kV22 dc22 pm22 an22 cd22 ct22), sl22⟩) (c22 : PySem.W.codeIn K cd22 "_is_taps" = true) (k22 : PySem.W.keepIn K (.ref f22) = true)
    (a23 : PySem.W.nsIn K mainGlobals "_is_mix" = some (some (.ref f23))) (l23 : K.lookup f23 = some ⟨oc23, od23, .func (PySem.W.fnOf "_is_mix" "_is_mix" (defArgs s_is_mix) (defBody s_is_mix) (defScope s_is_mix) .none kV23 dc23 pm23 an23 cd23 ct23), sl23⟩) (c23 : PySem.W.codeIn K cd23 "_is_mix" = true) (k23 : PySem.W.keepIn K (.ref f23) = true)
    (a24 : PySem.W.nsIn K mainGlobals "_is_times" = some (some (.ref f24))) (l24 : K.lookup f24 = some ⟨oc24, od24, .func (PySem.W.fnOf "_is_times" "_is_times" (defArgs s_is_times) (defBody s_is_times) (defScope s_is_times) .none kV24 dc24 pm24 an24 cd24 ct24), sl24⟩) (c24 : PySem.W.codeIn K cd24 "_is_times" = true) (k24 : PySem.W.keepIn K (.ref f24) = true)
    (a25 : PySem.W.nsIn K mainGlobals "_is_delay" = some (some (.ref f25))) (l25 : K.lookup f25 = some ⟨oc25, od25, .func (PySem.W.fnOf "_is_delay" "_is_delay" (defArgs s_is_delay) (defBody s_is_delay) (defScope s_is_delay) .none kV25 dc25 pm25 an25 cd25 ct25), sl25⟩) (c25 : PySem.W.codeIn K cd25 "_is_delay" = true) (k25 : PySem.W.keepIn K (.ref f25) = true)
    (a26 : PySem.W.nsIn K mainGlobals "_is_follow" = some (some (.ref f26))) (l26 : K.lookup f26 = some ⟨oc26, od26, .func (PySem.W.fnOf "_is_follow" "_is_follow" (defArgs s_is_follow) (defBody s_is_follow) (defScope s_is_follow) .none kV26 dc26 pm26 an26 cd26 ct26), sl26⟩) (c26 : PySem.W.codeIn K cd26 "_is_follow" = true) (k26 : PySem.W.keepIn K (.ref f26) = true)
    (a27 : PySem.W.nsIn K mainGlobals "is_part" = some (some (.ref f27))) (l27 : K.lookup f27 = some ⟨oc27, od27, .func (PySem.W.fnOf "is_part" "is_part" (defArgs s_is_part) (defBody s_is_part) (defScope s_is_part) .none kV27 dc27 pm27 an27 cd27 ct27), sl27⟩) (c27 : PySem.W.codeIn K cd27 "is_part" = true) (k27 : PySem.W.keepIn K (.ref f27) = true)
    (a28 : PySem.W.nsIn K mainGlobals "ports_of" = some (some (.ref f28))) (l28 : K.lookup f28 = some ⟨oc28, od28, .func (PySem.W.fnOf "ports_of" "ports_of" (defArgs s_ports_of) (defBody s_ports_of) (defScope s_ports_of) .none kV28 dc28 pm28 an28 cd28 ct28), sl28⟩) (c28 : PySem.W.codeIn K cd28 "ports_of" = true) (k28 : PySem.W.keepIn K (.ref f28) = true)
    (a29 : PySem.W.nsIn K mainGlobals "_kept_at_first" = some (some (.ref f29))) (l29 : K.lookup f29 = some ⟨oc29, od29, .func (PySem.W.fnOf "_kept_at_first" "_kept_at_first" (defArgs s_kept_at_first) (defBody s_kept_at_first) (defScope s_kept_at_first) .none kV29 dc29 pm29 an29 cd29 ct29), sl29⟩) (c29 : PySem.W.codeIn K cd29 "_kept_at_first" = true) (k29 : PySem.W.keepIn K (.ref f29) = true)
    (a30 : PySem.W.nsIn K mainGlobals "_slow_ahead" = some (some (.ref f30))) (l30 : K.lookup f30 = some ⟨oc30, od30, .func (PySem.W.fnOf "_slow_ahead" "_slow_ahead" (defArgs s_slow_ahead) (defBody s_slow_ahead) (defScope s_slow_ahead) .none kV30 dc30 pm30 an30 cd30 ct30), sl30⟩) (c30 : PySem.W.codeIn K cd30 "_slow_ahead" = true) (k30 : PySem.W.keepIn K (.ref f30) = true)
    (a31 : PySem.W.nsIn K mainGlobals "_noise_ahead" = some (some (.ref f31))) (l31 : K.lookup f31 = some ⟨oc31, od31, .func (PySem.W.fnOf "_noise_ahead" "_noise_ahead" (defArgs s_noise_ahead) (defBody s_noise_ahead) (defScope s_noise_ahead) .none kV31 dc31 pm31 an31 cd31 ct31), sl31⟩) (c31 : PySem.W.codeIn K cd31 "_noise_ahead" = true) (k31 : PySem.W.keepIn K (.ref f31) = true)
    (a32 : PySem.W.nsIn K mainGlobals "_from_step" = some (some (.ref f32))) (l32 : K.lookup f32 = some ⟨oc32, od32, .func (PySem.W.fnOf "_from_step" "_from_step" (defArgs s_from_step) (defBody s_from_step) (defScope s_from_step) .none kV32 dc32 pm32 an32 cd32 ct32), sl32⟩) (c32 : PySem.W.codeIn K cd32 "_from_step" = true) (k32 : PySem.W.keepIn K (.ref f32) = true)
    (a33 : PySem.W.nsIn K mainGlobals "_wave_step" = some (some (.ref f33))) (l33 : K.lookup f33 = some ⟨oc33, od33, .func (PySem.W.fnOf "_wave_step" "_wave_step" (defArgs s_wave_step) (defBody s_wave_step) (defScope s_wave_step) .none kV33 dc33 pm33 an33 cd33 ct33), sl33⟩) (c33 : PySem.W.codeIn K cd33 "_wave_step" = true) (k33 : PySem.W.keepIn K (.ref f33) = true)
    (a34 : PySem.W.nsIn K mainGlobals "_slow_step" = some (some (.ref f34))) (l34 : K.lookup f34 = some ⟨oc34, od34, .func (PySem.W.fnOf "_slow_step" "_slow_step" (defArgs s_slow_step) (defBody s_slow_step) (defScope s_slow_step) .none kV34 dc34 pm34 an34 cd34 ct34), sl34⟩) (c34 : PySem.W.codeIn K cd34 "_slow_step" = true) (k34 : PySem.W.keepIn K (.ref f34) = true)
    (a35 : PySem.W.nsIn K mainGlobals "_noise_step" = some (some (.ref f35))) (l35 : K.lookup f35 = some ⟨oc35, od35, .func (PySem.W.fnOf "_noise_step" "_noise_step" (defArgs s_noise_step) (defBody s_noise_step) (defScope s_noise_step) .none kV35 dc35 pm35 an35 cd35 ct35), sl35⟩) (c35 : PySem.W.codeIn K cd35 "_noise_step" = true) (k35 : PySem.W.keepIn K (.ref f35) = true)
    (a36 : PySem.W.nsIn K mainGlobals "_shape_step" = some (some (.ref f36))) (l36 : K.lookup f36 = some ⟨oc36, od36, .func (PySem.W.fnOf "_shape_step" "_shape_step" (defArgs s_shape_step) (defBody s_shape_step) (defScope s_shape_step) .none kV36 dc36 pm36 an36 cd36 ct36), sl36⟩) (c36 : PySem.W.codeIn K cd36 "_shape_step" = true) (k36 : PySem.W.keepIn K (.ref f36) = true)
    (a37 : PySem.W.nsIn K mainGlobals "_shape_word" = some (some (.ref f37))) (l37 : K.lookup f37 = some ⟨oc37, od37, .func (PySem.W.fnOf "_shape_word" "_shape_word" (defArgs s_shape_word) (defBody s_shape_word) (defScope s_shape_word) .none kV37 dc37 pm37 an37 cd37 ct37), sl37⟩) (c37 : PySem.W.codeIn K cd37 "_shape_word" = true) (k37 : PySem.W.keepIn K (.ref f37) = true)
    (a38 : PySem.W.nsIn K mainGlobals "_shape_moved" = some (some (.ref f38))) (l38 : K.lookup f38 = some ⟨oc38, od38, .func (PySem.W.fnOf "_shape_moved" "_shape_moved" (defArgs s_shape_moved) (defBody s_shape_moved) (defScope s_shape_moved) .none kV38 dc38 pm38 an38 cd38 ct38), sl38⟩) (c38 : PySem.W.codeIn K cd38 "_shape_moved" = true) (k38 : PySem.W.keepIn K (.ref f38) = true)
    (a39 : PySem.W.nsIn K mainGlobals "_taps_step" = some (some (.ref f39))) (l39 : K.lookup f39 = some ⟨oc39, od39, .func (PySem.W.fnOf "_taps_step" "_taps_step" (defArgs s_taps_step) (defBody s_taps_step) (defScope s_taps_step) .none kV39 dc39 pm39 an39 cd39 ct39), sl39⟩) (c39 : PySem.W.codeIn K cd39 "_taps_step" = true) (k39 : PySem.W.keepIn K (.ref f39) = true)
    (a40 : PySem.W.nsIn K mainGlobals "_mix_step" = some (some (.ref f40))) (l40 : K.lookup f40 = some ⟨oc40, od40, .func (PySem.W.fnOf "_mix_step" "_mix_step" (defArgs s_mix_step) (defBody s_mix_step) (defScope s_mix_step) .none kV40 dc40 pm40 an40 cd40 ct40), sl40⟩) (c40 : PySem.W.codeIn K cd40 "_mix_step" = true) (k40 : PySem.W.keepIn K (.ref f40) = true)
    (a41 : PySem.W.nsIn K mainGlobals "_weighed" = some (some (.ref f41))) (l41 : K.lookup f41 = some ⟨oc41, od41, .func (PySem.W.fnOf "_weighed" "_weighed" (defArgs s_weighed) (defBody s_weighed) (defScope s_weighed) .none kV41 dc41 pm41 an41 cd41 ct41), sl41⟩) (c41 : PySem.W.codeIn K cd41 "_weighed" = true) (k41 : PySem.W.keepIn K (.ref f41) = true)
    (a42 : PySem.W.nsIn K mainGlobals "_times_step" = some (some (.ref f42))) (l42 : K.lookup f42 = some ⟨oc42, od42, .func (PySem.W.fnOf "_times_step" "_times_step" (defArgs s_times_step) (defBody s_times_step) (defScope s_times_step) .none kV42 dc42 pm42 an42 cd42 ct42), sl42⟩) (c42 : PySem.W.codeIn K cd42 "_times_step" = true) (k42 : PySem.W.keepIn K (.ref f42) = true)
    (a43 : PySem.W.nsIn K mainGlobals "_delay_step" = some (some (.ref f43))) (l43 : K.lookup f43 = some ⟨oc43, od43, .func (PySem.W.fnOf "_delay_step" "_delay_step" (defArgs s_delay_step) (defBody s_delay_step) (defScope s_delay_step) .none kV43 dc43 pm43 an43 cd43 ct43), sl43⟩) (c43 : PySem.W.codeIn K cd43 "_delay_step" = true) (k43 : PySem.W.keepIn K (.ref f43) = true)
    (a44 : PySem.W.nsIn K mainGlobals "_follow_step" = some (some (.ref f44))) (l44 : K.lookup f44 = some ⟨oc44, od44, .func (PySem.W.fnOf "_follow_step" "_follow_step" (defArgs s_follow_step) (defBody s_follow_step) (defScope s_follow_step) .none kV44 dc44 pm44 an44 cd44 ct44), sl44⟩) (c44 : PySem.W.codeIn K cd44 "_follow_step" = true) (k44 : PySem.W.keepIn K (.ref f44) = true)
    (a45 : PySem.W.nsIn K mainGlobals "_are_ins" = some (some (.ref f45))) (l45 : K.lookup f45 = some ⟨oc45, od45, .func (PySem.W.fnOf "_are_ins" "_are_ins" (defArgs s_are_ins) (defBody s_are_ins) (defScope s_are_ins) .none kV45 dc45 pm45 an45 cd45 ct45), sl45⟩) (c45 : PySem.W.codeIn K cd45 "_are_ins" = true) (k45 : PySem.W.keepIn K (.ref f45) = true)
    (a46 : PySem.W.nsIn K mainGlobals "_law_cell" = some (some (.ref f46))) (l46 : K.lookup f46 = some ⟨oc46, od46, .func (PySem.W.fnOf "_law_cell" "_law_cell" (defArgs s_law_cell) (defBody s_law_cell) (defScope s_law_cell) .none kV46 dc46 pm46 an46 cd46 ct46), sl46⟩) (c46 : PySem.W.codeIn K cd46 "_law_cell" = true) (k46 : PySem.W.keepIn K (.ref f46) = true)
    (a47 : PySem.W.nsIn K mainGlobals "_law_box" = some (some (.ref f47))) (l47 : K.lookup f47 = some ⟨oc47, od47, .func (PySem.W.fnOf "_law_box" "_law_box" (defArgs s_law_box) (defBody s_law_box) (defScope s_law_box) .none kV47 dc47 pm47 an47 cd47 ct47), sl47⟩) (c47 : PySem.W.codeIn K cd47 "_law_box" = true) (k47 : PySem.W.keepIn K (.ref f47) = true)
    (a48 : PySem.W.nsIn K mainGlobals "_law_take" = some (some (.ref f48))) (l48 : K.lookup f48 = some ⟨oc48, od48, .func (PySem.W.fnOf "_law_take" "_law_take" (defArgs s_law_take) (defBody s_law_take) (defScope s_law_take) .none kV48 dc48 pm48 an48 cd48 ct48), sl48⟩) (c48 : PySem.W.codeIn K cd48 "_law_take" = true) (k48 : PySem.W.keepIn K (.ref f48) = true)
    (a49 : PySem.W.nsIn K mainGlobals "_law_part" = some (some (.ref f49))) (l49 : K.lookup f49 = some ⟨oc49, od49, .func (PySem.W.fnOf "_law_part" "_law_part" (defArgs s_law_part) (defBody s_law_part) (defScope s_law_part) .none kV49 dc49 pm49 an49 cd49 ct49), sl49⟩) (c49 : PySem.W.codeIn K cd49 "_law_part" = true) (k49 : PySem.W.keepIn K (.ref f49) = true)
    (a50 : PySem.W.nsIn K mainGlobals "_law_folded" = some (some (.ref f50))) (l50 : K.lookup f50 = some ⟨oc50, od50, .func (PySem.W.fnOf "_law_folded" "_law_folded" (defArgs s_law_folded) (defBody s_law_folded) (defScope s_law_folded) .none kV50 dc50 pm50 an50 cd50 ct50), sl50⟩) (c50 : PySem.W.codeIn K cd50 "_law_folded" = true) (k50 : PySem.W.keepIn K (.ref f50) = true)
    (a51 : PySem.W.nsIn K mainGlobals "_law_table" = some (some (.ref f51))) (l51 : K.lookup f51 = some ⟨oc51, od51, .func (PySem.W.fnOf "_law_table" "_law_table" (defArgs s_law_table) (defBody s_law_table) (defScope s_law_table) .none kV51 dc51 pm51 an51 cd51 ct51), sl51⟩) (c51 : PySem.W.codeIn K cd51 "_law_table" = true) (k51 : PySem.W.keepIn K (.ref f51) = true)
    (a52 : PySem.W.nsIn K mainGlobals "_law_new" = some (some (.ref f52))) (l52 : K.lookup f52 = some ⟨oc52, od52, .func (PySem.W.fnOf "_law_new" "_law_new" (defArgs s_law_new) (defBody s_law_new) (defScope s_law_new) .none kV52 dc52 pm52 an52 cd52 ct52), sl52⟩) (c52 : PySem.W.codeIn K cd52 "_law_new" = true) (k52 : PySem.W.keepIn K (.ref f52) = true)
    (a53 : PySem.W.nsIn K mainGlobals "_law_shaped" = some (some (.ref f53))) (l53 : K.lookup f53 = some ⟨oc53, od53, .func (PySem.W.fnOf "_law_shaped" "_law_shaped" (defArgs s_law_shaped) (defBody s_law_shaped) (defScope s_law_shaped) .none kV53 dc53 pm53 an53 cd53 ct53), sl53⟩) (c53 : PySem.W.codeIn K cd53 "_law_shaped" = true) (k53 : PySem.W.keepIn K (.ref f53) = true)
    (a54 : PySem.W.nsIn K mainGlobals "_law_done" = some (some (.ref f54))) (l54 : K.lookup f54 = some ⟨oc54, od54, .func (PySem.W.fnOf "_law_done" "_law_done" (defArgs s_law_done) (defBody s_law_done) (defScope s_law_done) .none kV54 dc54 pm54 an54 cd54 ct54), sl54⟩) (c54 : PySem.W.codeIn K cd54 "_law_done" = true) (k54 : PySem.W.keepIn K (.ref f54) = true)
    (a55 : PySem.W.nsIn K mainGlobals "_law_ports" = some (some (.ref f55))) (l55 : K.lookup f55 = some ⟨oc55, od55, .func (PySem.W.fnOf "_law_ports" "_law_ports" (defArgs s_law_ports) (defBody s_law_ports) (defScope s_law_ports) .none kV55 dc55 pm55 an55 cd55 ct55), sl55⟩) (c55 : PySem.W.codeIn K cd55 "_law_ports" = true) (k55 : PySem.W.keepIn K (.ref f55) = true)
    (a56 : PySem.W.nsIn K mainGlobals "_law_got" = some (some (.ref f56))) (l56 : K.lookup f56 = some ⟨oc56, od56, .func (PySem.W.fnOf "_law_got" "_law_got" (defArgs s_law_got) (defBody s_law_got) (defScope s_law_got) .none kV56 dc56 pm56 an56 cd56 ct56), sl56⟩) (c56 : PySem.W.codeIn K cd56 "_law_got" = true) (k56 : PySem.W.keepIn K (.ref f56) = true)
    (a57 : PySem.W.nsIn K mainGlobals "_law_right" = some (some (.ref f57))) (l57 : K.lookup f57 = some ⟨oc57, od57, .func (PySem.W.fnOf "_law_right" "_law_right" (defArgs s_law_right) (defBody s_law_right) (defScope s_law_right) .none kV57 dc57 pm57 an57 cd57 ct57), sl57⟩) (c57 : PySem.W.codeIn K cd57 "_law_right" = true) (k57 : PySem.W.keepIn K (.ref f57) = true)
    (a58 : PySem.W.nsIn K mainGlobals "law" = some (some (.ref f58))) (l58 : K.lookup f58 = some ⟨oc58, od58, .func (PySem.W.fnOf "law" "law" (defArgs s_law) (defBody s_law) (defScope s_law) .none kV58 dc58 pm58 an58 cd58 ct58), sl58⟩) (c58 : PySem.W.codeIn K cd58 "law" = true) (k58 : PySem.W.keepIn K (.ref f58) = true)
    (i0 : PySem.W.nsIn K mainGlobals "LEAST" = some (some (.int (-2048) t0)))
    (i1 : PySem.W.nsIn K mainGlobals "GREATEST" = some (some (.int (2047) t1)))
    (i2 : PySem.W.nsIn K mainGlobals "WIDTH" = some (some (.int (4096) t2)))
    (i3 : PySem.W.nsIn K mainGlobals "NAME_LENGTH" = some (some (.int (8) t3)))
    (i4 : PySem.W.nsIn K mainGlobals "PLACES" = some (some (.int (64) t4)))
    (i5 : PySem.W.nsIn K mainGlobals "MOST_FACTORS" = some (some (.int (8) t5)))
    (i6 : PySem.W.nsIn K mainGlobals "MOST_INS" = some (some (.int (8) t6)))
    (i7 : PySem.W.nsIn K mainGlobals "TOP" = some (some (.int (2047) t7)))
    (i8 : PySem.W.nsIn K mainGlobals "SLOW_SAMPLES" = some (some (.int (16) t8)))
    (i9 : PySem.W.nsIn K mainGlobals "PHASES" = some (some (.int (4096) t9)))
    (u0 : PySem.W.nsIn K mainGlobals "MANNERS" = some (some (.ref b0))) (w0 : K.lookup b0 = some ⟨.type "tuple", bd0, .seq #[.str "clip" z00, .str "wrap" z01, .str "fold" z02] bn0, bs0⟩)
    (u1 : PySem.W.nsIn K mainGlobals "TABLES" = some (some (.ref b1))) (w1 : K.lookup b1 = some ⟨.type "tuple", bd1, .seq #[.str "saw" z10, .str "square" z11, .str "tri" z12, .str "pulse" z13, .str "hump" z14] bn1, bs1⟩)
    (u2 : PySem.W.nsIn K mainGlobals "MIX_PORTS" = some (some (.ref b2))) (w2 : K.lookup b2 = some ⟨.type "tuple", bd2, .seq #[.str "a" z20, .str "b" z21, .str "c" z22, .str "d" z23] bn2, bs2⟩)
    (n0 : PySem.W.nsIn K mainGlobals "isinstance" = some none)
    (n1 : PySem.W.nsIn K mainGlobals "int" = some none)
    (n2 : PySem.W.nsIn K mainGlobals "bool" = some none)
    (n3 : PySem.W.nsIn K mainGlobals "str" = some none)
    (n4 : PySem.W.nsIn K mainGlobals "tuple" = some none)
    (n5 : PySem.W.nsIn K mainGlobals "dict" = some none)
    (n6 : PySem.W.nsIn K mainGlobals "len" = some none)
    (n7 : PySem.W.nsIn K mainGlobals "max" = some none)
    (n8 : PySem.W.nsIn K mainGlobals "min" = some none)
    (n9 : PySem.W.nsIn K mainGlobals "repr" = some none)
    (n10 : PySem.W.nsIn K mainGlobals "range" = some none)
    (n11 : PySem.W.nsIn K mainGlobals "all" = some none)
    (n12 : PySem.W.nsIn K mainGlobals "abs" = some none)
    (n13 : PySem.W.nsIn K mainGlobals "sum" = some none)
    (n14 : PySem.W.nsIn K mainGlobals "zip" = some none)
    (n15 : PySem.W.nsIn K mainGlobals "enumerate" = some none)
    (s00 : PySem.W.nsIn K mainGlobals "SoundError" = some (some (.ref S0))) (s10 : PySem.W.specialIn K (.ref S0) "__getattribute__" = some (some (.builtin "type.__getattribute__"))) (s20 : PySem.W.readsIn K S0 (.type "type") = true) (s30 : PySem.W.findCls K (.ref S0) (.type "type") "__init__" = some (.val (.builtin "ValueError.__init__")))
    (e0C_NoPart : PySem.W.nsIn K mainGlobals "NoPart" = some (some (.ref C_NoPart))) (e1C_NoPart : K.lookup C_NoPart = some (excClassObj nmC_NoPart qnC_NoPart C_NoPart NC_NoPart bsC_NoPart bmC_NoPart true snC_NoPart subC_NoPart abC_NoPart colC_NoPart ddC_NoPart q0C_NoPart q1C_NoPart q2C_NoPart q3C_NoPart q5C_NoPart "ValueError.__new__")) (e1bC_NoPart : PySem.HandSPX.refsVE bmC_NoPart = true)
    (e2C_NoPart : PySem.W.findIn K (.ref C_NoPart) "__setattr__" = some (some (.builtin "object.__setattr__"))) (e3C_NoPart : PySem.W.subIn K (.ref C_NoPart) (.type "BaseException") = some true) (e4C_NoPart : PySem.W.typeIn K (.ref C_NoPart) = some (.type "type")) (e5C_NoPart : PySem.W.keepIn K (.ref C_NoPart) = true)
    (e6C_NoPart : PySem.W.findIn K (.ref C_NoPart) "found" = some none) (e7C_NoPart : PySem.W.findIn K (.ref C_NoPart) "__init__" = some (some (.ref IC_NoPart))) (e8C_NoPart : PySem.W.typeIn K (.ref IC_NoPart) = some (.type "function"))
    (e9C_NoPart : K.lookup IC_NoPart = some ⟨ocC_NoPart, odC_NoPart, .func (PySem.W.fnOf "__init__" "NoPart.__init__" (defArgs s_init_NoPart) (defBody s_init_NoPart) (defScope s_init_NoPart) .none kVC_NoPart dcC_NoPart pmC_NoPart anC_NoPart cdC_NoPart ctC_NoPart), slC_NoPart⟩) (e10C_NoPart : PySem.W.codeIn K cdC_NoPart "NoPart.__init__" = true) (e11C_NoPart : PySem.W.keepIn K (.ref IC_NoPart) = true)
    (x1C_NoPart : PySem.W.findIn K (.ref C_NoPart) "__getattribute__" = some (some (.builtin "BaseException.__getattribute__"))) (x2C_NoPart : PySem.W.findIn K (.ref C_NoPart) "__getattr__" = some none) (x3C_NoPart : PySem.W.hasDictIn K C_NoPart = true) (y1C_NoPart : PySem.W.isClsIn K C_NoPart = true)
    (e0C_NoIns : PySem.W.nsIn K mainGlobals "NoIns" = some (some (.ref C_NoIns))) (e1C_NoIns : K.lookup C_NoIns = some (excClassObj nmC_NoIns qnC_NoIns C_NoIns NC_NoIns bsC_NoIns bmC_NoIns true snC_NoIns subC_NoIns abC_NoIns colC_NoIns ddC_NoIns q0C_NoIns q1C_NoIns q2C_NoIns q3C_NoIns q5C_NoIns "ValueError.__new__")) (e1bC_NoIns : PySem.HandSPX.refsVE bmC_NoIns = true)
    (e2C_NoIns : PySem.W.findIn K (.ref C_NoIns) "__setattr__" = some (some (.builtin "object.__setattr__"))) (e3C_NoIns : PySem.W.subIn K (.ref C_NoIns) (.type "BaseException") = some true) (e4C_NoIns : PySem.W.typeIn K (.ref C_NoIns) = some (.type "type")) (e5C_NoIns : PySem.W.keepIn K (.ref C_NoIns) = true)
    (e6C_NoIns : PySem.W.findIn K (.ref C_NoIns) "found" = some none) (e7C_NoIns : PySem.W.findIn K (.ref C_NoIns) "__init__" = some (some (.ref IC_NoIns))) (e8C_NoIns : PySem.W.typeIn K (.ref IC_NoIns) = some (.type "function"))
    (e9C_NoIns : K.lookup IC_NoIns = some ⟨ocC_NoIns, odC_NoIns, .func (PySem.W.fnOf "__init__" "NoIns.__init__" (defArgs s_init_NoIns) (defBody s_init_NoIns) (defScope s_init_NoIns) .none kVC_NoIns dcC_NoIns pmC_NoIns anC_NoIns cdC_NoIns ctC_NoIns), slC_NoIns⟩) (e10C_NoIns : PySem.W.codeIn K cdC_NoIns "NoIns.__init__" = true) (e11C_NoIns : PySem.W.keepIn K (.ref IC_NoIns) = true)
    (x1C_NoIns : PySem.W.findIn K (.ref C_NoIns) "__getattribute__" = some (some (.builtin "BaseException.__getattribute__"))) (x2C_NoIns : PySem.W.findIn K (.ref C_NoIns) "__getattr__" = some none) (x3C_NoIns : PySem.W.hasDictIn K C_NoIns = true) (y1C_NoIns : PySem.W.isClsIn K C_NoIns = true)
    {DF0 : Addr} {dsF0 : Array DictEntry} {dnF0 : Nat}
    {DF1 : Addr} {dsF1 : Array DictEntry} {dnF1 : Nat}
    {DF2 : Addr} {dsF2 : Array DictEntry} {dnF2 : Nat}
    {DT0 : Addr} {dsT0 : Array DictEntry} {dnT0 : Nat}
    {tT0_0 : Addr} {tdT0_0 : Option Addr} {tsT0_0 : Array (Option Value)} {tnT0_0  : Nat}
    {tT0_1 : Addr} {tdT0_1 : Option Addr} {tsT0_1 : Array (Option Value)} {tnT0_1 tzT0_1_0 : Nat}
    {tT0_2 : Addr} {tdT0_2 : Option Addr} {tsT0_2 : Array (Option Value)} {tnT0_2  : Nat}
    {tT0_3 : Addr} {tdT0_3 : Option Addr} {tsT0_3 : Array (Option Value)} {tnT0_3  : Nat}
    {tT0_4 : Addr} {tdT0_4 : Option Addr} {tsT0_4 : Array (Option Value)} {tnT0_4 tzT0_4_0 : Nat}
    {tT0_5 : Addr} {tdT0_5 : Option Addr} {tsT0_5 : Array (Option Value)} {tnT0_5 tzT0_5_0 : Nat}
    {tT0_6 : Addr} {tdT0_6 : Option Addr} {tsT0_6 : Array (Option Value)} {tnT0_6 tzT0_6_0 tzT0_6_1 : Nat}
    {tT0_7 : Addr} {tdT0_7 : Option Addr} {tsT0_7 : Array (Option Value)} {tnT0_7 tzT0_7_0 : Nat}
    {tT0_8 : Addr} {tdT0_8 : Option Addr} {tsT0_8 : Array (Option Value)} {tnT0_8 tzT0_8_0 : Nat}
    {DT1 : Addr} {dsT1 : Array DictEntry} {dnT1 : Nat}
    {tT1_0 : Addr} {tdT1_0 : Option Addr} {tsT1_0 : Array (Option Value)} {tnT1_0  : Nat}
    {tT1_1 : Addr} {tdT1_1 : Option Addr} {tsT1_1 : Array (Option Value)} {tnT1_1 tzT1_1_0 : Nat}
    {tT1_2 : Addr} {tdT1_2 : Option Addr} {tsT1_2 : Array (Option Value)} {tnT1_2 tzT1_2_0 tzT1_2_1 : Nat}
    {tT1_3 : Addr} {tdT1_3 : Option Addr} {tsT1_3 : Array (Option Value)} {tnT1_3 tzT1_3_0 tzT1_3_1 : Nat}
    {tT1_4 : Addr} {tdT1_4 : Option Addr} {tsT1_4 : Array (Option Value)} {tnT1_4  : Nat}
    {tT1_5 : Addr} {tdT1_5 : Option Addr} {tsT1_5 : Array (Option Value)} {tnT1_5  : Nat}
    {tT1_6 : Addr} {tdT1_6 : Option Addr} {tsT1_6 : Array (Option Value)} {tnT1_6 tzT1_6_0 : Nat}
    {C_Worker : Addr}
    {wWorker_init : Addr} {ocWorker_init kVWorker_init dcWorker_init pmWorker_init cdWorker_init ctWorker_init : Value} {odWorker_init anWorker_init : Option Addr} {slWorker_init : Array (Option Value)}
    {wWorker_part : Addr} {ocWorker_part kVWorker_part dcWorker_part pmWorker_part cdWorker_part ctWorker_part : Value} {odWorker_part anWorker_part : Option Addr} {slWorker_part : Array (Option Value)}
    {wWorker_sample : Addr} {ocWorker_sample kVWorker_sample dcWorker_sample pmWorker_sample cdWorker_sample ctWorker_sample : Value} {odWorker_sample anWorker_sample : Option Addr} {slWorker_sample : Array (Option Value)}
    {wWorker_was_folded : Addr} {ocWorker_was_folded kVWorker_was_folded dcWorker_was_folded pmWorker_was_folded cdWorker_was_folded ctWorker_was_folded : Value} {odWorker_was_folded anWorker_was_folded : Option Addr} {slWorker_was_folded : Array (Option Value)}
    {wWorker_stands : Addr} {ocWorker_stands kVWorker_stands dcWorker_stands pmWorker_stands cdWorker_stands ctWorker_stands : Value} {odWorker_stands anWorker_stands : Option Addr} {slWorker_stands : Array (Option Value)}
    {wWorker_eq : Addr} {ocWorker_eq kVWorker_eq dcWorker_eq pmWorker_eq cdWorker_eq ctWorker_eq : Value} {odWorker_eq anWorker_eq : Option Addr} {slWorker_eq : Array (Option Value)}
    (daF0 : PySem.W.nsIn K mainGlobals "_TABLE_WORTHS" = some (some (.ref DF0)))
    (dbF0 : K.lookup DF0 = some ⟨.type "dict", none, .dict dsF0 dnF0, #[]⟩)
    (dcF0 : PySem.W.KeysLit w.params dsF0.toList)
    (ddF0 : (DF0 == sysModules) = false)
    (dkF0 : dsF0.toList.map keyS = ([some "saw", some "square", some "tri", some "pulse", some "hump"] : List (Option Str)))
    (deF0_0 : PySem.W.nsIn K DF0 "saw" = some (some (.ref f11)))
    (deF0_1 : PySem.W.nsIn K DF0 "square" = some (some (.ref f12)))
    (deF0_2 : PySem.W.nsIn K DF0 "tri" = some (some (.ref f13)))
    (deF0_3 : PySem.W.nsIn K DF0 "pulse" = some (some (.ref f14)))
    (deF0_4 : PySem.W.nsIn K DF0 "hump" = some (some (.ref f15)))
    (daF1 : PySem.W.nsIn K mainGlobals "_CHECKS" = some (some (.ref DF1)))
    (dbF1 : K.lookup DF1 = some ⟨.type "dict", none, .dict dsF1 dnF1, #[]⟩)
    (dcF1 : PySem.W.KeysLit w.params dsF1.toList)
    (ddF1 : (DF1 == sysModules) = false)
    (dkF1 : dsF1.toList.map keyS = ([some "from", some "wave", some "slow", some "noise", some "shape", some "taps", some "mix", some "times", some "delay", some "follow"] : List (Option Str)))
    (deF1_0 : PySem.W.nsIn K DF1 "from" = some (some (.ref f17)))
    (deF1_1 : PySem.W.nsIn K DF1 "wave" = some (some (.ref f18)))
    (deF1_2 : PySem.W.nsIn K DF1 "slow" = some (some (.ref f18)))
    (deF1_3 : PySem.W.nsIn K DF1 "noise" = some (some (.ref f19)))
    (deF1_4 : PySem.W.nsIn K DF1 "shape" = some (some (.ref f20)))
    (deF1_5 : PySem.W.nsIn K DF1 "taps" = some (some (.ref f22)))
    (deF1_6 : PySem.W.nsIn K DF1 "mix" = some (some (.ref f23)))
    (deF1_7 : PySem.W.nsIn K DF1 "times" = some (some (.ref f24)))
    (deF1_8 : PySem.W.nsIn K DF1 "delay" = some (some (.ref f25)))
    (deF1_9 : PySem.W.nsIn K DF1 "follow" = some (some (.ref f26)))
    (daF2 : PySem.W.nsIn K mainGlobals "_STEPS" = some (some (.ref DF2)))
    (dbF2 : K.lookup DF2 = some ⟨.type "dict", none, .dict dsF2 dnF2, #[]⟩)
    (dcF2 : PySem.W.KeysLit w.params dsF2.toList)
    (ddF2 : (DF2 == sysModules) = false)
    (dkF2 : dsF2.toList.map keyS = ([some "from", some "wave", some "slow", some "noise", some "shape", some "taps", some "mix", some "times", some "delay", some "follow"] : List (Option Str)))
    (deF2_0 : PySem.W.nsIn K DF2 "from" = some (some (.ref f32)))
    (deF2_1 : PySem.W.nsIn K DF2 "wave" = some (some (.ref f33)))
    (deF2_2 : PySem.W.nsIn K DF2 "slow" = some (some (.ref f34)))
    (deF2_3 : PySem.W.nsIn K DF2 "noise" = some (some (.ref f35)))
    (deF2_4 : PySem.W.nsIn K DF2 "shape" = some (some (.ref f36)))
    (deF2_5 : PySem.W.nsIn K DF2 "taps" = some (some (.ref f39)))
    (deF2_6 : PySem.W.nsIn K DF2 "mix" = some (some (.ref f40)))
    (deF2_7 : PySem.W.nsIn K DF2 "times" = some (some (.ref f42)))
    (deF2_8 : PySem.W.nsIn K DF2 "delay" = some (some (.ref f43)))
    (deF2_9 : PySem.W.nsIn K DF2 "follow" = some (some (.ref f44)))
    (daT0 : PySem.W.nsIn K mainGlobals "_PORTS" = some (some (.ref DT0)))
    (dbT0 : K.lookup DT0 = some ⟨.type "dict", none, .dict dsT0 dnT0, #[]⟩)
    (dcT0 : PySem.W.KeysLit w.params dsT0.toList)
    (ddT0 : (DT0 == sysModules) = false)
    (dkT0 : dsT0.toList.map keyS = ([some "from", some "wave", some "slow", some "noise", some "shape", some "taps", some "times", some "delay", some "follow"] : List (Option Str)))
    (deT0_0 : PySem.W.nsIn K DT0 "from" = some (some (.ref tT0_0)))
    (dtT0_0 : K.lookup tT0_0 = some ⟨.type "tuple", tdT0_0, .seq #[] tnT0_0, tsT0_0⟩)
    (deT0_1 : PySem.W.nsIn K DT0 "wave" = some (some (.ref tT0_1)))
    (dtT0_1 : K.lookup tT0_1 = some ⟨.type "tuple", tdT0_1, .seq #[.str "pitch" tzT0_1_0] tnT0_1, tsT0_1⟩)
    (deT0_2 : PySem.W.nsIn K DT0 "slow" = some (some (.ref tT0_2)))
    (dtT0_2 : K.lookup tT0_2 = some ⟨.type "tuple", tdT0_2, .seq #[] tnT0_2, tsT0_2⟩)
    (deT0_3 : PySem.W.nsIn K DT0 "noise" = some (some (.ref tT0_3)))
    (dtT0_3 : K.lookup tT0_3 = some ⟨.type "tuple", tdT0_3, .seq #[] tnT0_3, tsT0_3⟩)
    (deT0_4 : PySem.W.nsIn K DT0 "shape" = some (some (.ref tT0_4)))
    (dtT0_4 : K.lookup tT0_4 = some ⟨.type "tuple", tdT0_4, .seq #[.str "gate" tzT0_4_0] tnT0_4, tsT0_4⟩)
    (deT0_5 : PySem.W.nsIn K DT0 "taps" = some (some (.ref tT0_5)))
    (dtT0_5 : K.lookup tT0_5 = some ⟨.type "tuple", tdT0_5, .seq #[.str "in" tzT0_5_0] tnT0_5, tsT0_5⟩)
    (deT0_6 : PySem.W.nsIn K DT0 "times" = some (some (.ref tT0_6)))
    (dtT0_6 : K.lookup tT0_6 = some ⟨.type "tuple", tdT0_6, .seq #[.str "a" tzT0_6_0, .str "b" tzT0_6_1] tnT0_6, tsT0_6⟩)
    (deT0_7 : PySem.W.nsIn K DT0 "delay" = some (some (.ref tT0_7)))
    (dtT0_7 : K.lookup tT0_7 = some ⟨.type "tuple", tdT0_7, .seq #[.str "in" tzT0_7_0] tnT0_7, tsT0_7⟩)
    (deT0_8 : PySem.W.nsIn K DT0 "follow" = some (some (.ref tT0_8)))
    (dtT0_8 : K.lookup tT0_8 = some ⟨.type "tuple", tdT0_8, .seq #[.str "in" tzT0_8_0] tnT0_8, tsT0_8⟩)
    (daT1 : PySem.W.nsIn K mainGlobals "_AT_FIRST" = some (some (.ref DT1)))
    (dbT1 : K.lookup DT1 = some ⟨.type "dict", none, .dict dsT1 dnT1, #[]⟩)
    (dcT1 : PySem.W.KeysLit w.params dsT1.toList)
    (ddT1 : (DT1 == sysModules) = false)
    (dkT1 : dsT1.toList.map keyS = ([some "from", some "wave", some "slow", some "shape", some "mix", some "times", some "follow"] : List (Option Str)))
    (deT1_0 : PySem.W.nsIn K DT1 "from" = some (some (.ref tT1_0)))
    (dtT1_0 : K.lookup tT1_0 = some ⟨.type "tuple", tdT1_0, .seq #[] tnT1_0, tsT1_0⟩)
    (deT1_1 : PySem.W.nsIn K DT1 "wave" = some (some (.ref tT1_1)))
    (dtT1_1 : K.lookup tT1_1 = some ⟨.type "tuple", tdT1_1, .seq #[.int (0) tzT1_1_0] tnT1_1, tsT1_1⟩)
    (deT1_2 : PySem.W.nsIn K DT1 "slow" = some (some (.ref tT1_2)))
    (dtT1_2 : K.lookup tT1_2 = some ⟨.type "tuple", tdT1_2, .seq #[.int (0) tzT1_2_0, .int (0) tzT1_2_1] tnT1_2, tsT1_2⟩)
    (deT1_3 : PySem.W.nsIn K DT1 "shape" = some (some (.ref tT1_3)))
    (dtT1_3 : K.lookup tT1_3 = some ⟨.type "tuple", tdT1_3, .seq #[.int (0) tzT1_3_0, .str "rest" tzT1_3_1] tnT1_3, tsT1_3⟩)
    (deT1_4 : PySem.W.nsIn K DT1 "mix" = some (some (.ref tT1_4)))
    (dtT1_4 : K.lookup tT1_4 = some ⟨.type "tuple", tdT1_4, .seq #[] tnT1_4, tsT1_4⟩)
    (deT1_5 : PySem.W.nsIn K DT1 "times" = some (some (.ref tT1_5)))
    (dtT1_5 : K.lookup tT1_5 = some ⟨.type "tuple", tdT1_5, .seq #[] tnT1_5, tsT1_5⟩)
    (deT1_6 : PySem.W.nsIn K DT1 "follow" = some (some (.ref tT1_6)))
    (dtT1_6 : K.lookup tT1_6 = some ⟨.type "tuple", tdT1_6, .seq #[.int (0) tzT1_6_0] tnT1_6, tsT1_6⟩)
    (wa_Worker : PySem.W.nsIn K mainGlobals "Worker" = some (some (.ref C_Worker)))
    (wb_Worker : PySem.W.plainGet K C_Worker Str.empty = true)
    (wc_Worker : PySem.W.hasDictIn K C_Worker = true)
    (wd_Worker : PySem.W.plainOver K C_Worker = true)
    (we_Worker : PySem.W.findIn K (.ref C_Worker) "__setattr__" = some (some (.builtin "object.__setattr__")))
    (wf_Worker__part : PySem.W.findIn K (.ref C_Worker) "_part" = some none)
    (wf_Worker__kept : PySem.W.findIn K (.ref C_Worker) "_kept" = some none)
    (wf_Worker__folded_last : PySem.W.findIn K (.ref C_Worker) "_folded_last" = some none)
    (wg_Worker : PySem.W.makesIn K C_Worker = true)
    (wh_Worker : PySem.W.keepIn K (.ref C_Worker) = true)
    (wi_Worker_init : PySem.W.findIn K (.ref C_Worker) "__init__" = some (some (.ref wWorker_init)))
    (wj_Worker_init : PySem.W.isFn K (.ref wWorker_init) = true)
    (wk_Worker_init : K.lookup wWorker_init = some ⟨ocWorker_init, odWorker_init, .func (PySem.W.fnOf "__init__" "Worker.__init__" (defArgs s_Worker_init) (defBody s_Worker_init) (defScope s_Worker_init) .none kVWorker_init dcWorker_init pmWorker_init anWorker_init cdWorker_init ctWorker_init), slWorker_init⟩)
    (wl_Worker_init : PySem.W.codeIn K cdWorker_init "Worker.__init__" = true)
    (wm_Worker_init : PySem.W.keepIn K (.ref wWorker_init) = true)
    (wi_Worker_part : PySem.W.findIn K (.ref C_Worker) "part" = some (some (.ref wWorker_part)))
    (wj_Worker_part : PySem.W.isFn K (.ref wWorker_part) = true)
    (wk_Worker_part : K.lookup wWorker_part = some ⟨ocWorker_part, odWorker_part, .func (PySem.W.fnOf "part" "Worker.part" (defArgs s_Worker_part) (defBody s_Worker_part) (defScope s_Worker_part) .none kVWorker_part dcWorker_part pmWorker_part anWorker_part cdWorker_part ctWorker_part), slWorker_part⟩)
    (wl_Worker_part : PySem.W.codeIn K cdWorker_part "Worker.part" = true)
    (wm_Worker_part : PySem.W.keepIn K (.ref wWorker_part) = true)
    (wi_Worker_sample : PySem.W.findIn K (.ref C_Worker) "sample" = some (some (.ref wWorker_sample)))
    (wj_Worker_sample : PySem.W.isFn K (.ref wWorker_sample) = true)
    (wk_Worker_sample : K.lookup wWorker_sample = some ⟨ocWorker_sample, odWorker_sample, .func (PySem.W.fnOf "sample" "Worker.sample" (defArgs s_Worker_sample) (defBody s_Worker_sample) (defScope s_Worker_sample) .none kVWorker_sample dcWorker_sample pmWorker_sample anWorker_sample cdWorker_sample ctWorker_sample), slWorker_sample⟩)
    (wl_Worker_sample : PySem.W.codeIn K cdWorker_sample "Worker.sample" = true)
    (wm_Worker_sample : PySem.W.keepIn K (.ref wWorker_sample) = true)
    (wi_Worker_was_folded : PySem.W.findIn K (.ref C_Worker) "was_folded" = some (some (.ref wWorker_was_folded)))
    (wj_Worker_was_folded : PySem.W.isFn K (.ref wWorker_was_folded) = true)
    (wk_Worker_was_folded : K.lookup wWorker_was_folded = some ⟨ocWorker_was_folded, odWorker_was_folded, .func (PySem.W.fnOf "was_folded" "Worker.was_folded" (defArgs s_Worker_was_folded) (defBody s_Worker_was_folded) (defScope s_Worker_was_folded) .none kVWorker_was_folded dcWorker_was_folded pmWorker_was_folded anWorker_was_folded cdWorker_was_folded ctWorker_was_folded), slWorker_was_folded⟩)
    (wl_Worker_was_folded : PySem.W.codeIn K cdWorker_was_folded "Worker.was_folded" = true)
    (wm_Worker_was_folded : PySem.W.keepIn K (.ref wWorker_was_folded) = true)
    (wi_Worker_stands : PySem.W.findIn K (.ref C_Worker) "stands" = some (some (.ref wWorker_stands)))
    (wj_Worker_stands : PySem.W.isFn K (.ref wWorker_stands) = true)
    (wk_Worker_stands : K.lookup wWorker_stands = some ⟨ocWorker_stands, odWorker_stands, .func (PySem.W.fnOf "stands" "Worker.stands" (defArgs s_Worker_stands) (defBody s_Worker_stands) (defScope s_Worker_stands) .none kVWorker_stands dcWorker_stands pmWorker_stands anWorker_stands cdWorker_stands ctWorker_stands), slWorker_stands⟩)
    (wl_Worker_stands : PySem.W.codeIn K cdWorker_stands "Worker.stands" = true)
    (wm_Worker_stands : PySem.W.keepIn K (.ref wWorker_stands) = true)
    (wi_Worker_eq : PySem.W.findIn K (.ref C_Worker) "__eq__" = some (some (.ref wWorker_eq)))
    (wj_Worker_eq : PySem.W.isFn K (.ref wWorker_eq) = true)
    (wk_Worker_eq : K.lookup wWorker_eq = some ⟨ocWorker_eq, odWorker_eq, .func (PySem.W.fnOf "__eq__" "Worker.__eq__" (defArgs s_Worker_eq) (defBody s_Worker_eq) (defScope s_Worker_eq) .none kVWorker_eq dcWorker_eq pmWorker_eq anWorker_eq cdWorker_eq ctWorker_eq), slWorker_eq⟩)
    (wl_Worker_eq : PySem.W.codeIn K cdWorker_eq "Worker.__eq__" = true)
    (wm_Worker_eq : PySem.W.keepIn K (.ref wWorker_eq) = true)
    (wo0_Worker : PySem.W.findIn K (.ref C_Worker) "__class__" = some (some (.builtin "object.__class__")))
    (wo1_Worker : PySem.W.specialIn K (.builtin "object.__class__") "__get__" = some (some (.builtin "getset_descriptor.__get__")))
    (wo2_Worker : PySem.W.takesIn K (.builtin "object.__class__") = some true)
    (wo3_Worker : PySem.W.mroIn K C_Worker (.type "object") = some true)
    (wo4_Worker : PySem.W.kitOne K (.ref C_Worker) (.ref C_Worker) = some true)
    (wo5_Worker : PySem.W.kitOne K (.type "tuple") (.ref C_Worker) = some false)
    (wo6_Worker : PySem.W.kitOne K (.type "int") (.ref C_Worker) = some false)
    (wo7_Worker : PySem.W.notFirst K C_Worker (.type "tuple") = true)
    (wo8_Worker : PySem.W.notFirst K C_Worker (.type "int") = true) :
    ∃ fd : FuncData, (∀ (s : Shared) (u : Value), BindsTo s fd ⟨[u], []⟩ [("script", u)]) ∧ ∀ base : Heap, K.In base → base.Ns mainGlobals mg → FnG P w K mg base (L2.CX P w) 10 fa fd ["script"] (spLaw K) := by
  have e := hfa.symm.trans (PySem.W.mg_of X G a58)
  cases e
  have T : Txt K mg w C_NoPart C_NoIns C_Worker := {
    d_wall := defIn X G a0 l0 c0 k0
    d_is_number := defIn X G a1 l1 c1 k1
    d_is_whole := defIn X G a2 l2 c2 k2
    d_is_name := defIn X G a3 l3 c3 k3
    d_is_worth := defIn X G a4 l4 c4 k4
    d_is_manner := defIn X G a5 l5 c5 k5
    d_is_table := defIn X G a6 l6 c6 k6
    d_folded := defIn X G a7 l7 c7 k7
    d_turned_back := defIn X G a8 l8 c8 k8
    d_is_folded := defIn X G a9 l9 c9 k9
    d_table_worth := defIn X G a10 l10 c10 k10
    d_saw := defIn X G a11 l11 c11 k11
    d_square := defIn X G a12 l12 c12 k12
    d_tri := defIn X G a13 l13 c13 k13
    d_pulse := defIn X G a14 l14 c14 k14
    d_hump := defIn X G a15 l15 c15 k15
    d_next_noise := defIn X G a16 l16 c16 k16
    d_is_from := defIn X G a17 l17 c17 k17
    d_is_wave := defIn X G a18 l18 c18 k18
    d_is_noise := defIn X G a19 l19 c19 k19
    d_is_shape := defIn X G a20 l20 c20 k20
    d_are_factors := defIn X G a21 l21 c21 k21
    d_is_taps := defIn X G a22 l22 c22 k22
    d_is_mix := defIn X G a23 l23 c23 k23
    d_is_times := defIn X G a24 l24 c24 k24
    d_is_delay := defIn X G a25 l25 c25 k25
    d_is_follow := defIn X G a26 l26 c26 k26
    d_is_part := defIn X G a27 l27 c27 k27
    d_ports_of := defIn X G a28 l28 c28 k28
    d_kept_at_first := defIn X G a29 l29 c29 k29
    d_slow_ahead := defIn X G a30 l30 c30 k30
    d_noise_ahead := defIn X G a31 l31 c31 k31
    d_from_step := defIn X G a32 l32 c32 k32
    d_wave_step := defIn X G a33 l33 c33 k33
    d_slow_step := defIn X G a34 l34 c34 k34
    d_noise_step := defIn X G a35 l35 c35 k35
    d_shape_step := defIn X G a36 l36 c36 k36
    d_shape_word := defIn X G a37 l37 c37 k37
    d_shape_moved := defIn X G a38 l38 c38 k38
    d_taps_step := defIn X G a39 l39 c39 k39
    d_mix_step := defIn X G a40 l40 c40 k40
    d_weighed := defIn X G a41 l41 c41 k41
    d_times_step := defIn X G a42 l42 c42 k42
    d_delay_step := defIn X G a43 l43 c43 k43
    d_follow_step := defIn X G a44 l44 c44 k44
    d_are_ins := defIn X G a45 l45 c45 k45
    d_law_cell := defIn X G a46 l46 c46 k46
    d_law_box := defIn X G a47 l47 c47 k47
    d_law_take := defIn X G a48 l48 c48 k48
    d_law_part := defIn X G a49 l49 c49 k49
    d_law_folded := defIn X G a50 l50 c50 k50
    d_law_table := defIn X G a51 l51 c51 k51
    d_law_new := defIn X G a52 l52 c52 k52
    d_law_shaped := defIn X G a53 l53 c53 k53
    d_law_done := defIn X G a54 l54 c54 k54
    d_law_ports := defIn X G a55 l55 c55 k55
    d_law_got := defIn X G a56 l56 c56 k56
    d_law_right := defIn X G a57 l57 c57 k57
    g_LEAST := ⟨_, PySem.W.mg_of X G i0, _, rfl⟩
    g_GREATEST := ⟨_, PySem.W.mg_of X G i1, _, rfl⟩
    g_WIDTH := ⟨_, PySem.W.mg_of X G i2, _, rfl⟩
    g_NAME_LENGTH := ⟨_, PySem.W.mg_of X G i3, _, rfl⟩
    g_PLACES := ⟨_, PySem.W.mg_of X G i4, _, rfl⟩
    g_MOST_FACTORS := ⟨_, PySem.W.mg_of X G i5, _, rfl⟩
    g_MOST_INS := ⟨_, PySem.W.mg_of X G i6, _, rfl⟩
    g_TOP := ⟨_, PySem.W.mg_of X G i7, _, rfl⟩
    g_SLOW_SAMPLES := ⟨_, PySem.W.mg_of X G i8, _, rfl⟩
    g_PHASES := ⟨_, PySem.W.mg_of X G i9, _, rfl⟩
    g_MANNERS := ⟨b0, PySem.W.mg_of X G u0, fun _ => .inr ⟨_, _, _, w0, rfl, rfl, Nat.le_of_ble_eq_true rfl, .cons ⟨_, rfl⟩ (.cons ⟨_, rfl⟩ (.cons ⟨_, rfl⟩ (.nil)))⟩⟩
    g_TABLES := ⟨b1, PySem.W.mg_of X G u1, fun _ => .inr ⟨_, _, _, w1, rfl, rfl, Nat.le_of_ble_eq_true rfl, .cons ⟨_, rfl⟩ (.cons ⟨_, rfl⟩ (.cons ⟨_, rfl⟩ (.cons ⟨_, rfl⟩ (.cons ⟨_, rfl⟩ (.nil)))))⟩⟩
    g_MIX_PORTS := ⟨b2, PySem.W.mg_of X G u2, fun _ => .inr ⟨_, _, _, w2, rfl, rfl, Nat.le_of_ble_eq_true rfl, .cons ⟨_, rfl⟩ (.cons ⟨_, rfl⟩ (.cons ⟨_, rfl⟩ (.cons ⟨_, rfl⟩ (.nil))))⟩⟩
    n_isinstance := PySem.W.mg_none_of X G n0
    n_int := PySem.W.mg_none_of X G n1
    n_bool := PySem.W.mg_none_of X G n2
    n_str := PySem.W.mg_none_of X G n3
    n_tuple := PySem.W.mg_none_of X G n4
    n_dict := PySem.W.mg_none_of X G n5
    n_len := PySem.W.mg_none_of X G n6
    n_max := PySem.W.mg_none_of X G n7
    n_min := PySem.W.mg_none_of X G n8
    n_repr := PySem.W.mg_none_of X G n9
    n_range := PySem.W.mg_none_of X G n10
    n_all := PySem.W.mg_none_of X G n11
    n_abs := PySem.W.mg_none_of X G n12
    n_sum := PySem.W.mg_none_of X G n13
    n_zip := PySem.W.mg_none_of X G n14
    n_enumerate := PySem.W.mg_none_of X G n15
    u_SoundError := ⟨S0, PySem.W.mg_of X G s00, s10, s20, s30⟩
    x_NoPart := ownX X G e0C_NoPart e1C_NoPart e1bC_NoPart e2C_NoPart e3C_NoPart e4C_NoPart e5C_NoPart e6C_NoPart e7C_NoPart e8C_NoPart e9C_NoPart e10C_NoPart e11C_NoPart x1C_NoPart x2C_NoPart x3C_NoPart
    x_NoIns := ownX X G e0C_NoIns e1C_NoIns e1bC_NoIns e2C_NoIns e3C_NoIns e4C_NoIns e5C_NoIns e6C_NoIns e7C_NoIns e8C_NoIns e9C_NoIns e10C_NoIns e11C_NoIns x1C_NoIns x2C_NoIns x3C_NoIns
    g__TABLE_WORTHS := ⟨DF0, PySem.W.mg_of X G daF0, dsF0, dnF0, ⟨dbF0, dcF0, ddF0⟩, dkF0, ⟨⟨f11, deF0_0, PySem.W.mg_of X G a11⟩, ⟨⟨f12, deF0_1, PySem.W.mg_of X G a12⟩, ⟨⟨f13, deF0_2, PySem.W.mg_of X G a13⟩, ⟨⟨f14, deF0_3, PySem.W.mg_of X G a14⟩, ⟨⟨f15, deF0_4, PySem.W.mg_of X G a15⟩, trivial⟩⟩⟩⟩⟩⟩
    g__CHECKS := ⟨DF1, PySem.W.mg_of X G daF1, dsF1, dnF1, ⟨dbF1, dcF1, ddF1⟩, dkF1, ⟨⟨f17, deF1_0, PySem.W.mg_of X G a17⟩, ⟨⟨f18, deF1_1, PySem.W.mg_of X G a18⟩, ⟨⟨f18, deF1_2, PySem.W.mg_of X G a18⟩, ⟨⟨f19, deF1_3, PySem.W.mg_of X G a19⟩, ⟨⟨f20, deF1_4, PySem.W.mg_of X G a20⟩, ⟨⟨f22, deF1_5, PySem.W.mg_of X G a22⟩, ⟨⟨f23, deF1_6, PySem.W.mg_of X G a23⟩, ⟨⟨f24, deF1_7, PySem.W.mg_of X G a24⟩, ⟨⟨f25, deF1_8, PySem.W.mg_of X G a25⟩, ⟨⟨f26, deF1_9, PySem.W.mg_of X G a26⟩, trivial⟩⟩⟩⟩⟩⟩⟩⟩⟩⟩⟩
    g__STEPS := ⟨DF2, PySem.W.mg_of X G daF2, dsF2, dnF2, ⟨dbF2, dcF2, ddF2⟩, dkF2, ⟨⟨f32, deF2_0, PySem.W.mg_of X G a32⟩, ⟨⟨f33, deF2_1, PySem.W.mg_of X G a33⟩, ⟨⟨f34, deF2_2, PySem.W.mg_of X G a34⟩, ⟨⟨f35, deF2_3, PySem.W.mg_of X G a35⟩, ⟨⟨f36, deF2_4, PySem.W.mg_of X G a36⟩, ⟨⟨f39, deF2_5, PySem.W.mg_of X G a39⟩, ⟨⟨f40, deF2_6, PySem.W.mg_of X G a40⟩, ⟨⟨f42, deF2_7, PySem.W.mg_of X G a42⟩, ⟨⟨f43, deF2_8, PySem.W.mg_of X G a43⟩, ⟨⟨f44, deF2_9, PySem.W.mg_of X G a44⟩, trivial⟩⟩⟩⟩⟩⟩⟩⟩⟩⟩⟩
    g__PORTS := ⟨DT0, PySem.W.mg_of X G daT0, dsT0, dnT0, ⟨dbT0, dcT0, ddT0⟩, dkT0, ⟨⟨tT0_0, deT0_0, fun _ => .inr ⟨_, _, _, dtT0_0, rfl, rfl, Nat.le_of_ble_eq_true rfl, .nil⟩⟩, ⟨⟨tT0_1, deT0_1, fun _ => .inr ⟨_, _, _, dtT0_1, rfl, rfl, Nat.le_of_ble_eq_true rfl, .cons ⟨_, rfl⟩ (.nil)⟩⟩, ⟨⟨tT0_2, deT0_2, fun _ => .inr ⟨_, _, _, dtT0_2, rfl, rfl, Nat.le_of_ble_eq_true rfl, .nil⟩⟩, ⟨⟨tT0_3, deT0_3, fun _ => .inr ⟨_, _, _, dtT0_3, rfl, rfl, Nat.le_of_ble_eq_true rfl, .nil⟩⟩, ⟨⟨tT0_4, deT0_4, fun _ => .inr ⟨_, _, _, dtT0_4, rfl, rfl, Nat.le_of_ble_eq_true rfl, .cons ⟨_, rfl⟩ (.nil)⟩⟩, ⟨⟨tT0_5, deT0_5, fun _ => .inr ⟨_, _, _, dtT0_5, rfl, rfl, Nat.le_of_ble_eq_true rfl, .cons ⟨_, rfl⟩ (.nil)⟩⟩, ⟨⟨tT0_6, deT0_6, fun _ => .inr ⟨_, _, _, dtT0_6, rfl, rfl, Nat.le_of_ble_eq_true rfl, .cons ⟨_, rfl⟩ (.cons ⟨_, rfl⟩ (.nil))⟩⟩, ⟨⟨tT0_7, deT0_7, fun _ => .inr ⟨_, _, _, dtT0_7, rfl, rfl, Nat.le_of_ble_eq_true rfl, .cons ⟨_, rfl⟩ (.nil)⟩⟩, ⟨⟨tT0_8, deT0_8, fun _ => .inr ⟨_, _, _, dtT0_8, rfl, rfl, Nat.le_of_ble_eq_true rfl, .cons ⟨_, rfl⟩ (.nil)⟩⟩, trivial⟩⟩⟩⟩⟩⟩⟩⟩⟩⟩
    g__AT_FIRST := ⟨DT1, PySem.W.mg_of X G daT1, dsT1, dnT1, ⟨dbT1, dcT1, ddT1⟩, dkT1, ⟨⟨tT1_0, deT1_0, fun _ => .inr ⟨_, _, _, dtT1_0, rfl, rfl, Nat.le_of_ble_eq_true rfl, .nil⟩⟩, ⟨⟨tT1_1, deT1_1, fun _ => .inr ⟨_, _, _, dtT1_1, rfl, rfl, Nat.le_of_ble_eq_true rfl, .cons ⟨_, rfl⟩ (.nil)⟩⟩, ⟨⟨tT1_2, deT1_2, fun _ => .inr ⟨_, _, _, dtT1_2, rfl, rfl, Nat.le_of_ble_eq_true rfl, .cons ⟨_, rfl⟩ (.cons ⟨_, rfl⟩ (.nil))⟩⟩, ⟨⟨tT1_3, deT1_3, fun _ => .inr ⟨_, _, _, dtT1_3, rfl, rfl, Nat.le_of_ble_eq_true rfl, .cons ⟨_, rfl⟩ (.cons ⟨_, rfl⟩ (.nil))⟩⟩, ⟨⟨tT1_4, deT1_4, fun _ => .inr ⟨_, _, _, dtT1_4, rfl, rfl, Nat.le_of_ble_eq_true rfl, .nil⟩⟩, ⟨⟨tT1_5, deT1_5, fun _ => .inr ⟨_, _, _, dtT1_5, rfl, rfl, Nat.le_of_ble_eq_true rfl, .nil⟩⟩, ⟨⟨tT1_6, deT1_6, fun _ => .inr ⟨_, _, _, dtT1_6, rfl, rfl, Nat.le_of_ble_eq_true rfl, .cons ⟨_, rfl⟩ (.nil)⟩⟩, trivial⟩⟩⟩⟩⟩⟩⟩⟩
    gl_Worker := PySem.W.mg_of X G wa_Worker
    cl_Worker := ⟨wb_Worker, wc_Worker, wd_Worker, we_Worker⟩
    na_Worker__part := wf_Worker__part
    na_Worker__kept := wf_Worker__kept
    na_Worker__folded_last := wf_Worker__folded_last
    me_Worker_init := ⟨wWorker_init, _, ⟨wg_Worker, wi_Worker_init, wj_Worker_init, wh_Worker⟩, fun_mk wk_Worker_init wl_Worker_init wm_Worker_init⟩
    me_Worker_part := ⟨wWorker_part, _, ⟨wi_Worker_part, wj_Worker_part, wm_Worker_part⟩, fun_mk wk_Worker_part wl_Worker_part wm_Worker_part⟩
    me_Worker_sample := ⟨wWorker_sample, _, ⟨wi_Worker_sample, wj_Worker_sample, wm_Worker_sample⟩, fun_mk wk_Worker_sample wl_Worker_sample wm_Worker_sample⟩
    me_Worker_was_folded := ⟨wWorker_was_folded, _, ⟨wi_Worker_was_folded, wj_Worker_was_folded, wm_Worker_was_folded⟩, fun_mk wk_Worker_was_folded wl_Worker_was_folded wm_Worker_was_folded⟩
    me_Worker_stands := ⟨wWorker_stands, _, ⟨wi_Worker_stands, wj_Worker_stands, wm_Worker_stands⟩, fun_mk wk_Worker_stands wl_Worker_stands wm_Worker_stands⟩
    me_Worker_eq := ⟨wWorker_eq, _, ⟨wi_Worker_eq, wj_Worker_eq, wm_Worker_eq⟩, fun_mk wk_Worker_eq wl_Worker_eq wm_Worker_eq⟩
    oc_Worker := ⟨wo0_Worker, wo1_Worker, wo2_Worker, wo3_Worker, wo4_Worker, wo5_Worker, wo6_Worker, wo7_Worker, wo8_Worker⟩ }
  have F := fun_mk (st := s_law) l58 c58 k58
  exact ⟨_, fun s u => .of_eq rfl, fun base _ _ => ok_law T F⟩
end KB
open PySem PySem.W PyProof.Rows
set_option maxRecDepth 100000 in
set_option maxHeartbeats 8000000 in
theorem PySem.Challenge.cw_cordsounds_k07_whole_all_kinds_at_work_holds : PySem.Challenge.rw_cordsounds_k07_whole_all_kinds_at_work.Holds := by
  w_on; o_law; k_head; (case hw => w_witness2)
  k_fill
  refine Gx.walk_gk (l := PySem.Challenge.rw_cordsounds_k07_whole_all_kinds_at_work) (n := 63) (k := 10) (x := "script") (sp := KB.spLaw) rfl (by decide) rfl ⟨rfl, by decide, by decide⟩ (fun w h Y => PySem.W.kIn_of Y) ?F ?S
  case F =>
    intro w mg fa h KX G hmg
    refine' KB.all_mk KX G hmg ?a0 ?l0 ?c0 ?k0 ?a1 ?l1 ?c1 ?k1 ?a2 ?l2 ?c2 ?k2 ?a3 ?l3 ?c3 ?k3 ?a4 ?l4 ?c4 ?k4 ?a5 ?l5 ?c5 ?k5 ?a6 ?l6 ?c6 ?k6 ?a7 ?l7 ?c7 ?k7 ?a8 ?l8 ?c8 ?k8 ?a9 ?l9 ?c9 ?k9 ?a10 ?l10 ?c10 ?k10 ?a11 ?l11 ?c11 ?k11 ?a12 ?l12 ?c12 ?k12 ?a13 ?l13 ?c13 ?k13 ?a14 ?l14 ?c14 ?k14 ?a15 ?l15 ?c15 ?k15 ?a16 ?l16 ?c16 ?k16 ?a17 ?l17 ?c17 ?k17 ?a18 ?l18 ?c18 ?k18 ?a19 ?l19 ?c19 ?k19 ?a20 ?l20 ?c20 ?k20 ?a21 ?l21 ?c21 ?k21 ?a22 ?l22 ?c22 ?k22 ?a23 ?l23 ?c23 ?k23 ?a24 ?l24 ?c24 ?k24 ?a25 ?l25 ?c25 ?k25 ?a26 ?l26 ?c26 ?k26 ?a27 ?l27 ?c27 ?k27 ?a28 ?l28 ?c28 ?k28 ?a29 ?l29 ?c29 ?k29 ?a30 ?l30 ?c30 ?k30 ?a31 ?l31 ?c31 ?k31 ?a32 ?l32 ?c32 ?k32 ?a33 ?l33 ?c33 ?k33 ?a34 ?l34 ?c34 ?k34 ?a35 ?l35 ?c35 ?k35 ?a36 ?l36 ?c36 ?k36 ?a37 ?l37 ?c37 ?k37 ?a38 ?l38 ?c38 ?k38 ?a39 ?l39 ?c39 ?k39 ?a40 ?l40 ?c40 ?k40 ?a41 ?l41 ?c41 ?k41 ?a42 ?l42 ?c42 ?k42 ?a43 ?l43 ?c43 ?k43 ?a44 ?l44 ?c44 ?k44 ?a45 ?l45 ?c45 ?k45 ?a46 ?l46 ?c46 ?k46 ?a47 ?l47 ?c47 ?k47 ?a48 ?l48 ?c48 ?k48 ?a49 ?l49 ?c49 ?k49 ?a50 ?l50 ?c50 ?k50 ?a51 ?l51 ?c51 ?k51 ?a52 ?l52 ?c52 ?k52 ?a53 ?l53 ?c53 ?k53 ?a54 ?l54 ?c54 ?k54 ?a55 ?l55 ?c55 ?k55 ?a56 ?l56 ?c56 ?k56 ?a57 ?l57 ?c57 ?k57 ?a58 ?l58 ?c58 ?k58 ?i0 ?i1 ?i2 ?i3 ?i4 ?i5 ?i6 ?i7 ?i8 ?i9 ?u0 ?w0 ?u1 ?w1 ?u2 ?w2 ?n0 ?n1 ?n2 ?n3 ?n4 ?n5 ?n6 ?n7 ?n8 ?n9 ?n10 ?n11 ?n12 ?n13 ?n14 ?n15 ?s00 ?s10 ?s20 ?s30 ?e0C_NoPart ?e1C_NoPart ?e1bC_NoPart ?e2C_NoPart ?e3C_NoPart ?e4C_NoPart ?e5C_NoPart ?e6C_NoPart ?e7C_NoPart ?e8C_NoPart ?e9C_NoPart ?e10C_NoPart ?e11C_NoPart ?x1C_NoPart ?x2C_NoPart ?x3C_NoPart ?y1C_NoPart ?e0C_NoIns ?e1C_NoIns ?e1bC_NoIns ?e2C_NoIns ?e3C_NoIns ?e4C_NoIns ?e5C_NoIns ?e6C_NoIns ?e7C_NoIns ?e8C_NoIns ?e9C_NoIns ?e10C_NoIns ?e11C_NoIns ?x1C_NoIns ?x2C_NoIns ?x3C_NoIns ?y1C_NoIns ?daF0 ?dbF0 ?dcF0 ?ddF0 ?dkF0 ?deF0_0 ?deF0_1 ?deF0_2 ?deF0_3 ?deF0_4 ?daF1 ?dbF1 ?dcF1 ?ddF1 ?dkF1 ?deF1_0 ?deF1_1 ?deF1_2 ?deF1_3 ?deF1_4 ?deF1_5 ?deF1_6 ?deF1_7 ?deF1_8 ?deF1_9 ?daF2 ?dbF2 ?dcF2 ?ddF2 ?dkF2 ?deF2_0 ?deF2_1 ?deF2_2 ?deF2_3 ?deF2_4 ?deF2_5 ?deF2_6 ?deF2_7 ?deF2_8 ?deF2_9 ?daT0 ?dbT0 ?dcT0 ?ddT0 ?dkT0 ?deT0_0 ?dtT0_0 ?deT0_1 ?dtT0_1 ?deT0_2 ?dtT0_2 ?deT0_3 ?dtT0_3 ?deT0_4 ?dtT0_4 ?deT0_5 ?dtT0_5 ?deT0_6 ?dtT0_6 ?deT0_7 ?dtT0_7 ?deT0_8 ?dtT0_8 ?daT1 ?dbT1 ?dcT1 ?ddT1 ?dkT1 ?deT1_0 ?dtT1_0 ?deT1_1 ?dtT1_1 ?deT1_2 ?dtT1_2 ?deT1_3 ?dtT1_3 ?deT1_4 ?dtT1_4 ?deT1_5 ?dtT1_5 ?deT1_6 ?dtT1_6 ?wa_Worker ?wb_Worker ?wc_Worker ?wd_Worker ?we_Worker ?wf_Worker__part ?wf_Worker__kept ?wf_Worker__folded_last ?wg_Worker ?wh_Worker ?wi_Worker_init ?wj_Worker_init ?wk_Worker_init ?wl_Worker_init ?wm_Worker_init ?wi_Worker_part ?wj_Worker_part ?wk_Worker_part ?wl_Worker_part ?wm_Worker_part ?wi_Worker_sample ?wj_Worker_sample ?wk_Worker_sample ?wl_Worker_sample ?wm_Worker_sample ?wi_Worker_was_folded ?wj_Worker_was_folded ?wk_Worker_was_folded ?wl_Worker_was_folded ?wm_Worker_was_folded ?wi_Worker_stands ?wj_Worker_stands ?wk_Worker_stands ?wl_Worker_stands ?wm_Worker_stands ?wi_Worker_eq ?wj_Worker_eq ?wk_Worker_eq ?wl_Worker_eq ?wm_Worker_eq ?wo0_Worker ?wo1_Worker ?wo2_Worker ?wo3_Worker ?wo4_Worker ?wo5_Worker ?wo6_Worker ?wo7_Worker ?wo8_Worker
    (case a0 => k_is)
    (case l0 => k_is)
    (case c0 => k_is)
    (case k0 => k_is)
    (case a1 => k_is)
    (case l1 => k_is)
    (case c1 => k_is)
    (case k1 => k_is)
    (case a2 => k_is)
    (case l2 => k_is)
    (case c2 => k_is)
    (case k2 => k_is)
    (case a3 => k_is)
    (case l3 => k_is)
    (case c3 => k_is)
    (case k3 => k_is)
    (case a4 => k_is)
    (case l4 => k_is)
    (case c4 => k_is)
    (case k4 => k_is)
    (case a5 => k_is)
    (case l5 => k_is)
    (case c5 => k_is)
    (case k5 => k_is)
    (case a6 => k_is)
    (case l6 => k_is)
    (case c6 => k_is)
    (case k6 => k_is)
    (case a7 => k_is)
    (case l7 => k_is)
    (case c7 => k_is)
    (case k7 => k_is)
    (case a8 => k_is)
    (case l8 => k_is)
    (case c8 => k_is)
    (case k8 => k_is)
    (case a9 => k_is)
    (case l9 => k_is)
    (case c9 => k_is)
    (case k9 => k_is)
    (case a10 => k_is)
    (case l10 => k_is)
    (case c10 => k_is)
    (case k10 => k_is)
    (case a11 => k_is)
    (case l11 => k_is)
    (case c11 => k_is)
    (case k11 => k_is)
    (case a12 => k_is)
    (case l12 => k_is)
    (case c12 => k_is)
    (case k12 => k_is)
    (case a13 => k_is)
    (case l13 => k_is)
    (case c13 => k_is)
    (case k13 => k_is)
    (case a14 => k_is)
    (case l14 => k_is)
    (case c14 => k_is)
    (case k14 => k_is)
    (case a15 => k_is)
    (case l15 => k_is)
    (case c15 => k_is)
    (case k15 => k_is)
    (case a16 => k_is)
    (case l16 => k_is)
    (case c16 => k_is)
    (case k16 => k_is)
    (case a17 => k_is)
    (case l17 => k_is)
    (case c17 => k_is)
    (case k17 => k_is)
    (case a18 => k_is)
    (case l18 => k_is)
    (case c18 => k_is)
    (case k18 => k_is)
    (case a19 => k_is)
    (case l19 => k_is)
    (case c19 => k_is)
    (case k19 => k_is)
    (case a20 => k_is)
    (case l20 => k_is)
    (case c20 => k_is)
    (case k20 => k_is)
    (case a21 => k_is)
    (case l21 => k_is)
    (case c21 => k_is)
    (case k21 => k_is)
    (case a22 => k_is)
    (case l22 => k_is)
    (case c22 => k_is)
    (case k22 => k_is)
    (case a23 => k_is)
    (case l23 => k_is)
    (case c23 => k_is)
    (case k23 => k_is)
    (case a24 => k_is)
    (case l24 => k_is)
    (case c24 => k_is)
    (case k24 => k_is)
    (case a25 => k_is)
    (case l25 => k_is)
    (case c25 => k_is)
    (case k25 => k_is)
    (case a26 => k_is)
    (case l26 => k_is)
    (case c26 => k_is)
    (case k26 => k_is)
    (case a27 => k_is)
    (case l27 => k_is)
    (case c27 => k_is)
    (case k27 => k_is)
    (case a28 => k_is)
    (case l28 => k_is)
    (case c28 => k_is)
    (case k28 => k_is)
    (case a29 => k_is)
    (case l29 => k_is)
    (case c29 => k_is)
    (case k29 => k_is)
    (case a30 => k_is)
    (case l30 => k_is)
    (case c30 => k_is)
    (case k30 => k_is)
    (case a31 => k_is)
    (case l31 => k_is)
    (case c31 => k_is)
    (case k31 => k_is)
    (case a32 => k_is)
    (case l32 => k_is)
    (case c32 => k_is)
    (case k32 => k_is)
    (case a33 => k_is)
    (case l33 => k_is)
    (case c33 => k_is)
    (case k33 => k_is)
    (case a34 => k_is)
    (case l34 => k_is)
    (case c34 => k_is)
    (case k34 => k_is)
    (case a35 => k_is)
    (case l35 => k_is)
    (case c35 => k_is)
    (case k35 => k_is)
    (case a36 => k_is)
    (case l36 => k_is)
    (case c36 => k_is)
    (case k36 => k_is)
    (case a37 => k_is)
    (case l37 => k_is)
    (case c37 => k_is)
    (case k37 => k_is)
    (case a38 => k_is)
    (case l38 => k_is)
    (case c38 => k_is)
    (case k38 => k_is)
    (case a39 => k_is)
    (case l39 => k_is)
    (case c39 => k_is)
    (case k39 => k_is)
    (case a40 => k_is)
    (case l40 => k_is)
    (case c40 => k_is)
    (case k40 => k_is)
    (case a41 => k_is)
    (case l41 => k_is)
    (case c41 => k_is)
    (case k41 => k_is)
    (case a42 => k_is)
    (case l42 => k_is)
    (case c42 => k_is)
    (case k42 => k_is)
    (case a43 => k_is)
    (case l43 => k_is)
    (case c43 => k_is)
    (case k43 => k_is)
    (case a44 => k_is)
    (case l44 => k_is)
    (case c44 => k_is)
    (case k44 => k_is)
    (case a45 => k_is)
    (case l45 => k_is)
    (case c45 => k_is)
    (case k45 => k_is)
    (case a46 => k_is)
    (case l46 => k_is)
    (case c46 => k_is)
    (case k46 => k_is)
    (case a47 => k_is)
    (case l47 => k_is)
    (case c47 => k_is)
    (case k47 => k_is)
    (case a48 => k_is)
    (case l48 => k_is)
    (case c48 => k_is)
    (case k48 => k_is)
    (case a49 => k_is)
    (case l49 => k_is)
    (case c49 => k_is)
    (case k49 => k_is)
    (case a50 => k_is)
    (case l50 => k_is)
    (case c50 => k_is)
    (case k50 => k_is)
    (case a51 => k_is)
    (case l51 => k_is)
    (case c51 => k_is)
    (case k51 => k_is)
    (case a52 => k_is)
    (case l52 => k_is)
    (case c52 => k_is)
    (case k52 => k_is)
    (case a53 => k_is)
    (case l53 => k_is)
    (case c53 => k_is)
    (case k53 => k_is)
    (case a54 => k_is)
    (case l54 => k_is)
    (case c54 => k_is)
    (case k54 => k_is)
    (case a55 => k_is)
    (case l55 => k_is)
    (case c55 => k_is)
    (case k55 => k_is)
    (case a56 => k_is)
    (case l56 => k_is)
    (case c56 => k_is)
    (case k56 => k_is)
    (case a57 => k_is)
    (case l57 => k_is)
    (case c57 => k_is)
    (case k57 => k_is)
    (case a58 => k_is)
    (case l58 => k_is)
    (case c58 => k_is)
    (case k58 => k_is)
    (case i0 => k_is)
    (case i1 => k_is)
    (case i2 => k_is)
    (case i3 => k_is)
    (case i4 => k_is)
    (case i5 => k_is)
    (case i6 => k_is)
    (case i7 => k_is)
    (case i8 => k_is)
    (case i9 => k_is)
    (case u0 => k_is)
    (case w0 => k_is)
    (case u1 => k_is)
    (case w1 => k_is)
    (case u2 => k_is)
    (case w2 => k_is)
    (case n0 => k_is)
    (case n1 => k_is)
    (case n2 => k_is)
    (case n3 => k_is)
    (case n4 => k_is)
    (case n5 => k_is)
    (case n6 => k_is)
    (case n7 => k_is)
    (case n8 => k_is)
    (case n9 => k_is)
    (case n10 => k_is)
    (case n11 => k_is)
    (case n12 => k_is)
    (case n13 => k_is)
    (case n14 => k_is)
    (case n15 => k_is)
    (case s00 => k_is)
    (case s10 => k_is)
    (case s20 => k_is)
    (case s30 => k_is)
    (case e0C_NoPart => k_is)
    (case e1C_NoPart => k_is)
    (case e1bC_NoPart => decide +kernel)
    (case e2C_NoPart => k_is)
    (case e3C_NoPart => k_is)
    (case e4C_NoPart => k_is)
    (case e5C_NoPart => k_is)
    (case e6C_NoPart => k_is)
    (case e7C_NoPart => k_is)
    (case e8C_NoPart => k_is)
    (case e9C_NoPart => k_is)
    (case e10C_NoPart => k_is)
    (case e11C_NoPart => k_is)
    (case x1C_NoPart => k_is)
    (case x2C_NoPart => k_is)
    (case x3C_NoPart => k_is)
    (case y1C_NoPart => k_is)
    (case e0C_NoIns => k_is)
    (case e1C_NoIns => k_is)
    (case e1bC_NoIns => decide +kernel)
    (case e2C_NoIns => k_is)
    (case e3C_NoIns => k_is)
    (case e4C_NoIns => k_is)
    (case e5C_NoIns => k_is)
    (case e6C_NoIns => k_is)
    (case e7C_NoIns => k_is)
    (case e8C_NoIns => k_is)
    (case e9C_NoIns => k_is)
    (case e10C_NoIns => k_is)
    (case e11C_NoIns => k_is)
    (case x1C_NoIns => k_is)
    (case x2C_NoIns => k_is)
    (case x3C_NoIns => k_is)
    (case y1C_NoIns => k_is)
    (case daF0 => k_is)
    (case dbF0 => k_is)
    (case dcF0 => k_keys)
    (case ddF0 => rfl)
    (case dkF0 => rfl)
    (case deF0_0 => k_is)
    (case deF0_1 => k_is)
    (case deF0_2 => k_is)
    (case deF0_3 => k_is)
    (case deF0_4 => k_is)
    (case daF1 => k_is)
    (case dbF1 => k_is)
    (case dcF1 => k_keys)
    (case ddF1 => rfl)
    (case dkF1 => rfl)
    (case deF1_0 => k_is)
    (case deF1_1 => k_is)
    (case deF1_2 => k_is)
    (case deF1_3 => k_is)
    (case deF1_4 => k_is)
    (case deF1_5 => k_is)
    (case deF1_6 => k_is)
    (case deF1_7 => k_is)
    (case deF1_8 => k_is)
    (case deF1_9 => k_is)
    (case daF2 => k_is)
    (case dbF2 => k_is)
    (case dcF2 => k_keys)
    (case ddF2 => rfl)
    (case dkF2 => rfl)
    (case deF2_0 => k_is)
    (case deF2_1 => k_is)
    (case deF2_2 => k_is)
    (case deF2_3 => k_is)
    (case deF2_4 => k_is)
    (case deF2_5 => k_is)
    (case deF2_6 => k_is)
    (case deF2_7 => k_is)
    (case deF2_8 => k_is)
    (case deF2_9 => k_is)
    (case daT0 => k_is)
    (case dbT0 => k_is)
    (case dcT0 => k_keys)
    (case ddT0 => rfl)
    (case dkT0 => rfl)
    (case deT0_0 => k_is)
    (case dtT0_0 => k_is)
    (case deT0_1 => k_is)
    (case dtT0_1 => k_is)
    (case deT0_2 => k_is)
    (case dtT0_2 => k_is)
    (case deT0_3 => k_is)
    (case dtT0_3 => k_is)
    (case deT0_4 => k_is)
    (case dtT0_4 => k_is)
    (case deT0_5 => k_is)
    (case dtT0_5 => k_is)
    (case deT0_6 => k_is)
    (case dtT0_6 => k_is)
    (case deT0_7 => k_is)
    (case dtT0_7 => k_is)
    (case deT0_8 => k_is)
    (case dtT0_8 => k_is)
    (case daT1 => k_is)
    (case dbT1 => k_is)
    (case dcT1 => k_keys)
    (case ddT1 => rfl)
    (case dkT1 => rfl)
    (case deT1_0 => k_is)
    (case dtT1_0 => k_is)
    (case deT1_1 => k_is)
    (case dtT1_1 => k_is)
    (case deT1_2 => k_is)
    (case dtT1_2 => k_is)
    (case deT1_3 => k_is)
    (case dtT1_3 => k_is)
    (case deT1_4 => k_is)
    (case dtT1_4 => k_is)
    (case deT1_5 => k_is)
    (case dtT1_5 => k_is)
    (case deT1_6 => k_is)
    (case dtT1_6 => k_is)
    (case wa_Worker => k_is)
    (case wb_Worker => k_is)
    (case wc_Worker => k_is)
    (case wd_Worker => k_is)
    (case we_Worker => k_is)
    (case wf_Worker__part => k_is)
    (case wf_Worker__kept => k_is)
    (case wf_Worker__folded_last => k_is)
    (case wg_Worker => k_is)
    (case wh_Worker => k_is)
    (case wi_Worker_init => k_is)
    (case wj_Worker_init => k_is)
    (case wk_Worker_init => k_is)
    (case wl_Worker_init => k_is)
    (case wm_Worker_init => k_is)
    (case wi_Worker_part => k_is)
    (case wj_Worker_part => k_is)
    (case wk_Worker_part => k_is)
    (case wl_Worker_part => k_is)
    (case wm_Worker_part => k_is)
    (case wi_Worker_sample => k_is)
    (case wj_Worker_sample => k_is)
    (case wk_Worker_sample => k_is)
    (case wl_Worker_sample => k_is)
    (case wm_Worker_sample => k_is)
    (case wi_Worker_was_folded => k_is)
    (case wj_Worker_was_folded => k_is)
    (case wk_Worker_was_folded => k_is)
    (case wl_Worker_was_folded => k_is)
    (case wm_Worker_was_folded => k_is)
    (case wi_Worker_stands => k_is)
    (case wj_Worker_stands => k_is)
    (case wk_Worker_stands => k_is)
    (case wl_Worker_stands => k_is)
    (case wm_Worker_stands => k_is)
    (case wi_Worker_eq => k_is)
    (case wj_Worker_eq => k_is)
    (case wk_Worker_eq => k_is)
    (case wl_Worker_eq => k_is)
    (case wm_Worker_eq => k_is)
    (case wo0_Worker => k_is)
    (case wo1_Worker => k_is)
    (case wo2_Worker => k_is)
    (case wo3_Worker => k_is)
    (case wo4_Worker => kit_is)
    (case wo5_Worker => kit_is)
    (case wo6_Worker => kit_is)
    (case wo7_Worker => k_is)
    (case wo8_Worker => k_is)
  case S =>
    intro K H a ns hl hS
    exact ⟨a, ns, rfl, hS, Nat.le_trans hl (by decide), fun _ => rfl⟩
