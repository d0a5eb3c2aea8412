import PyProof.Rows.All
import Wide.All
import OpenK.AllK
import Wide.FinOn
import PyProof.EqAt
import PyProof.EqKinds
import PyProof.TupleCall
import HandS.ForMost
import HandS.ForExc
import HandS.Evl
import HandS.Steps
import HandS.Wide
import HandS.WideBits
import HandS.IsInst
import HandS.Defaults
import HandS.TryMany
import HandS.ExcField
import HandS.ExcIs
import HandS.ExcInit
import HandS.RaiseMore
import HandS.TupAny
import HandS.TupLe
import HandS.Style
import HandS.Flow
import HandS.ClsMeth
import KE.KExcIs
import HandS.Walk
import HandS.Ends
import PySem.Challenge.RW_cordsounds_k01_kinds_of_anything
set_option Elab.async false
set_option linter.all false
set_option maxRecDepth 100000
set_option maxHeartbeats 4000000
namespace Gx
open PySem PySem.Spec PyProof.Rows L2

/-! ### defs that are called where no repr is under way -/
structure FnG (P : Program) (w : World) (K : PySem.W.Frag) (mg : Str → Option Value) (base : Heap) (CX : CXT) (k : Nat) (f : Addr) (fd : FuncData) (ps : List Str) (sp : Sp) : Prop where
  len : ∀ vs H Q E, sp vs H Q E → vs.length = ps.length
  go : ∀ (A : Around) (outer : List Env) (s : Shared) (H : Hp) (args : Args) (us : List Value) (vs : List V) (Q : VK) (E : XK),
    A.guards = some [] → Room k A → Env0 P w K mg base A outer s H → BindsTo s fd args (ps.zip us) →
    Vals vs us → sp vs H Q E → codeAny (model P w) A (.call (.ref f) args) (CR CX outer P w H s Q E) s
section
variable {P : Program} {w : World} {K : PySem.W.Frag} {mg : Str → Option Value} {base : Heap} {CX : CXT} {k : Nat} {f : Addr}
  {fd : FuncData} {ps : List Str} {sp : Sp}
theorem FnG.of (F : FnOk P w K mg base CX k f fd ps sp) : FnG P w K mg base CX k f fd ps sp :=
  ⟨F.len, fun A o s H args us vs Q E _ => F.run A o s H args us vs Q E⟩
theorem FnG.up (F : FnG P w K mg base CX k f fd ps sp) {j : Nat} (h : k ≤ j) : FnG P w K mg base CX j f fd ps sp :=
  ⟨F.len, fun A o s H args us vs Q E g hr => F.go A o s H args us vs Q E g (hr.mono h)⟩
/-- a def of the text by its body's reading -/
theorem fnG {x qual : Str} {st : Stmt} {N : List Str} (F : Fun K x qual st f fd) (S : FnScope N ps (defScope st)) (len : ∀ vs H Q E, sp vs H Q E → vs.length = ps.length)
    (body : ∀ (cdv : Value) (A : Around) (outer : List Env) (s : Shared) (H : Hp) (vs : List V) (Q : VK) (E : XK),
      A.guards = some [] → Room k (A.deeper (envOfC qual (defScope st) s.heap.objs.size f cdv)) → sp vs H Q E →
      ∃ t, PSs (cxOf CX P w K mg base N qual (defScope st) f cdv A outer s H E) (defBody st) t ∧
        t { nx := fun _ H' => Q .non H', rt := Q } (start N vs) H) :
    FnG P w K mg base CX (k + 1) f fd ps sp := by
  obtain ⟨oc, od, kV, doc, pm, an, cdv, ct, osl, rfl, lk, hcd⟩ := F.ex
  refine ⟨len, fun A outer s H args us vs Q E hg hr e0 hb r hsp => ?_⟩
  have keep := fun b o e => (e0.bs b o e).1
  refine Att.call_fn (e0.mod.kin.keeps keep) (e0.mod.nolimit.keeps keep) lk hcd hr.depth hb ?_ (fun s1 x => ?_) S.co S.gen S.kind
  · rw [List.all_eq_true]
    rintro ⟨n, v⟩ hy
    rcases S.par n (List.of_mem_zip hy).1 with q | q <;> simp [q]
  · obtain ⟨t, ht, hq⟩ := body cdv A outer s H vs Q E hg (hr.deeper _) hsp
    have I := inv_start (CX := CX) (E := E) S hr.hd e0 (len _ _ _ _ hsp) r x
    refine wpAny_mono (ht.run [] s1 (start N vs) H _ I hq) ?_ (fun e s' z => z)
    intro fl s' hs
    cases fl with
    | ret u =>
      obtain ⟨v, _, H', J, rv, q⟩ := hs
      exact ⟨v, H', J.os, J.bare, J.base, J.hok, rv, q⟩
    | next =>
      obtain ⟨_, H', J, q⟩ := hs
      exact ⟨.non, H', J.os, J.bare, J.base, J.hok, rfl, q⟩
    | brk => exact hs.elim fun _ z => z.elim fun _ z => z.2.elim
    | cont => exact hs.elim fun _ z => z.elim fun _ z => z.2.elim
end

/-! ### calls of module functions -/
/-- a def of the module as its callers see it -/
structure Cal (P : Program) (w : World) (K : PySem.W.Frag) (mg : Str → Option Value) (base : Heap) (CX : CXT) (k : Nat) (x : Str) (ps : List Str) (sp : Sp) : Prop where
  ex : ∃ f fd, FnG P w K mg base CX k f fd ps sp ∧ mg x = some (.ref f) ∧ PySem.W.keepIn K (.ref f) = true ∧ Binds K fd ps []
/-- the same with keywords: ks the names as they are written, g puts their values into the parameters' order -/
structure CalK (P : Program) (w : World) (K : PySem.W.Frag) (mg : Str → Option Value) (base : Heap) (CX : CXT) (k : Nat) (x : Str) (ps : List Str) (sp : Sp) (ks : List Str) (gV : List V → List V → List V) : Prop where
  ex : ∃ f fd g, FnG P w K mg base CX k f fd ps sp ∧ mg x = some (.ref f) ∧ PySem.W.keepIn K (.ref f) = true ∧ KBinds K fd ps ks g gV
def tG (sp : Sp) (E : L2.St → XK) (t : TA) : TE := fun σ H Q => t σ H fun vs H1 => sp vs H1 Q (E σ)
def tK (sp : Sp) (gV : List V → List V → List V) (E : L2.St → XK) (t : TA) : TE := fun σ H Q => t σ H fun zs H1 => sp (gV [] zs) H1 Q (E σ)
section
variable {X : Cx} {CX : CXT} {k : Nat} {ps ks : List Str} {sp : Sp} {x : Str} {p pos : Pos} {e : Expr} {es : List Expr} {kws : List Keyword} {t : TA} {E : L2.St → XK}
theorem pe_g (C : Cal X.prog X.w X.K X.mg X.base CX k x ps sp) (hG : X.A.guards = some []) (hr : Room k X.A) (hx : ∀ σ, PassesAt CX X σ (E σ)) (ha : PA X (e :: es) t)
    (hg : Gl X x := by rfl) (hdb : (x == ("__debug__" : Str)) = false := by decide)
    (he : starEach (e :: es) X.env = (false, eval e X.env) :: starEach es X.env := by rfl)
    (hpl : (backTo pos (starEach es X.env)).any (·.1) = false := by rfl) : PE X (.Call (.Name x p) (e :: es) [] pos) (tG sp E t) := by
  obtain ⟨f, fd, F, hm, hk, hb⟩ := C.ex
  refine ⟨fun pins s σ H Q I h => wpAny_Call_Name_kw (ld_glob I hg hm ?_ hdb)⟩
  refine PySem.W.callWith_K (h₀ := X.base) I.ok.mod.kin hk ?_ he hpl
  refine thn (ha.run pos pins s σ H _ I h) ?_
  rintro us s1 ⟨vs, H1, I1, r, q⟩
  refine ⟨I1.kIn, ?_⟩
  have hl : us.length = ps.length := r.length.symm.trans (F.len _ _ _ _ q)
  have b := hb s1 us I1.kIn (by simpa using hl)
  rw [List.append_nil] at b
  refine wpAny_call (codeAny_mono (F.go X.A X.stack s1 H1 ⟨us, []⟩ us vs Q (E σ) hG hr I1.env0 b r q) ?_)
  intro r s' hq
  match r, hq with
  | .error e, hq => exact hx σ pins H1 s1 e s' I1 hq
  | .ok (.ret u), hq => exact I1.after hq
  | .ok .next, hq => exact hq.elim
  | .ok .brk, hq => exact hq.elim
  | .ok .cont, hq => exact hq.elim
theorem pe_k {gV : List V → List V → List V} (C : CalK X.prog X.w X.K X.mg X.base CX k x ps sp ks gV) (hG : X.A.guards = some []) (hr : Room k X.A) (hx : ∀ σ, PassesAt CX X σ (E σ)) (hkw : PK X kws t)
    (hg : Gl X x := by rfl) (hall : (backToKw pos (keywordEach kws X.env)).all (·.1.isSome) = true := by rfl)
    (hks : (backToKw pos (keywordEach kws X.env)).filterMap (·.1) = ks := by rfl) (hdb : (x == ("__debug__" : Str)) = false := by decide)
    (hpl : ((backTo pos (starEach [] X.env)).any (·.1) || (backToKw pos (keywordEach kws X.env)).any (·.1.isNone)) = false := by rfl) :
    PE X (.Call (.Name x p) [] kws pos) (tK sp gV E t) := by
  obtain ⟨f, fd, g, F, hm, hk, hb⟩ := C.ex
  refine ⟨fun pins s σ H Q I h => wpAny_Call_Name_kw (ld_glob I hg hm ?_ hdb)⟩
  refine PySem.W.callWith_KW0 (h₀ := X.base) I.ok.mod.kin hk hall ?_ hpl
  refine thn (hkw.run pos pins s σ H _ I h) ?_
  rintro ws s1 ⟨zs, H1, I1, rz, q⟩
  refine ⟨I1.kIn, ?_⟩
  rw [hks]
  have r2 := hb.rel (vs := []) (us := []) .nil rz
  have hl : (g [] ws).length = ps.length := r2.length.symm.trans (F.len _ _ _ _ q)
  refine wpAny_call (codeAny_mono (F.go X.A X.stack s1 H1 ⟨[], ks.zip ws⟩ (g [] ws) _ Q (E σ) hG hr I1.env0 (hb.to s1 [] ws I1.kIn hl) r2 q) ?_)
  intro r s' hq
  match r, hq with
  | .error e, hq => exact hx σ pins H1 s1 e s' I1 hq
  | .ok (.ret u), hq => exact I1.after hq
  | .ok .next, hq => exact hq.elim
  | .ok .brk, hq => exact hq.elim
  | .ok .cont, hq => exact hq.elim
theorem passS {σ : L2.St} : PassesAt (L2.CX X.prog X.w) X σ E0 := fun pins H s e s' I c => passL pins σ H s e s' I c
end

/-! ### what a value shows: repr -/
mutual
/-- v is the datum, over the tracked heap -/
def IsD (H : Hp) : PyData → V → Prop
  | .none, v => v = .non
  | .bool b, v => v = .bl b
  | .int i, v => v = .int i
  | .str x, v => v = .str x
  | .list ds, v => ∃ a xs, v = .ref a ∧ H a = some (.lst xs) ∧ AllD H ds xs
  | .tuple ds, v => ∃ a xs, v = .ref a ∧ H a = some (.tup xs) ∧ AllD H ds xs
  | .dict kvs, v => ∃ a es, v = .ref a ∧ H a = some (.dK es) ∧ DctD H kvs es
def AllD (H : Hp) : List PyData → List V → Prop
  | [], xs => xs = []
  | d :: ds, xs => ∃ x r, xs = x :: r ∧ IsD H d x ∧ AllD H ds r
def DctD (H : Hp) : List (PyData × PyData) → List (Key × V) → Prop
  | [], es => es = []
  | (k, d) :: r, es => ∃ y z es', es = (y, z) :: es' ∧ IsD H k (kV y) ∧ IsD H d z ∧ DctD H r es'
end
section
variable {P : Program} {w : World} {H : Hp} {h : Heap}
mutual
theorem reads_of (ok : HOk P w H h) : ∀ (d : PyData) (v : V) (u : Value), d.hasDict = false → IsD H d v → RelV v u → ∃ as, Reads h u d as
  | .none, v, u, _, i, r => by
    unfold IsD at i
    subst i
    obtain rfl : u = Value.none := r
    exact ⟨_, .none⟩
  | .bool b, v, u, _, i, r => by
    unfold IsD at i
    subst i
    obtain rfl : u = Value.bool b := r
    exact ⟨_, .bool b⟩
  | .int n, v, u, _, i, r => by
    unfold IsD at i
    subst i
    obtain ⟨t, rfl⟩ : ∃ t, u = Value.int n t := r
    exact ⟨_, .int n t⟩
  | .str x, v, u, _, i, r => by
    unfold IsD at i
    subst i
    obtain ⟨t, rfl⟩ : ∃ t, u = Value.str x t := r
    exact ⟨_, .str x t⟩
  | .list ds, v, u, hd, i, r => by
    unfold IsD at i
    obtain ⟨a, xs, rfl, ha, hs⟩ := i
    obtain rfl : u = Value.ref a := r
    obtain ⟨_, its, n, rv, ho⟩ : ObjOk P w H h a (.lst xs) := ok a _ ha
    obtain ⟨as, q⟩ := readsAll_of ok ds xs its (by simpa [PyData.hasDict] using hd) hs rv
    exact ⟨_, .list ho rfl rfl q⟩
  | .tuple ds, v, u, hd, i, r => by
    unfold IsD at i
    obtain ⟨a, xs, rfl, ha, hs⟩ := i
    obtain rfl : u = Value.ref a := r
    obtain ⟨_, its, rv, o, ho, hc, n, hdt⟩ : ObjOk P w H h a (.tup xs) := ok a _ ha
    obtain ⟨as, q⟩ := readsAll_of ok ds xs its (by simpa [PyData.hasDict] using hd) hs rv
    exact ⟨_, .tuple ho hc hdt q⟩
  | .dict kvs, v, u, hd, i, r => by simp [PyData.hasDict] at hd
theorem readsAll_of (ok : HOk P w H h) : ∀ (ds : List PyData) (xs : List V) (us : List Value), PyData.hasDictAll ds = false → AllD H ds xs → Vals xs us → ∃ as, ReadsAll h us ds as
  | [], xs, us, _, i, r => by
    unfold AllD at i
    subst i
    cases r
    exact ⟨_, .nil⟩
  | d :: ds, xs, us, hd, i, r => by
    unfold AllD at i
    obtain ⟨x, t, rfl, i1, i2⟩ := i
    cases r with
    | cons r1 r2 =>
      have hd' : d.hasDict = false ∧ PyData.hasDictAll ds = false := by simpa [PyData.hasDictAll] using hd
      obtain ⟨as, q1⟩ := reads_of ok d x _ hd'.1 i1 r1
      obtain ⟨bs, q2⟩ := readsAll_of ok ds t _ hd'.2 i2 r2
      exact ⟨_, .cons q1 q2⟩
end
end
end Gx
set_option linter.all false
set_option maxRecDepth 100000
set_option maxHeartbeats 4000000
namespace Gx
open PySem PySem.Spec PyProof.Rows L2
section
variable {X : Cx}
/-- what repr asks: the one value as a datum without dicts -/
def rShow : List V → Hp → VK → Prop := fun xs H Q => ∃ v d, xs = [v] ∧ IsD H d v ∧ d.hasDict = false ∧ d.showable = true ∧ d.depth ≤ 20 ∧ d.shown.length ≤ sizeLine ∧ Q (.str d.shown) H
theorem call_show (hG : X.A.guards = some []) (hu : X.A.units + 64 < cLine) : CallR X (.builtin "repr") rShow := by
  intro pins s σ H xs us Q I r h
  obtain ⟨v, d, rfl, hd, hn, hs, hp, hl, q⟩ := h
  obtain ⟨u, rfl, ru⟩ : ∃ u, us = [u] ∧ RelV v u := by
    cases r with
    | cons r1 r2 => cases r2; exact ⟨_, rfl, r1⟩
  have big : ∀ a, u = Value.ref a → wpAny (model X.prog X.w) X.A (call (.builtin "repr") [u]) (EP X pins σ Q) X.xe s := by
    rintro a rfl
    obtain ⟨as, rd⟩ := reads_of I.hok d v _ hn hd ru
    refine repr_of_reads' rd hs (PyData.noDict_hsm hn) hG (by omega) (fun _ _ z => z) ?_ hl
    intro h' t tk keep
    exact ⟨.str d.shown, H, I.kept (t' := tk) keep, ⟨t, rfl⟩, q⟩
  cases d with
  | none =>
    unfold IsD at hd
    subst hd
    obtain rfl : u = Value.none := ru
    exact PySem.P.repr_of_none ⟨.str _, H, I.tok _, ⟨_, rfl⟩, by simpa only [PyData.shown] using q⟩
  | bool b =>
    unfold IsD at hd
    subst hd
    obtain rfl : u = Value.bool b := ru
    refine PySem.P.repr_of_bool ⟨.str _, H, I.tok _, ⟨_, rfl⟩, ?_⟩
    simpa only [PyData.shown] using q
  | int i =>
    unfold IsD at hd
    subst hd
    obtain ⟨t, rfl⟩ : ∃ t, u = Value.int i t := ru
    have hz : i.natAbs.log2 < 1920 := by simpa [PyData.showable] using hs
    refine PySem.P.repr_of_int hz ⟨.str _, H, I.tok _, ⟨_, rfl⟩, ?_⟩
    simpa only [PyData.shown] using q
  | str x =>
    unfold IsD at hd
    subst hd
    obtain ⟨t, rfl⟩ : ∃ t, u = Value.str x t := ru
    have hl' : (reprText x).length ≤ sizeLine := by simpa only [PyData.shown] using hl
    refine PySem.P.repr_of_str ⟨.str _, H, I.tok _, ⟨_, rfl⟩, ?_⟩ hl'
    simpa only [PyData.shown] using q
  | list ds =>
    unfold IsD at hd
    obtain ⟨a, ys, rfl, _⟩ := hd
    exact big a ru
  | tuple ds =>
    unfold IsD at hd
    obtain ⟨a, ys, rfl, _⟩ := hd
    exact big a ru
  | dict kvs => simp [PyData.hasDict] at hn
end

/-! ### exceptions whose __init__ calls that of an own class above -/
/-- S.__init__ is ValueError's, S an own class -/
structure UpC (K : PySem.W.Frag) (mg : Str → Option Value) (x : Str) (S : Addr) : Prop where
  gl : mg x = some (.ref S)
  ga : PySem.W.specialIn K (.ref S) "__getattribute__" = some (some (.builtin "type.__getattribute__"))
  rd : PySem.W.readsIn K S (.type "type") = true
  vl : PySem.W.findCls K (.ref S) (.type "type") "__init__" = some (.val (.builtin "ValueError.__init__"))
section
variable {X : Cx} {x : Str} {S : Addr} {e : Expr} {es : List Expr} {ta : TA} {p1 p2 pos : Pos}
theorem pe_upinit {pl : Sem Bool} (U : UpC X.K X.mg x S) (ha : PA X (e :: es) ta) (hg : Gl X x := by rfl)
    (hc : eval (.Call (.Attribute (.Name x p1) "__init__" p2) (e :: es) [] pos) X.env = (do
      let o ← eval (.Name x p1) X.env
      standAt p2.atName
      let (f, first) ← holding [o] (getMethod o "__init__" pl)
      callWith pos f first (backTo pos (starEach (e :: es) X.env)) (backToKw pos (keywordEach [] X.env))) := by rfl)
    (hdb : (x == ("__debug__" : Str)) = false := by decide)
    (he : starEach (e :: es) X.env = (false, eval e X.env) :: starEach es X.env := by rfl)
    (hpl : (backTo pos (starEach es X.env)).any (·.1) = false := by rfl) :
    PE X (.Call (.Attribute (.Name x p1) "__init__" p2) (e :: es) [] pos) (tVeI X.K ta) := by
  refine ⟨fun pins s σ H Q I h => PySem.W.methodCall_KW (ld_glob I hg U.gl ?_ hdb) hc⟩
  refine PySem.W.method_cls I.kIn U.ga (PySem.W.cls_value I.kIn U.rd U.vl (by decide +kernel) ?_)
  show wpAny _ _ (callWith pos (Value.builtin "ValueError.__init__") [] (backTo pos (starEach (e :: es) X.env)) []) _ _ _
  refine PyProof.Rows.callWith_method1 (thn (ha.run pos pins _ σ H _ (I.tok _) h) ?_) he hpl
  rintro us s1 ⟨vs, H1, I1, r1, a, C, ws, rfl, hl, T, ea, q⟩
  cases r1 with
  | @cons _ u0 _ ur ra rest =>
    obtain rfl : u0 = Value.ref a := ra
    refine oinit_ok T I1 ea ?_ fun s' J => ⟨.non, H1, J, rfl, q⟩
    have := Paired.length rest
    rw [sizeLine_eq]
    omega
end
end Gx
set_option linter.all false
set_option maxRecDepth 100000
set_option maxHeartbeats 4000000
namespace Gx
open PySem PySem.Spec PyProof.Rows L2
/-! ### readings, step by step -/
section
variable {K : PySem.W.Frag} {σ : L2.St} {H : Hp} {Q : VK} {D : Ends} {ta tb tc te to ti : TE} {tt tu : TT} {t u : TS} {g : TG} {r r' : R2} {v x y : V} {i : Nat} {al : TA} {QB : Bool → Hp → Prop} {QL : List V → Hp → Prop} {QS : L2.St → Hp → Prop}
theorem r_var (h : σ[i]? = some (some v)) (q : Q v H) : tVar i σ H Q := ⟨v, h, q⟩
theorem r_c (q : Q v H) : tC v σ H Q := q
theorem r_op (h : ta σ H fun x H1 => tb σ H1 fun y H2 => r x y H2 Q) : tOp r ta tb σ H Q := h
theorem r_un {f : V → Hp → VK → Prop} (h : ta σ H fun x H1 => f x H1 Q) : tUn f ta σ H Q := h
theorem r_I0 {f : Int → Int → V} {a b : Int} (q : Q (f a b) H) : rI0 f (.int a) (.int b) H Q := ⟨a, b, rfl, rfl, q⟩
theorem r_I {C : Int → Int → Prop} {f : Int → Int → V} {a b : Int} (hc : C a b) (q : Q (f a b) H) : rI C f (.int a) (.int b) H Q := ⟨a, b, rfl, rfl, hc, q⟩
theorem r_fdivK {f : Int → Int → V} {a b : Int} (hc : decide (0 < b ∧ b < 1073741824) = true) (q : Q (f a b) H) : rI CDiv f (.int a) (.int b) H Q := ⟨a, b, rfl, rfl, (of_decide_eq_true hc : 0 < b ∧ b < 1073741824), q⟩
theorem r_modK {f : Int → Int → V} {a b : Int} (hc : decide (0 < b) = true) (q : Q (f a b) H) : rI (fun _ j => 0 < j) f (.int a) (.int b) H Q := ⟨a, b, rfl, rfl, of_decide_eq_true hc, q⟩
theorem r_mulL {f : Int → Int → V} {a b : Int} (hc : decide (-(2 ^ 64) < a ∧ a < 2 ^ 64) = true) (q : Q (f a b) H) : rI CMul f (.int a) (.int b) H Q := ⟨a, b, rfl, rfl, .inl (of_decide_eq_true hc), q⟩
theorem r_mulR {f : Int → Int → V} {a b : Int} (hc : decide (-(2 ^ 64) < b ∧ b < 2 ^ 64) = true) (q : Q (f a b) H) : rI CMul f (.int a) (.int b) H Q := ⟨a, b, rfl, rfl, .inr (of_decide_eq_true hc), q⟩
theorem r_powK {f : Int → Int → V} {a b : Int} (hc : decide (0 ≤ b ∧ b ≤ 1000000 ∧ a.natAbs < 2 ^ 64) = true) (q : Q (f a b) H) : rI CPow f (.int a) (.int b) H Q := ⟨a, b, rfl, rfl, (of_decide_eq_true hc : 0 ≤ b ∧ b ≤ 1000000 ∧ a.natAbs < 2 ^ 64), q⟩
theorem r_neg {f : Int → V} {a : Int} (q : Q (f a) H) : rU f (.int a) H Q := ⟨a, rfl, q⟩
theorem r_eq (hs : scal x y = true) (q : Q (.bl (decide (x = y))) H) : rEq x y H Q := ⟨hs, q⟩
theorem r_ne (hs : scal x y = true) (q : Q (.bl (!decide (x = y))) H) : rNe x y H Q := ⟨hs, q⟩
theorem r_test (h : ta σ H fun x H' => ∃ k, x = .bl k ∧ QB k H') : tTest ta σ H QB := h
theorem r_B (h : ta σ H fun x H' => ∃ k, x = .bl k ∧ QB k H') : L2.tB ta σ H QB := h
theorem r_bl {b : Bool} (q : QB b H) : ∃ k, V.bl b = V.bl k ∧ QB k H := ⟨b, rfl, q⟩
theorem r_blx {b : Bool} {X : Bool → Prop} (q : X b) : ∃ k, V.bl b = V.bl k ∧ X k := ⟨b, rfl, q⟩
theorem r_seq (h : t { D with nx := u D } σ H) : tSeq t u D σ H := h
theorem r_ret (h : te σ H D.rt) : tRet te D σ H := h
theorem r_asg (h : te σ H fun x H1 => g x σ H1 D.nx) : tAsg te g D σ H := h
theorem r_name (q : QS (σ.set i (some v)) H) : gName i v σ H QS := q
theorem r_gsub {ts : TSet} (h : to σ H fun o H1 => ti σ H1 fun j H2 => ts o j v H2 fun H3 => QS σ H3) : gSub to ti ts v σ H QS := h
theorem r_setL {p : Addr} {xs : List V} {j : Nat} {k : Int} {QH : Hp → Prop} (h : H p = some (.lst xs)) (hj : ixN xs.length k = some j) (q : QH (upd H p (.lst (xs.set j v)))) : rSetL (.ref p) (.int k) v H QH :=
  ⟨p, xs, k, j, rfl, rfl, h, hj, q⟩
theorem r_if (h : tt σ H fun b H1 => if b = true then t D σ H1 else u D σ H1) : tIfS tt t u D σ H := h
theorem r_next (q : D.nx σ H) : tNext D σ H := q
theorem r_drop (h : te σ H fun _ H1 => D.nx σ H1) : tDrop te D σ H := h
theorem r_cb {f : List V → Hp → VK → Prop} (h : al σ H fun vs H1 => f vs H1 Q) : tCB f al σ H Q := h
theorem r_nil (q : QL [] H) : tNil σ H QL := q
theorem r_cons (h : te σ H fun x H1 => al σ H1 fun xs H2 => QL (x :: xs) H2) : tCons te al σ H QL := h
theorem r_g {sp : Sp} {E : L2.St → XK} (h : al σ H fun vs H1 => sp vs H1 Q (E σ)) : tG sp E al σ H Q := h
theorem r_k {sp : Sp} {gV : List V → List V → List V} {E : L2.St → XK} (h : al σ H fun zs H1 => sp (gV [] zs) H1 Q (E σ)) : tK sp gV E al σ H Q := h
theorem r_lst (h : al σ H fun xs H1 => xs.length ≤ sizeLine ∧ ∀ p, H1 p = none → Q (.ref p) (upd H1 p (.lst xs))) : tLst al σ H Q := h
theorem r_tup (h : al σ H fun xs H1 => xs.length ≤ sizeLine ∧ ∀ p, H1 p = none → Q (.ref p) (upd H1 p (.tup xs))) : tTup al σ H Q := h
theorem r_new {xs : List V} {C : Addr → Prop} (hz : Nat.ble xs.length 1000 = true) (q : ∀ p, H p = none → C p) : xs.length ≤ sizeLine ∧ ∀ p, H p = none → C p := ⟨Nat.le_trans (Nat.le_of_ble_eq_true hz) (by decide), q⟩
theorem at_pos {α : Type} {xs : List α} {d : Int} (h0 : 0 ≤ d) (h : d.toNat < xs.length) : atI xs d = some xs[d.toNat] := by
  have q := atI_nat (xs := xs) (j := d.toNat) (v := xs[d.toNat]) (List.getElem?_eq_getElem h)
  rwa [Int.toNat_of_nonneg h0] at q
theorem r_ixL {p : Addr} {xs : List V} {a : Int} {j : Nat} (h : SqL K H p xs) (ha : a = (j : Int)) (hx : xs[j]? = some v) (q : Q v H) : rIxL K (.ref p) (.int a) H Q := ⟨p, xs, a, v, rfl, rfl, h, at_of ha hx, q⟩
theorem r_ixLs {p : Addr} {xs : List V} {a : Int} {j : Nat} (h : H p = some (.lst xs)) (ha : a = (j : Int)) (hx : xs[j]? = some v) (q : Q v H) : rIxL K (.ref p) (.int a) H Q := r_ixL (SqL.of h) ha hx q
theorem r_andV (h : ta σ H fun x H1 => ∃ c, x = .bl c ∧ if c = true then tb σ H1 Q else Q (.bl false) H1) : tAndV ta tb σ H Q := h
theorem r_orV (h : ta σ H fun x H1 => ∃ c, x = .bl c ∧ if c = true then Q (.bl true) H1 else tb σ H1 Q) : tOrV ta tb σ H Q := h
theorem r_notV (h : ta σ H fun x H1 => ∃ c, x = .bl c ∧ Q (.bl (!c)) H1) : tNotV ta σ H Q := h
theorem r_ifE (h : tt σ H fun c H1 => if c = true then ta σ H1 Q else tb σ H1 Q) : tIf tt ta tb σ H Q := h
theorem r_and (h : tt σ H fun b H1 => if b = true then tu σ H1 QB else QB false H1) : tAnd tt tu σ H QB := h
theorem r_or (h : tt σ H fun b H1 => if b = true then QB true H1 else tu σ H1 QB) : tOr tt tu σ H QB := h
theorem r_not (h : tt σ H fun b H1 => QB (!b) H1) : tNot tt σ H QB := h
theorem r_chain (h : ta σ H fun x H1 => tb σ H1 fun y H2 => r x y H2 fun z H3 => ∃ k, z = .bl k ∧ (if k = true then tc σ H3 fun w H4 => r' y w H4 Q else Q (.bl false) H3)) : tChain r r' ta tb tc σ H Q := h
theorem r_sl {f : V → Option Int → Option Int → Hp → VK → Prop} {tl th : TO} (h : te σ H fun x H1 => tl σ H1 fun l H2 => th σ H2 fun u H3 => f x l u H3 Q) : tSl f te tl th σ H Q := h
theorem r_part {QO : Option Int → Hp → Prop} (h : te σ H fun x H1 => ∃ i, x = .int i ∧ QO (some i) H1) : tPart te σ H QO := h
theorem r_nop {QO : Option Int → Hp → Prop} (h : QO none H) : tNoPart σ H QO := h
theorem r_nx {a b c : L2.St → Hp → Prop} {d : VK} (q : a σ H) : (Ends.mk a d b c).nx σ H := q
theorem r_rt {a b c : L2.St → Hp → Prop} {d : VK} (q : d v H) : (Ends.mk a d b c).rt v H := q
theorem r_ct {a b c : L2.St → Hp → Prop} {d : VK} (q : c σ H) : (Ends.mk a d b c).ct σ H := q
theorem r_ei {b : Int} {X : Int → Prop} (q : X b) : ∃ k, V.int b = V.int k ∧ X k := ⟨b, rfl, q⟩
end
/-! ### the box -/
/-- a box that was drawn from n times at most stands at b -/
def Bx (n : Nat) (H : Hp) (b : Addr) : Prop := ∃ x y z : Int, H b = some (.lst [.int x, .int y, .int z]) ∧ 0 ≤ x ∧ 0 ≤ y ∧ y < 2147483648 ∧ 0 ≤ z ∧ z ≤ (n : Int)
/-- all but b stands as it stood -/
def Off (b : Addr) (H H' : Hp) : Prop := ∀ c o, c ≠ b → H c = some o → H' c = some o
theorem Off.refl {b : Addr} {H : Hp} : Off b H H := fun _ _ _ h => h
theorem Off.trans {b : Addr} {H H1 H2 : Hp} (p : Off b H H1) (q : Off b H1 H2) : Off b H H2 := fun c o n h => q c o n (p c o n h)
theorem Off.upd {b : Addr} {H : Hp} {o : HO} : Off b H (upd H b o) := fun c u n h => by rw [upd_ne n]; exact h
theorem Off.new {b p : Addr} {H : Hp} {o : HO} (h : H p = none) : Off b H (L2.upd H p o) := fun c u n hc => by
  rw [upd_ne (ne_of_none hc h)]
  exact hc
theorem Bx.new {n : Nat} {b p : Addr} {H : Hp} {o : HO} (B : Bx n H b) (h : H p = none) : Bx n (upd H p o) b := by
  obtain ⟨x, y, z, hb, r⟩ := B
  exact ⟨x, y, z, by rw [upd_ne (ne_of_none hb h)]; exact hb, r⟩
theorem Bx.ne {n : Nat} {H : Hp} {b p : Addr} (B : Bx n H b) (h : H p = none) : p ≠ b := fun z => by
  obtain ⟨_, _, _, hb, _⟩ := B
  rw [z, hb] at h
  cases h
theorem Bx.up {n m : Nat} {b : Addr} {H : Hp} (B : Bx n H b) (h : n ≤ m) : Bx m H b := by
  obtain ⟨x, y, z, hb, r1, r2, r3, r4, r5⟩ := B
  exact ⟨x, y, z, hb, r1, r2, r3, r4, by omega⟩
/-- a draw: a number below size, the box drawn from once more -/
def spTake : Sp := fun vs H Q _ => ∃ (b : Addr) (size : Int) (n : Nat), vs = [.ref b, .int size] ∧ 0 < size ∧ size < 2 ^ 200 ∧ Bx n H b ∧ n < 100000 ∧
  ∀ (d : Int) (H' : Hp), 0 ≤ d → d < size → Bx (n + 1) H' b → Off b H H' → Q (.int d) H'
end Gx
set_option linter.all false
set_option maxRecDepth 100000
set_option maxHeartbeats 4000000
namespace Gx
open PySem PySem.Spec PyProof.Rows L2
/-! ### a constant of the module; a built-in name -/
theorem pe_gc {X : Cx} {x : Str} {v : V} {pos : Pos} (h : ∃ u, X.mg x = some u ∧ RelV v u) (hg : Gl X x := by rfl) (hd : (x == ("__debug__" : Str)) = false := by decide) : PE X (.Name x pos) (tC v) := by
  obtain ⟨u, hm, r⟩ := h
  exact pe_glob hg hm r hd
theorem pe_tyn {X : Cx} {x : Str} {pos : Pos} (T : String) (hm : X.mg x = none) (hv : bootBuiltins x = some (.type T)) (hg : Gl X x := by rfl) (hn : x ≠ "__name__" := by decide) (hd : (x == ("__debug__" : Str)) = false := by decide) : PE X (.Name x pos) (tC (.ty T)) :=
  pe_bltn hg hm hv rfl hn hd
/-! ### isinstance, exceptions of own classes among the values -/
/-- at a an exception of the class C, made, with its own dict -/
def XAt (K : PySem.W.Frag) (H : Hp) (a C : Addr) : Prop := ∃ d fs, H a = some (exo a C (some d)) ∧ H d = some (exd d fs) ∧ ExcC K C
/-- whether v is an instance of the built-in type T -/
def IsI (K : PySem.W.Frag) (H : Hp) (v : V) (T : String) (b : Bool) : Prop :=
  (∃ t, TyX K H v t ∧ PySem.W.kitOne K t (.type T) = some b) ∨ ∃ a C, v = .ref a ∧ XAt K H a C ∧ PySem.W.kitOne K (.ref C) (.type T) = some b
def rIs2 (K : PySem.W.Frag) : List V → Hp → VK → Prop := fun xs H Q => ∃ v T b, xs = [v, .ty T] ∧ IsI K H v T b ∧ Q (.bl b) H
theorem call_is2 {X : Cx} : CallR X (.builtin "isinstance") (rIs2 X.K) := by
  intro pins s σ H xs us Q I r h
  obtain ⟨v, T, b, rfl, hi, q⟩ := h
  rcases hi with ⟨t, ty, e⟩ | ⟨a, C, rfl, ⟨d, fs, ha, hd, ec⟩, e⟩
  · exact call_isi pins s σ H _ us Q I r ⟨v, .ty T, t, .type T, b, rfl, .ty T, ty, e, q⟩
  · cases r with
    | cons r1 r2 =>
      cases r2 with
      | cons r2 r3 =>
        cases r3
        rename_i u1 u2
        obtain rfl : u1 = Value.ref a := r1
        obtain rfl : u2 = Value.type T := r2
        obtain ⟨t0, ho⟩ := exo_at I.hok ha
        obtain ⟨mA, hns, _⟩ := exd_at I.hok hd
        obtain ⟨od, es, ep, hod, _⟩ := hns
        have J : PySem.W.InstAt s.heap a _ C (some od) := ⟨ho, rfl, rfl, hod⟩
        exact PySem.W.kia_one (PySem.W.kitx_exc (od := some od) (by obtain ⟨cd, hc, _⟩ := PySem.W.any_some ec.hd; rw [hc]; rfl) ec.hg ec.hk ec.hs ec.ha ec.hn ec.ht ec.hm)
          I.kIn J e (fun z => nomatch z) fun tk => ⟨.bl b, H, I.tok tk, rfl, q⟩
/-- of the built-in kinds -/
theorem isI_ty {K : PySem.W.Frag} {H : Hp} {v : V} {t T : String} {b : Bool} (h : TyX K H v (.type t)) (e : kitB t T = some b) : IsI K H v T b := .inl ⟨_, h, kit_ty e⟩
theorem isI_int {K : PySem.W.Frag} {H : Hp} {i : Int} {T : String} {b : Bool} (e : kitB "int" T = some b) : IsI K H (.int i) T b := isI_ty (.base (.int i)) e
theorem isI_bl {K : PySem.W.Frag} {H : Hp} {i : Bool} {T : String} {b : Bool} (e : kitB "bool" T = some b) : IsI K H (.bl i) T b := isI_ty (.base (.bl i)) e
theorem isI_str {K : PySem.W.Frag} {H : Hp} {i : Str} {T : String} {b : Bool} (e : kitB "str" T = some b) : IsI K H (.str i) T b := isI_ty (.base (.str i)) e
theorem isI_non {K : PySem.W.Frag} {H : Hp} {T : String} {b : Bool} (e : kitB "NoneType" T = some b) : IsI K H .non T b := isI_ty (.base .non) e
theorem isI_lst {K : PySem.W.Frag} {H : Hp} {a : Addr} {xs : List V} {T : String} {b : Bool} (h : H a = some (.lst xs)) (e : kitB "list" T = some b) : IsI K H (.ref a) T b := isI_ty (.base (.lst h)) e
theorem isI_tup {K : PySem.W.Frag} {H : Hp} {a : Addr} {xs : List V} {T : String} {b : Bool} (h : H a = some (.tup xs)) (e : kitB "tuple" T = some b) : IsI K H (.ref a) T b := isI_ty (.base (.tup h)) e
theorem isI_dct {K : PySem.W.Frag} {H : Hp} {a : Addr} {xs : List (Key × V)} {T : String} {b : Bool} (h : H a = some (.dK xs)) (e : kitB "dict" T = some b) : IsI K H (.ref a) T b := isI_ty (.base (.dK h)) e
/-! ### an exception of an own class, its __init__ a def of the text -/
/-- self, found: what __init__ leaves -/
def spEI (K : PySem.W.Frag) (C : Addr) (fld : Str) : Sp := fun vs H Q _ => ∃ a v, vs = [.ref a, v] ∧ OexC K C ∧ PySem.W.findIn K (.ref C) fld = some none ∧ H a = some (exo a C none) ∧
  ∀ d, H d = none → d ≠ a → Q .non (upd (upd H d (exd d [(fld, v)])) a (exo a C (some d)))
/-- C(e) as a value -/
def tMkV (C : Addr) (sp : Sp) (ta : TA) : TE := fun σ H Q => ta σ H fun vs H1 => vs.length ≤ 1000 ∧ ∀ a, H1 a = none → sp (.ref a :: vs) (upd H1 a (exo a C none)) (fun v H2 => v = .non ∧ Q (.ref a) H2) E0
/-- a class of exceptions with its own __init__ as its makers see it -/
structure MkX (P : Program) (w : World) (K : PySem.W.Frag) (mg : Str → Option Value) (base : Heap) (k : Nat) (x : Str) (C : Addr) (fld : Str) : Prop where
  oex : OexC K C
  gl : mg x = some (.ref C)
  no : PySem.W.findIn K (.ref C) fld = some none
  ex : ∃ fI fd, PySem.W.findIn K (.ref C) "__init__" = some (some (.ref fI)) ∧ PySem.W.typeIn K (.ref fI) = some (.type "function") ∧ FnOk P w K mg base CX0 k fI fd ["self", fld] (spEI K C fld) ∧ Binds K fd ["self", fld] []
section
variable {X : Cx} {k : Nat} {x : Str} {C : Addr} {fld : Str} {e : Expr} {es : List Expr} {ta : TA} {p pos : Pos}
theorem pe_mkV (M : MkX X.prog X.w X.K X.mg X.base k x C fld) (hr : Room (k + 1) X.A) (ha : PA X (e :: es) ta) (hg : Gl X x := by rfl)
    (hdb : (x == ("__debug__" : Str)) = false := by decide) (he : starEach (e :: es) X.env = (false, eval e X.env) :: starEach es X.env := by rfl) (hpl : (backTo pos (starEach es X.env)).any (·.1) = false := by rfl) :
    PE X (.Call (.Name x p) (e :: es) [] pos) (tMkV C (spEI X.K C fld) ta) := by
  obtain ⟨fI, fd, iC, tI, F1, hb⟩ := M.ex
  obtain ⟨nm, q, N, bs, bm, sn, sub, ab, col, dd, k0, k1, k2, k3, k5, hC, hbm⟩ := M.oex.cls
  refine ⟨fun pins s σ H Q I h => wpAny_Call_Name_kw (ld_glob I hg M.gl ?_ hdb)⟩
  refine PySem.W.callWith_K (h₀ := X.base) I.ok.mod.kin M.oex.kC ?_ he hpl
  refine thn (ha.run pos pins s σ H _ I h) ?_
  rintro us s1 ⟨vs, H1, I1, r1, hz, q1⟩
  refine ⟨I1.kIn, ?_⟩
  show wpAny _ _ (call (.ref C) us) _ _ _
  obtain ⟨hp, g, dr, tk, os⟩ := s1
  have hn : H1 (hp.objs.size + 1) = none := I1.hok.fresh (Nat.le_succ _)
  have hq := q1 _ hn
  have new : ((hp.push (PySem.W.kdv_tup us)).push (PySem.HandSPX.excO C hp.objs.size)).get? (hp.objs.size + 1) = some (PySem.HandSPX.excO C hp.objs.size) := by heap_get
  have I2 : Inv X pins σ (upd H1 (hp.objs.size + 1) (exo (hp.objs.size + 1) C none)) ⟨(hp.push (PySem.W.kdv_tup us)).push (PySem.HandSPX.excO C hp.objs.size), g, dr, tk, os⟩ :=
    I1.laid (t' := tk) (fun b o z => Heap.get?_push_of_some _ (Heap.get?_push_of_some _ z)) (Nat.le_succ _) (exo_ok new)
  have r2 : Vals (V.ref (hp.objs.size + 1) :: vs) (Value.ref (hp.objs.size + 1) :: us) := .cons rfl r1
  have hl := r2.length.symm.trans (F1.len _ _ _ _ hq)
  have b2 := hb _ (Value.ref (hp.objs.size + 1) :: us) I2.kIn (by simpa using hl)
  rw [List.append_nil] at b2
  have hus : us.length ≤ sizeLine := by
    rw [← Paired.length r1, sizeLine_eq]
    omega
  refine wpAny_call (PySem.HandSPX.call_own F.excBase_ValueError (fun Y => PySem.HandSPX.refsVE_contains Y bm hbm) (I1.kIn _ _ hC) (PySem.W.looks_findIn I1.kIn iC) (fun self => PySem.W.bind_fn I1.kIn self tI) hus ?_)
  refine codeAny_mono (F1.run _ X.stack _ _ ⟨_, []⟩ _ _ _ _ (hr.make C us []) (I2.env0.make C us []) b2 r2 hq) ?_
  intro r s' hq'
  match r, hq' with
  | .error e, z => exact z.elim
  | .ok (.ret u), z =>
    obtain ⟨v, H', I3, rv, ev, q3⟩ := I2.after z
    subst ev
    exact ⟨rv, .ref (hp.objs.size + 1), H', I3, rfl, q3⟩
  | .ok .next, z => exact z.elim
  | .ok .brk, z => exact z.elim
  | .ok .cont, z => exact z.elim
end
/-! ### the defs of the module, as the top has left them -/
structure DefIn (K : PySem.W.Frag) (mg : Str → Option Value) (x : Str) (st : Stmt) : Prop where
  ex : ∃ f fd, Fun K x x st f fd ∧ mg x = some (.ref f)
theorem defIn {K : PySem.W.Frag} {h : Heap} {mg : Str → Option Value} {x : Str} {st : Stmt} (X : K.In h) (G : h.Ns mainGlobals mg)
    {f : Addr} {oc : Value} {od an : Option Addr} {osl : Array (Option Value)} {kV doc pm cdv ct : Value}
    (a : PySem.W.nsIn K mainGlobals x = some (some (.ref f)))
    (l : K.lookup f = some ⟨oc, od, .func (PySem.W.fnOf x x (defArgs st) (defBody st) (defScope st) .none kV doc pm an cdv ct), osl⟩)
    (c : PySem.W.codeIn K cdv x = true) (k : PySem.W.keepIn K (.ref f) = true) : DefIn K mg x st :=
  ⟨f, _, fun_mk l c k, PySem.W.mg_of X G a⟩
section
variable {P : Program} {w : World} {K : PySem.W.Frag} {mg : Str → Option Value} {base : Heap} {CX : CXT} {k : Nat} {x : Str} {st : Stmt} {ps ks : List Str} {sp : Sp}
theorem DefIn.cal (D : DefIn K mg x st) (ok : ∀ {f fd}, Fun K x x st f fd → FnG P w K mg base CX k f fd ps sp)
    (h : ∀ (kV doc pm : Value) (an : Option Addr) (cdv ct : Value) (us : List Value), us.length = ps.length → bindArgs (PySem.W.fnOf x x (defArgs st) (defBody st) (defScope st) .none kV doc pm an cdv ct) ⟨us, []⟩ = pure (ps.zip us)) :
    Cal P w K mg base CX k x ps sp := by
  obtain ⟨f, fd, F, hm⟩ := D.ex
  exact ⟨f, fd, ok F, hm, F.kp, F.binds h⟩
theorem DefIn.calk (D : DefIn K mg x st) (ok : ∀ {f fd}, Fun K x x st f fd → FnG P w K mg base CX k f fd ps sp) (g : List Value → List Value → List Value) (gV : List V → List V → List V)
    (h : ∀ (kV doc pm : Value) (an : Option Addr) (cdv ct : Value) (us ws : List Value), (g us ws).length = ps.length → bindArgs (PySem.W.fnOf x x (defArgs st) (defBody st) (defScope st) .none kV doc pm an cdv ct) ⟨us, ks.zip ws⟩ = pure (ps.zip (g us ws)))
    (rel : ∀ {vs : List V} {us : List Value} {zs : List V} {ws : List Value}, Vals vs us → Vals zs ws → Vals (gV vs zs) (g us ws)) :
    CalK P w K mg base CX k x ps sp ks gV := by
  obtain ⟨f, fd, F, hm⟩ := D.ex
  obtain ⟨oc, od, kV, doc, pm, an, cdv, ct, osl, e, _, _⟩ := F.ex
  refine ⟨f, fd, g, ok F, hm, F.kp, ⟨fun s us ws _ hl => ?_, rel⟩⟩
  subst e
  exact .of_eq (h kV doc pm an cdv ct us ws hl)
end
/-- one, two, three keywords and nothing else, put into order -/
def k1 {α : Type} : List α → List α → List α
  | [], [a] => [a]
  | _, _ => []
def k2 {α : Type} : List α → List α → List α
  | [], [a, b] => [b, a]
  | _, _ => []
def k3 {α : Type} : List α → List α → List α
  | [], [a, b, c] => [c, b, a]
  | _, _ => []
theorem k1_rel {vs : List V} {us : List Value} {zs : List V} {ws : List Value} : Vals vs us → Vals zs ws → Vals (k1 vs zs) (k1 us ws)
  | .nil, .nil => .nil
  | .nil, .cons a .nil => .cons a .nil
  | .nil, .cons _ (.cons _ _) => .nil
  | .cons _ _, _ => .nil
theorem k2_rel {vs : List V} {us : List Value} {zs : List V} {ws : List Value} : Vals vs us → Vals zs ws → Vals (k2 vs zs) (k2 us ws)
  | .nil, .nil => .nil
  | .nil, .cons a .nil => .nil
  | .nil, .cons a (.cons b .nil) => .cons b (.cons a .nil)
  | .nil, .cons _ (.cons _ (.cons _ _)) => .nil
  | .cons _ _, _ => .nil
theorem k3_rel {vs : List V} {us : List Value} {zs : List V} {ws : List Value} : Vals vs us → Vals zs ws → Vals (k3 vs zs) (k3 us ws)
  | .nil, .nil => .nil
  | .nil, .cons _ .nil => .nil
  | .nil, .cons _ (.cons _ .nil) => .nil
  | .nil, .cons a (.cons b (.cons c .nil)) => .cons c (.cons b (.cons a .nil))
  | .nil, .cons _ (.cons _ (.cons _ (.cons _ _))) => .nil
  | .cons _ _, _ => .nil
/-! ### texts, tuples of targets -/
section
variable {σ : L2.St} {H : Hp} {Q : VK} {D : Ends} {al : TA} {te to : TE} {i j l : Nat} {u v w : V} {z y : Str} {lo hi : Option Int}
theorem r_par3 (h : al σ H fun vs H1 => ∃ u v w, vs = [u, v, w] ∧ D.nx (((σ.set i (some u)).set j (some v)).set l (some w)) H1) : tPar3 i j l al D σ H := h
theorem r_is3 {C : V → V → V → Prop} (q : C u v w) : ∃ a b c, [u, v, w] = [a, b, c] ∧ C a b c := ⟨u, v, w, rfl, q⟩
theorem r_par2 (h : al σ H fun vs H1 => ∃ u v, vs = [u, v] ∧ D.nx ((σ.set i (some u)).set j (some v)) H1) : tPar i j al D σ H := h
theorem r_is2 {C : V → V → Prop} (q : C u v) : ∃ a b, [u, v] = [a, b] ∧ C a b := ⟨u, v, rfl, q⟩
theorem r_lenS {C : Str → Prop} (h : z.length ≤ 100000) (q : C z) : ∃ a, [V.str z] = [V.str a] ∧ a.length ≤ sizeLine ∧ C a := ⟨z, rfl, Nat.le_trans h (by decide), q⟩
theorem r_addS {C : Str → Str → Prop} (h : z.length + y.length ≤ 100000) (q : C z y) : ∃ a b, V.str z = .str a ∧ V.str y = .str b ∧ a.length + b.length ≤ sizeLine ∧ C a b := ⟨z, y, rfl, rfl, Nat.le_trans h (by decide), q⟩
theorem r_slS (h : z.length ≤ 100000) (q : Q (.str (cutS z lo hi)) H) : rSlS (.str z) lo hi H Q := ⟨z, rfl, Nat.le_trans h (by decide), q⟩
theorem r_m0 {f : V → List V → Hp → VK → Prop} (h : to σ H fun x H1 => (∃ a, x = .str a) ∧ f x [] H1 Q) : tM0 f to σ H Q := h
theorem app_len (a b : Str) : (a ++ b).length = a.length + b.length := PySem.Str.length_append a b
end
/-- signs below 128 alone -/
def Asc (z : Str) : Prop := ∀ c ∈ z.cps.toList, c < 128
theorem asc_app {a b : Str} (ha : Asc a) (hb : Asc b) : Asc (a ++ b) := fun c h => by
  rw [PySem.Str.cps_append, Array.toList_append] at h
  rcases List.mem_append.mp h with h | h
  · exact ha c h
  · exact hb c h
theorem asc_cut {z : Str} (h : Asc z) (lo hi : Option Int) : Asc (cutS z lo hi) := fun c hc => h c (List.mem_of_mem_drop (List.mem_of_mem_take hc))
theorem asc_upper {z : Str} (h : Asc z) : Asc (Txt.upper z) := fun c hc => by
  rw [PyProof.Rows.upper_ascii h] at hc
  obtain ⟨d, hd, rfl⟩ : ∃ d ∈ z.cps.toList, PyProof.Rows.up1 d = c := by simpa using hc
  have := h d hd
  unfold PyProof.Rows.up1
  split <;> omega
theorem asc_one {c : Nat} (h : c < 128) : Asc ⟨#[c]⟩ := fun d hd => by
  obtain rfl : d = c := by simpa using hd
  exact h
theorem asc_of {z : Str} (h : z.cps.toList.all (fun c => decide (c < 128)) = true) : Asc z := fun c hc => of_decide_eq_true (List.all_eq_true.mp h c hc)
/-! ### tests and comprehensions, further -/
theorem iteNF {A B : Prop} (h : A) : if (!false) = true then A else B := h
theorem iteNT {A B : Prop} (h : B) : if (!true) = true then A else B := h
theorem iteDec {p A B : Prop} [Decidable p] (h : p) (q : A) : if decide p = true then A else B := by
  rw [decide_eq_true h]
  exact iteT q
theorem iteNE {x y : V} {A B : Prop} (e : x = y) (h : B) : if (!decide (x = y)) = true then A else B := by
  rw [decide_eq_true e]
  exact iteF h
theorem iteE {x y : V} {A B : Prop} (e : x = y) (h : A) : if decide (x = y) = true then A else B := by
  rw [decide_eq_true e]
  exact iteT h
theorem iteAnd {a c : Bool} {H : Hp} {Q : VK} {X : Prop} (h : a = true → Q (.bl c) H → X) (q : Q (.bl (a && c)) H) : if a = true then X else Q (.bl false) H := by
  cases a with
  | true => exact iteT (h rfl q)
  | false => exact iteF q
theorem r_and2 {σ : L2.St} {H : Hp} {Q : VK} {ta tb : TE} (a c : Bool) (ha : ∀ R : VK, R (.bl a) H → ta σ H R) (hb : a = true → ∀ R : VK, R (.bl c) H → tb σ H R) (q : Q (.bl (a && c)) H) : tAndV ta tb σ H Q := by
  refine ha _ ⟨a, rfl, ?_⟩
  cases a with
  | true => exact iteT (hb rfl Q q)
  | false => exact iteF q
theorem r_or2 {σ : L2.St} {H : Hp} {Q : VK} {ta tb : TE} (a c : Bool) (ha : ∀ R : VK, R (.bl a) H → ta σ H R) (hb : a = false → ∀ R : VK, R (.bl c) H → tb σ H R) (q : Q (.bl (a || c)) H) : tOrV ta tb σ H Q := by
  refine ha _ ⟨a, rfl, ?_⟩
  cases a with
  | true => exact iteT q
  | false => exact iteF (hb rfl Q q)
def isIntV : V → Bool
  | .int _ => true
  | _ => false
/-- an item of a written list of ints at an open place -/
theorem r_ixI {K : PySem.W.Frag} {H : Hp} {Q : VK} {p : Addr} {d : Int} {xs : List V} (h : H p = some (.lst xs)) (hx : xs.all isIntV = true) (h0 : 0 ≤ d) (h1 : d < (xs.length : Int)) (q : ∀ i, Q (.int i) H) : rIxL K (.ref p) (.int d) H Q := by
  have hd : d.toNat < xs.length := by omega
  have z := List.all_eq_true.mp hx _ (List.getElem_mem hd)
  refine ⟨p, xs, d, xs[d.toNat], rfl, rfl, SqL.of h, at_pos h0 hd, ?_⟩
  cases e : xs[d.toNat] with
  | int i => exact q i
  | non => rw [e] at z; cases z
  | bl _ => rw [e] at z; cases z
  | str _ => rw [e] at z; cases z
  | byt _ => rw [e] at z; cases z
  | flt _ => rw [e] at z; cases z
  | ref _ => rw [e] at z; cases z
  | ty _ => rw [e] at z; cases z
theorem take_next {α : Type} {l : List α} {i : Nat} {x : α} (h : l[i]? = some x) : l.take (i + 1) = l.take i ++ [x] := by
  rw [List.take_succ, h]
  rfl
section
variable {K : PySem.W.Frag} {σ : L2.St} {H : Hp} {Q : VK} {te0 te : TE} {tt : TT} {j : Nat} {vs : List Nat}
/-- over the signs of a text: those that pass b, each as f says; nothing else is done -/
theorem r_lcS {z : Str} (f : Nat → V) (b : Nat → Bool) (h0 : ∀ R : VK, R (.str z) H → te0 σ H R) (hz : z.length ≤ 100000) (hw : ∀ x, wipe ((wipe σ vs).set j (some x)) vs = wipe σ vs)
    (ht : ∀ c H1 (QB : Bool → Hp → Prop), QB (b c) H1 → tt ((wipe σ vs).set j (some (.str ⟨#[c]⟩))) H1 QB)
    (he : ∀ c H1 (Q1 : VK), Q1 (f c) H1 → te ((wipe σ vs).set j (some (.str ⟨#[c]⟩))) H1 Q1)
    (q : ∀ D, H D = none → Q (.ref D) (upd H D (.lst ((z.cps.toList.filter b).map f)))) : tLc (iStr te0) (gName j) tt te vs σ H Q := by
  refine h0 _ ⟨z, rfl, fun D hD => ?_⟩
  refine lc_it walk_str (fun i H' => H' = upd H D (.lst (((z.cps.toList.take i).filter b).map f))) rfl (fun _ _ _ _ => trivial) (fun i x H1 H2 hi p y => ?_) (fun H' p => ?_)
  · obtain ⟨rfl, c, hc, rfl⟩ := y
    subst p
    have hc' : z.cps.toList[i]? = some c := by rw [Array.getElem?_toList]; exact hc
    refine ⟨hw _, ht c _ _ ?_⟩
    rw [take_next hc', List.filter_append]
    cases hb : b c with
    | true =>
      refine iteT (he c _ _ ⟨_, upd_same, ?_, ?_⟩)
      · have h1 := List.length_filter_le b (z.cps.toList.take i)
        have h2 : i < z.length := hi
        rw [List.length_map]
        rw [List.length_take] at h1
        rw [sizeLine_eq]
        omega
      · rw [upd_upd]
        simp [hb]
    | false =>
      refine iteF ?_
      simp [hb]
  · subst p
    rw [List.take_of_length_le (by simp)]
    exact q D hD
end
end Gx
set_option linter.all false
set_option maxRecDepth 100000
set_option maxHeartbeats 4000000
namespace Gx
open PySem PySem.Spec PyProof.Rows L2
/-! ### loops, comprehensions: what is left to show, by name -/
def Lp (J : It) (g : TG) (tb : TS) (D : Ends) (s : L2.St) (h : Hp) : Prop :=
  ∃ W : Nat → Nat → L2.St → Hp → Prop, (∃ m, W 0 m s h) ∧ ∀ i m s h, W i m s h → (J.stop i h ∧ D.nx s h) ∨ (J.go i h ∧ ∃ N : L2.St → Hp → Prop, (∀ s' h', N s' h' → ∃ m', m' < m ∧ W (i + 1) m' s' h') ∧ ∀ x h', J.yld i h x h' → g x s h' fun s2 h2 => tb { D with nx := N, ct := N, bk := D.nx } s2 h2)
def Lc (J : It) (g : TG) (tt : TT) (te : TE) (vs : List Nat) (Q : VK) (s : L2.St) (h : Hp) : Prop :=
  ∀ p, h p = none → ∃ W : Nat → Nat → Hp → Prop, (∃ m, W 0 m (upd h p (.lst []))) ∧ ∀ i m h, W i m h → (J.stop i h ∧ Q (.ref p) h) ∨ (J.go i h ∧ ∃ N : Hp → Prop, (∀ h', N h' → ∃ m', m' < m ∧ W (i + 1) m' h') ∧ ∀ x h', J.yld i h x h' → g x (wipe s vs) h' fun s2 h2 => wipe s2 vs = wipe s vs ∧ tt s2 h2 fun b h3 => if b = true then te s2 h3 fun y h4 => ∃ acc, h4 p = some (.lst acc) ∧ acc.length < sizeLine ∧ N (upd h4 p (.lst (acc ++ [y]))) else N h3)
section
variable {K : PySem.W.Frag} {σ : L2.St} {H : Hp} {D : Ends} {g : TG} {tb : TS} {wi : TI} {ta : TA} {te tl : TE} {tt : TT} {vs : List Nat} {Q : VK}
theorem r_for (h : wi σ H fun J H1 => Lp J g tb D σ H1) : tFor wi g tb D σ H := h
theorem r_lc (h : wi σ H fun J H1 => Lc J g tt te vs Q σ H1) : tLc wi g tt te vs σ H Q := h
theorem r_rng1 {R : It → Hp → Prop} (h : ta σ H fun xs H1 => ∃ j : Int, xs = [.int j] ∧ -(2 ^ 62) ≤ j ∧ j < 2 ^ 62 ∧ R (Itr 0 j.toNat) H1) : iRng1 ta σ H R := h
theorem r_iList {R : It → Hp → Prop} (h : tl σ H fun v H1 => ∃ a, v = .ref a ∧ (∃ xs, SqL K H1 a xs) ∧ R (Itl K a) H1) : iList K tl σ H R := h
theorem lp_range {lo : Int} {n : Nat} (Pv : Nat → L2.St → Hp → Prop) (h0 : Pv 0 σ H) (hs : ∀ i s h, i < n → Pv i s h → g (.int (lo + i)) s h fun s2 h2 => tb { D with nx := Pv (i + 1), ct := Pv (i + 1), bk := D.nx } s2 h2)
    (hd : ∀ s h, Pv n s h → D.nx s h) : Lp (Itr lo n) g tb D σ H := for_range Pv h0 hs hd
theorem lp_list {a : Addr} {xs : List V} (Pv : Nat → L2.St → Hp → Prop) (h0 : Pv 0 σ H) (hl : ∀ i s h, i ≤ xs.length → Pv i s h → SqL K h a xs)
    (hs : ∀ i x s h, xs[i]? = some x → Pv i s h → g x s h fun s2 h2 => tb { D with nx := Pv (i + 1), ct := Pv (i + 1), bk := D.nx } s2 h2) (hd : ∀ s h, Pv xs.length s h → D.nx s h) : Lp (Itl K a) g tb D σ H := for_list Pv h0 hl hs hd
theorem lc_rng {lo : Int} {n : Nat} (Pv : Addr → Nat → Hp → Prop) (h0 : ∀ p, H p = none → Pv p 0 (upd H p (.lst [])))
    (hs : ∀ p, H p = none → ∀ i h, i < n → Pv p i h → g (.int (lo + i)) (wipe σ vs) h fun s2 h2 => wipe s2 vs = wipe σ vs ∧ tt s2 h2 fun b h3 => if b = true then te s2 h3 fun y h4 => ∃ acc, h4 p = some (.lst acc) ∧ acc.length < sizeLine ∧ Pv p (i + 1) (upd h4 p (.lst (acc ++ [y]))) else Pv p (i + 1) h3)
    (hd : ∀ p, H p = none → ∀ h, Pv p n h → Q (.ref p) h) : Lc (Itr lo n) g tt te vs Q σ H := fun p hp => lc_range (Pv p) (h0 p hp) (hs p hp) (hd p hp)
theorem lc_lst {a : Addr} {xs : List V} (Pv : Addr → Nat → Hp → Prop) (h0 : ∀ p, H p = none → Pv p 0 (upd H p (.lst []))) (hl : ∀ p, H p = none → ∀ i h, i ≤ xs.length → Pv p i h → SqL K h a xs)
    (hs : ∀ p, H p = none → ∀ i x h, xs[i]? = some x → Pv p i h → g x (wipe σ vs) h fun s2 h2 => wipe s2 vs = wipe σ vs ∧ tt s2 h2 fun b h3 => if b = true then te s2 h3 fun y h4 => ∃ acc, h4 p = some (.lst acc) ∧ acc.length < sizeLine ∧ Pv p (i + 1) (upd h4 p (.lst (acc ++ [y]))) else Pv p (i + 1) h3)
    (hd : ∀ p, H p = none → ∀ h, Pv p xs.length h → Q (.ref p) h) : Lc (Itl K a) g tt te vs Q σ H := fun p hp => by
  refine lc_it (walk_list (xs := xs)) (Pv p) (h0 p hp) (fun i h hi q => hl p hp i h hi q) (fun i x h h' hi q y => ?_) (hd p hp)
  obtain ⟨rfl, e⟩ := y
  exact hs p hp i x _ e q
theorem r_yes {QB : Bool → Hp → Prop} (q : QB true H) : tYes σ H QB := q
theorem sql_same {H' : Hp} {a : Addr} {xs : List V} (h : SqL K H a xs) (e : Same H H') : SqL K H' a xs :=
  h.imp (fun r => r.imp (fun z => e _ _ z) fun ⟨o, z⟩ => ⟨o, e _ _ z⟩) _root_.id
/-- an item of a written list of ints at an open place, with what holds of all of them -/
theorem r_ixJ {p : Addr} {d : Int} {xs : List Int} {P : Int → Bool} (h : H p = some (.lst (xs.map V.int))) (hx : xs.all P = true) (h0 : 0 ≤ d) (h1 : d < (xs.length : Int)) (q : ∀ i, P i = true → Q (.int i) H) : rIxL K (.ref p) (.int d) H Q := by
  have hd : d.toNat < (xs.map V.int).length := by rw [List.length_map]; omega
  refine ⟨p, xs.map V.int, d, _, rfl, rfl, SqL.of h, at_pos h0 hd, ?_⟩
  rw [List.getElem_map]
  exact q _ (List.all_eq_true.mp hx _ (List.getElem_mem _))
theorem same_off {b : Addr} {H0 H1 H2 : Hp} (n : H0 b = none) (s : Same H0 H1) (o : Off b H1 H2) : Same H0 H2 := fun c u h => o c u (fun z => by subst z; rw [n] at h; cases h) (s c u h)
end
end Gx
set_option linter.all false
set_option maxRecDepth 100000
set_option maxHeartbeats 4000000
namespace Gx
open PySem PySem.Spec PyProof.Rows L2
/-! ### the end of a law, its def called where no repr is under way -/
/-- nothing leaves where no exception may -/
theorem cx_none {P : Program} {w : World} {out : List Env} {H : Hp} {s : Shared} {e : Value} {s' : Shared} (c : L2.CX P w out H s (fun _ _ _ => False) e s') : False := by
  obtain ⟨_, _, _, _, _, _, _, _, _, _, _, _, no⟩ := c
  exact no
/-- what is tracked ahead of the call: at most the script -/
structure Fore (P : Program) (w : World) (K : PySem.W.Frag) (a : Addr) (ys : List V) (t : Shared) (H : Hp) : Prop where
  one : ∀ b, H b ≠ none → b = a ∧ K.lookup a = none
  frz : ∀ b u, H b = some u → ∃ o, u = .frz o (.lst ys)
  seq : SqL K H a ys
  ok : HOk P w H t.heap
section
variable {P : Program} {w : World} {K : PySem.W.Frag} {mg mb : Str → Option Value} {k : Nat} {fa a : Addr} {fd : FuncData} {x : Str} {sp : Sp} {t : Shared} {us : List Value} {ys : List V}
theorem fore_own {o : Obj} (kin : K.In t.heap) (hu : t.heap.get? a = some { cls := .type "list", data := .seq us.toArray }) (rel : Vals ys us) (len : ys.length ≤ sizeLine) (hk : K.lookup a = some o) : Fore P w K a ys t fun _ => none := by
  have e := (kin a o hk).symm.trans hu
  cases e
  exact ⟨fun b hb => absurd rfl hb, fun b u hb => (nomatch hb), .inr ⟨_, us.toArray, _, hk, rfl, rfl, rfl, by rw [List.size_toArray, ← rel.length]; exact len, by simpa using rel⟩, fun b u hb => (nomatch hb)⟩
theorem fore_new (hu : t.heap.get? a = some { cls := .type "list", data := .seq us.toArray }) (rel : Vals ys us) (len : ys.length ≤ sizeLine) (hk : K.lookup a = none) :
    Fore P w K a ys t fun b => if b = a then some (.frz { cls := .type "list", data := .seq us.toArray } (.lst ys)) else none := by
  have at_a : ∀ {b u}, (if b = a then some (HO.frz { cls := .type "list", data := .seq us.toArray } (.lst ys)) else none) = some u → b = a ∧ u = .frz { cls := .type "list", data := .seq us.toArray } (.lst ys) := fun {b u} h => by
    split at h
    · rename_i hb
      cases h
      exact ⟨hb, rfl⟩
    · cases h
  refine ⟨fun b hb => ?_, fun b u hb => ⟨_, (at_a hb).2⟩, .inl (.inr ⟨_, if_pos rfl⟩), fun b u hb => ?_⟩
  · by_cases z : b = a
    · exact ⟨z, hk⟩
    · exact absurd (if_neg z) hb
  · obtain ⟨rfl, rfl⟩ := at_a hb
    exact ⟨hu, len, us, _, rel, hu⟩
theorem call_fore (kin : K.In t.heap) (gl : t.heap.Ns mainGlobals mg) (bl : t.heap.Ns builtinsNs mb) (boot : ∀ x : Str, x ≠ "__name__" → mb x = bootBuiltins x) (lim : t.heap.NoLimit) (gens : t.gens = #[])
    (hu : t.heap.get? a = some { cls := .type "list", data := .seq us.toArray }) (room : Room k callerA)
    (F : ∀ base : Heap, K.In base → base.Ns mainGlobals mg → FnG P w K mg base (L2.CX P w) k fa fd [x] sp) (bind : ∀ (s : Shared) (u : Value), BindsTo s fd ⟨[u], []⟩ [(x, u)])
    {H : Hp} (O : Fore P w K a ys t H) (hsp : sp [.ref a] H (fun v _ => v = .bl true) fun _ _ _ => False) :
    codeAny (model P w) callerA (.call (.ref fa) ⟨[.ref a], []⟩) (fun r t' => r = .ok (.ret (.bool true)) ∧ OldK t.heap t'.heap ∧ t'.os = t.os ∧ AllBare t'.gens) t := by
  have untracked : ∀ {b : Addr} {o : Obj}, t.heap.get? b = some o → (∀ its n, o.data ≠ .seq its n) → H b = none := fun {b o} e ns => by
    cases q : H b with
    | none => rfl
    | some u =>
      obtain ⟨rfl, _⟩ := O.one b (by rw [q]; exact Option.some_ne_none u)
      rw [hu] at e
      cases e
      exact absurd rfl (ns us.toArray _)
  have dicts : ∀ {b : Addr} {m : Str → Option Value}, t.heap.Ns b m → (hidT t.heap H).Ns b m := fun ⟨o, es, ep, e, d, r⟩ => ⟨o, es, ep, hidT_get e (untracked e fun its n z => by rw [d] at z; cases z), d, r⟩
  have kin' : K.In (hidT t.heap H) := fun b o e => hidT_get (kin b o e) (by
    cases q : H b with
    | none => rfl
    | some u =>
      obtain ⟨rfl, no⟩ := O.one b (by rw [q]; exact Option.some_ne_none u)
      rw [no] at e
      cases e)
  have lim' : (hidT t.heap H).NoLimit := by
    obtain ⟨mc, l1, l2⟩ := lim
    exact ⟨mc, dicts l1, l2⟩
  have start : Env0 P w K mg (hidT t.heap H) callerA [] t H := {
    frames := rfl
    mod := ⟨kin', dicts gl, ⟨mb, dicts bl, boot⟩, lim'⟩
    bs := fun _ _ => of_hidT
    bsz := Nat.le_of_eq (hidT_size _ _)
    funs := trivial
    frf := fun b hb => absurd hb List.not_mem_nil
    hok := O.ok
    bare := .of_eq gens }
  refine codeAny_mono ((F _ kin' (dicts gl)).go callerA [] t H ⟨[.ref a], []⟩ [.ref a] [.ref a] _ _ rfl room start (bind t (.ref a)) (.cons rfl .nil) hsp) ?_
  rintro (e | fl) t' h
  · exact (cx_none h).elim
  cases fl with
  | ret u =>
    obtain ⟨v, H', eos, eb, un, ok', rv, rfl⟩ := h
    cases (show u = Value.bool true from rv)
    refine ⟨rfl, OldK.of_keep fun b o e => ?_, eos, eb⟩
    cases q : H b with
    | none => exact un.keep b o e q List.not_mem_nil List.not_mem_nil
    | some u =>
      obtain ⟨o1, rfl⟩ := O.frz b u q
      have p1 := (O.ok b _ q).1
      rw [e] at p1
      cases p1
      exact (ok' b _ (un.frzs b _ _ q)).1
  | _ => exact False.elim h
end
/-- what k_head leaves open, from the promise of the law's def -/
theorem walk_g {l : PySem.W.OpenLaw} {n k : Nat} {q : Program} {loose : List Str} {XP : (Str → Option Value) → Heap → Prop} {YP : World → Heap → Prop} {d : DefRec} {K : Params → PySem.W.Frag} {sp : World → Sp} {x : Str}
    (most : l.most = some n) (small : n ≤ sizeLine) (plain : d.params.defaults = []) (room : Room k callerA) (kin : ∀ (w : World) (h : Heap), YP w h → (K w.params).In h)
    (F : ∀ (w : World) (mg : Str → Option Value) (fa : Addr) (h : Heap), (K w.params).In h → h.Ns mainGlobals mg → mg d.name = some (.ref fa) → ∃ fd : FuncData, (∀ (s : Shared) (u : Value), BindsTo s fd ⟨[u], []⟩ [(x, u)]) ∧
      ∀ base : Heap, (K w.params).In base → base.Ns mainGlobals mg → FnG l.prog w (K w.params) mg base (L2.CX l.prog w) k fa fd [x] (sp w))
    (hsp : ∀ (w : World) (H : Hp) (a : Addr) (ns : List Int), ns.length ≤ n → SqL (K w.params) H a (ns.map V.int) → sp w [.ref a] H (fun v _ => v = .bl true) fun _ _ _ => False) :
    PySem.W.WalkO q loose XP YP l.row.toRowW d [] (fun f vs => PySem.call f vs) := by
  refine Att.attach_call most plain fun w t0 t mg mb fa o pm cd doc a us ns G Y ho hd hcd hmg hobj hints hlen hg => ?_
  have kin1 := kin w _ Y
  obtain ⟨fd, hb, hF⟩ := F w mg fa _ kin1 G.T.g hmg
  have rel := vals_ints hints
  have len : (ns.map V.int).length ≤ sizeLine := by
    rw [List.length_map]
    exact Nat.le_trans hlen small
  cases hk : (K w.params).lookup a with
  | some ob =>
    have O := fore_own (P := l.prog) (w := w) kin1 hobj rel len hk
    exact call_fore kin1 G.T.g G.T.b G.T.builtins G.T.nolimit hg hobj room hF hb O (hsp w _ a ns hlen O.seq)
  | none =>
    have O := fore_new (P := l.prog) (w := w) (K := K w.params) hobj rel len hk
    exact call_fore kin1 G.T.g G.T.b G.T.builtins G.T.nolimit hg hobj room hF hb O (hsp w _ a ns hlen O.seq)
/-- the same, the promise hanging on the written part alone -/
theorem walk_gk {l : PySem.W.OpenLaw} {n k : Nat} {q : Program} {loose : List Str} {XP : (Str → Option Value) → Heap → Prop} {YP : World → Heap → Prop} {d : DefRec} {K : Params → PySem.W.Frag} {sp : PySem.W.Frag → Sp} {x : Str}
    (most : l.most = some n) (small : n ≤ sizeLine) (plain : d.params.defaults = []) (room : Room k callerA) (kin : ∀ (w : World) (h : Heap), YP w h → (K w.params).In h)
    (F : ∀ (w : World) (mg : Str → Option Value) (fa : Addr) (h : Heap), (K w.params).In h → h.Ns mainGlobals mg → mg d.name = some (.ref fa) → ∃ fd : FuncData, (∀ (s : Shared) (u : Value), BindsTo s fd ⟨[u], []⟩ [(x, u)]) ∧
      ∀ base : Heap, (K w.params).In base → base.Ns mainGlobals mg → FnG l.prog w (K w.params) mg base (L2.CX l.prog w) k fa fd [x] (sp (K w.params)))
    (hsp : ∀ (K : PySem.W.Frag) (H : Hp) (a : Addr) (ns : List Int), ns.length ≤ n → SqL K H a (ns.map V.int) → sp K [.ref a] H (fun v _ => v = .bl true) fun _ _ _ => False) :
    PySem.W.WalkO q loose XP YP l.row.toRowW d [] (fun f vs => PySem.call f vs) :=
  walk_g (sp := fun w => sp (K w.params)) most small plain room kin F fun w H a ns => hsp (K w.params) H a ns
end Gx
set_option linter.all false
set_option maxRecDepth 100000
set_option maxHeartbeats 4000000
namespace K1
open PySem PySem.Spec PyProof.Rows L2 Gx
local macro_rules | `(tactic| walk_at "rd1") => `(tactic| with_reducible first
  | refine r_var rfl ?_ | refine r_c ?_ | refine r_op ?_ | refine r_un ?_ | refine r_I0 ?_ | refine r_neg ?_ | refine r_test ?_ | refine r_B ?_ | refine r_bl ?_ | refine r_blx ?_
  | refine r_seq ?_ | refine r_ret ?_ | refine r_asg ?_ | refine r_name ?_ | refine r_gsub ?_ | refine r_if ?_ | refine r_next ?_ | refine r_drop ?_ | refine r_cb ?_ | refine r_nil ?_ | refine r_cons ?_
  | refine r_g ?_ | refine r_k ?_ | refine r_lst ?_ | refine r_tup ?_ | refine r_notV ?_ | refine r_ifE ?_ | refine r_and ?_ | refine r_or ?_ | refine r_not ?_ | refine r_chain ?_
  | refine r_sl ?_ | refine r_part ?_ | refine r_nop ?_ | refine r_par3 ?_ | refine r_is3 ?_ | refine r_par2 ?_ | refine r_is2 ?_ | refine r_m0 ?_ | refine r_ei ?_ | refine r_nx ?_ | refine r_rt ?_ | refine r_ct ?_ | refine r_eq rfl ?_ | refine r_ne rfl ?_ | refine iteT ?_ | refine iteF ?_ | refine iteNF ?_ | refine iteNT ?_
  | (refine r_fdivK ?hc ?_; (case hc => decide +kernel)) | (refine r_modK ?hc ?_; (case hc => decide +kernel)) | (refine r_mulL ?hc ?_; (case hc => decide +kernel)) | (refine r_mulR ?hc ?_; (case hc => decide +kernel)) | (refine r_powK ?hc ?_; (case hc => decide +kernel)) | fail "no step")
local macro_rules | `(tactic| walk_at "rd") => `(tactic| repeat' walk_at "rd1")
def tp (i : Nat) : Stmt := PySem.Challenge.pw_cordsounds_k01_kinds_of_anything.main.body.getD i (.Pass ⟨0, 0, 0, 0⟩)
section
variable {P : Program} {w : World} {K : PySem.W.Frag} {mg : Str → Option Value} {base : Heap} {f : Addr} {fd : FuncData}
abbrev s_take : Stmt := tp 18
theorem sc_take : FnScope ["box", "size", "digit", "one", "two"] ["box", "size"] (defScope s_take) := ⟨rfl, rfl, rfl, by decide +kernel, rfl, by decide +kernel, by decide +kernel⟩
theorem ok_take (F : Fun K "_law_take" "_law_take" s_take f fd) : FnG P w K mg base (L2.CX P w) 1 f fd ["box", "size"] spTake := by
  refine fnG F sc_take (fun vs H Q E h => ?_) (fun cdv A outer s H vs Q E hG hr h => ?_)
  · obtain ⟨b, size, n, rfl, _⟩ := h
    rfl
  · obtain ⟨b, size, n, rfl, h1, h2, B, hn, k⟩ := h
    have nd := sc_take.nd
    refine ⟨_, (pss_cons (ps_if (pt_cmpR op_gt (pe_ix ix_list (pv 0) pe_int (fun _ _ => rfl)) pe_int (nomark _)) (pss_cons (ps_set (i := 2) nd rfl (Or.inl rfl) (pe_op op_mod (pe_ix ix_list (pv 0) pe_int (fun _ _ => rfl)) (pv 1)))
        (pss_cons (ps_asg (pe_op op_fdivW (pe_ix ix_list (pv 0) pe_int (fun _ _ => rfl)) (pv 1)) (pg_sub (pv 0) pe_int set_list))
        (pss_one (ps_ret (pv 2))))) pss_nil)
        (pss_cons (ps_asg (pe_op op_add (pe_ix ix_list (pv 0) pe_int (fun _ _ => rfl)) pe_int) (pg_sub (pv 0) pe_int set_list))
        (pss_cons (ps_set (i := 3) nd rfl (Or.inl rfl) (pe_op op_mod (pe_op op_pow (pe_op op_add (pe_op op_add (pe_ix ix_list (pv 0) pe_int (fun _ _ => rfl)) (pe_op op_mul pe_int (pe_ix ix_list (pv 0) pe_int (fun _ _ => rfl)))) pe_int) pe_int) pe_int))
        (pss_cons (ps_set (i := 4) nd rfl (Or.inl rfl) (pe_op op_mod (pe_op op_pow (pe_op op_add (pe_op op_add (pe_op op_fdiv (pv 3) pe_int) (pe_op op_mul pe_int (pe_ix ix_list (pv 0) pe_int (fun _ _ => rfl)))) pe_int) pe_int) pe_int))
        (pss_one (ps_ret (pe_op op_mod (pe_op op_add (pe_op op_fdiv (pv 3) pe_int) (pe_op op_mul pe_int (pe_op op_fdiv (pv 4) pe_int))) (pv 1)))))))), ?_⟩
    obtain ⟨x, y, z, hb, x0, y0, y1, z0, z1⟩ := B
    walk_at "rd"
    refine r_ixLs (j := 0) hb rfl rfl ?_
    walk_at "rd"
    refine ite2 (fun c => ?_) (fun c => ?_)
    · have c' : 0 < x := of_decide_eq_true c
      walk_at "rd"
      refine r_ixLs (j := 0) hb rfl rfl ?_
      walk_at "rd"
      refine r_I h1 ?_
      walk_at "rd"
      refine r_ixLs (j := 0) hb rfl rfl ?_
      walk_at "rd"
      refine r_I (wide_div (b := 200) h1 (by omega) (by decide) (by decide)) ?_
      walk_at "rd"
      refine r_setL hb rfl ?_
      walk_at "rd"
      exact k (x % size) _ (Int.emod_nonneg _ (by omega)) (Int.emod_lt_of_pos _ h1) ⟨x / size, y, z, upd_same, Int.ediv_nonneg x0 (by omega), y0, y1, z0, by omega⟩ Off.upd
    · walk_at "rd"
      refine r_ixLs (j := 2) hb rfl rfl ?_
      walk_at "rd"
      refine r_setL hb rfl ?_
      walk_at "rd"
      refine r_ixLs (j := 1) upd_same rfl rfl ?_
      walk_at "rd"
      refine r_ixLs (j := 2) upd_same rfl rfl ?_
      walk_at "rd"
      refine r_I ⟨by decide, by decide, by omega⟩ ?_
      walk_at "rd"
      generalize (y + 15485867 * (z + 1) + 3) ^ (5 : Int).toNat = one0
      have o1 := Int.emod_nonneg one0 (show (2147483647 : Int) ≠ 0 by decide)
      have o2 := Int.emod_lt_of_pos one0 (show (0 : Int) < 2147483647 by decide)
      revert o1 o2
      generalize one0 % 2147483647 = one
      intro o1 o2
      refine r_ixLs (j := 2) upd_same rfl rfl ?_
      walk_at "rd"
      refine r_I ⟨by decide, by decide, by omega⟩ ?_
      walk_at "rd"
      refine r_I h1 ?_
      walk_at "rd"
      exact k _ _ (Int.emod_nonneg _ (by omega)) (Int.emod_lt_of_pos _ h1) ⟨x, y, z + 1, upd_same, x0, y0, y1, by omega, by omega⟩ Off.upd
end
end K1
set_option linter.all false
set_option maxRecDepth 100000
set_option maxHeartbeats 4000000
namespace K1
open PySem PySem.Spec PyProof.Rows L2 Gx
local macro_rules | `(tactic| walk_at "rd1") => `(tactic| with_reducible first
  | refine r_var rfl ?_ | refine r_c ?_ | refine r_op ?_ | refine r_un ?_ | refine r_I0 ?_ | refine r_neg ?_ | refine r_test ?_ | refine r_B ?_ | refine r_bl ?_ | refine r_blx ?_
  | refine r_seq ?_ | refine r_ret ?_ | refine r_asg ?_ | refine r_name ?_ | refine r_gsub ?_ | refine r_if ?_ | refine r_next ?_ | refine r_drop ?_ | refine r_cb ?_ | refine r_nil ?_ | refine r_cons ?_
  | refine r_g ?_ | refine r_k ?_ | refine r_lst ?_ | refine r_tup ?_ | refine r_notV ?_ | refine r_ifE ?_ | refine r_and ?_ | refine r_or ?_ | refine r_not ?_ | refine r_chain ?_
  | refine r_sl ?_ | refine r_part ?_ | refine r_nop ?_ | refine r_par3 ?_ | refine r_is3 ?_ | refine r_par2 ?_ | refine r_is2 ?_ | refine r_m0 ?_ | refine r_ei ?_ | refine r_nx ?_ | refine r_rt ?_ | refine r_ct ?_ | refine r_eq rfl ?_ | refine r_ne rfl ?_ | refine iteT ?_ | refine iteF ?_ | refine iteNF ?_ | refine iteNT ?_
  | (refine r_fdivK ?hc ?_; (case hc => decide +kernel)) | (refine r_modK ?hc ?_; (case hc => decide +kernel)) | (refine r_mulL ?hc ?_; (case hc => decide +kernel)) | (refine r_mulR ?hc ?_; (case hc => decide +kernel)) | (refine r_powK ?hc ?_; (case hc => decide +kernel)) | fail "no step")
local macro_rules | `(tactic| walk_at "rd") => `(tactic| repeat' walk_at "rd1")
abbrev s_init : Stmt := inClass (tp 2) 0
abbrev s_is_number : Stmt := tp 9
abbrev s_is_whole : Stmt := tp 10
abbrev s_is_name : Stmt := tp 11
abbrev s_is_worth : Stmt := tp 12
abbrev s_is_manner : Stmt := tp 13
abbrev s_is_table : Stmt := tp 14
abbrev s_law_cell : Stmt := tp 16
abbrev s_law_box : Stmt := tp 17
abbrev s_law_sign : Stmt := tp 19
abbrev s_law_bent : Stmt := tp 20
abbrev s_law_is_name : Stmt := tp 21
abbrev s_law_number_right : Stmt := tp 22
abbrev s_law_text_right : Stmt := tp 23
abbrev s_law_others_right : Stmt := tp 24
abbrev s_law : Stmt := tp 25
/-- what the top has left -/
structure Txt (K : PySem.W.Frag) (mg : Str → Option Value) : Prop where
  d_is_number : DefIn K mg "is_number" s_is_number
  d_is_whole : DefIn K mg "is_whole" s_is_whole
  d_is_name : DefIn K mg "is_name" s_is_name
  d_is_worth : DefIn K mg "is_worth" s_is_worth
  d_is_manner : DefIn K mg "is_manner" s_is_manner
  d_is_table : DefIn K mg "is_table" s_is_table
  d_cell : DefIn K mg "_law_cell" s_law_cell
  d_box : DefIn K mg "_law_box" s_law_box
  d_take : DefIn K mg "_law_take" s_take
  d_sign : DefIn K mg "_law_sign" s_law_sign
  d_bent : DefIn K mg "_law_bent" s_law_bent
  d_lname : DefIn K mg "_law_is_name" s_law_is_name
  d_number_right : DefIn K mg "_law_number_right" s_law_number_right
  d_text_right : DefIn K mg "_law_text_right" s_law_text_right
  d_others_right : DefIn K mg "_law_others_right" s_law_others_right
  g_LEAST : ∃ u, mg "LEAST" = some u ∧ RelV (.int (-2048)) u
  g_GREATEST : ∃ u, mg "GREATEST" = some u ∧ RelV (.int 2047) u
  g_NAME_LENGTH : ∃ u, mg "NAME_LENGTH" = some u ∧ RelV (.int 8) u
  g_MANNERS : ∃ a, mg "MANNERS" = some (.ref a) ∧ ∀ H, SqT K H a [.str "clip", .str "wrap", .str "fold"]
  g_TABLES : ∃ a, mg "TABLES" = some (.ref a) ∧ ∀ H, SqT K H a [.str "saw", .str "square", .str "tri", .str "pulse", .str "hump"]
  n_isinstance : mg "isinstance" = none
  n_int : mg "int" = none
  n_bool : mg "bool" = none
  n_str : mg "str" = none
  n_len : mg "len" = none
  n_all : mg "all" = none
  n_max : mg "max" = none
  n_min : mg "min" = none
  n_repr : mg "repr" = none
  n_range : mg "range" = none
  x_up : ∃ S, UpC K mg "SoundError" S
  x_no : ∃ C fI fd, OexC K C ∧ mg "NoWorth" = some (.ref C) ∧ PySem.W.findIn K (.ref C) "found" = some none ∧ PySem.W.findIn K (.ref C) "__init__" = some (some (.ref fI)) ∧ PySem.W.typeIn K (.ref fI) = some (.type "function") ∧ Fun K "__init__" "NoWorth.__init__" s_init fI fd ∧
    ExcC K C ∧ PySem.W.kitOne K (.ref C) (.type "int") = some false ∧ PySem.W.kitOne K (.ref C) (.type "str") = some false
section
variable {P : Program} {w : World} {K : PySem.W.Frag} {mg : Str → Option Value} {base : Heap} {f : Addr} {fd : FuncData}
theorem c_law_take (T : Txt K mg) : Cal P w K mg base (L2.CX P w) 1 "_law_take" ["box", "size"] spTake :=
  T.d_take.cal (fun F => ok_take F) fun _ _ _ _ _ _ us hl => match us, hl with | [_, _], _ => rfl
/-! ### is_number, is_whole, is_worth -/
def spNumber (K : PySem.W.Frag) : Sp := fun vs H Q _ => ∃ v bi bb, vs = [v] ∧ IsI K H v "int" bi ∧ (bi = true → IsI K H v "bool" bb) ∧ Q (.bl (bi && !bb)) H
theorem sc_is_number : FnScope ["thing"] ["thing"] (defScope s_is_number) := ⟨rfl, rfl, rfl, by decide +kernel, rfl, by decide +kernel, by decide +kernel⟩
theorem ok_is_number (T : Txt K mg) (F : Fun K "is_number" "is_number" s_is_number f fd) : FnG P w K mg base (L2.CX P w) 1 f fd ["thing"] (spNumber K) := by
  refine fnG F sc_is_number (fun vs H Q E h => ?_) (fun cdv A outer s H vs Q E hG hr h => ?_)
  · obtain ⟨_, _, _, rfl, _⟩ := h
    rfl
  · obtain ⟨v, bi, bb, rfl, h1, h2, q⟩ := h
    refine ⟨_, (pss_one (ps_ret (pe_and (pe_callB call_is2 (by rfl) T.n_isinstance (by decide +kernel) (pa_cons (pv 0) (pa_cons (pe_tyn "int" T.n_int (by decide +kernel)) pa_nil))) (pe_one (pe_not (pe_callB call_is2 (by rfl) T.n_isinstance (by decide +kernel) (pa_cons (pv 0) (pa_cons (pe_tyn "bool" T.n_bool (by decide +kernel)) pa_nil)))))))), ?_⟩
    walk_at "rd"
    refine r_andV ?_
    walk_at "rd"
    refine ⟨v, "int", bi, rfl, h1, ?_⟩
    walk_at "rd"
    cases bi with
    | false =>
      walk_at "rd"
      exact q
    | true =>
      walk_at "rd"
      refine ⟨v, "bool", bb, rfl, h2 rfl, ?_⟩
      walk_at "rd"
      exact q
theorem c_is_number (T : Txt K mg) : Cal P w K mg base (L2.CX P w) 1 "is_number" ["thing"] (spNumber K) :=
  T.d_is_number.cal (fun F => ok_is_number T F) fun _ _ _ _ _ _ us hl => match us, hl with | [_], _ => rfl
def NoInt (K : PySem.W.Frag) (H : Hp) (v : V) : Prop := (∃ b, v = .bl b) ∨ IsI K H v "int" false
def NoStr (K : PySem.W.Frag) (H : Hp) (v : V) : Prop := IsI K H v "str" false
def spWhole (K : PySem.W.Frag) : Sp := fun vs H Q _ => ∃ v lo hi b, vs = [v, .int lo, .int hi] ∧ ((∃ i, v = .int i ∧ b = (decide (lo ≤ i) && decide (i ≤ hi))) ∨ (NoInt K H v ∧ b = false)) ∧ Q (.bl b) H
theorem sc_is_whole : FnScope ["thing", "low", "high"] ["thing", "low", "high"] (defScope s_is_whole) := ⟨rfl, rfl, rfl, by decide +kernel, rfl, by decide +kernel, by decide +kernel⟩
theorem ok_is_whole (T : Txt K mg) (F : Fun K "is_whole" "is_whole" s_is_whole f fd) : FnG P w K mg base (L2.CX P w) 2 f fd ["thing", "low", "high"] (spWhole K) := by
  refine fnG F sc_is_whole (fun vs H Q E h => ?_) (fun cdv A outer s H vs Q E hG hr h => ?_)
  · obtain ⟨_, _, _, _, rfl, _⟩ := h
    rfl
  · obtain ⟨v, lo, hi, b, rfl, h1, q⟩ := h
    refine ⟨_, (pss_one (ps_ret (pe_and (pe_g (c_is_number T) hG (hr.mono (by decide)) (fun _ => passS) (pa_cons (pv 0) pa_nil)) (pe_one (pe_chain op_le op_le (pv 1) (pv 0) (pv 2)))))), ?_⟩
    walk_at "rd"
    refine r_andV ?_
    walk_at "rd"
    rcases h1 with ⟨i, rfl, rfl⟩ | ⟨n, rfl⟩
    · refine ⟨_, true, false, rfl, isI_int (by decide +kernel), fun _ => isI_int (by decide +kernel), ?_⟩
      walk_at "rd"
      refine iteT ?_
      walk_at "rd"
      by_cases c : lo ≤ i
      · rw [decide_eq_true c] at q ⊢
        walk_at "rd"
        exact q
      · rw [decide_eq_false c] at q ⊢
        walk_at "rd"
        exact q
    · rcases n with ⟨c, rfl⟩ | n
      · refine ⟨_, true, true, rfl, isI_bl (by decide +kernel), fun _ => isI_bl (by decide +kernel), ?_⟩
        walk_at "rd"
        exact iteF q
      · refine ⟨_, false, false, rfl, n, fun z => (by cases z), ?_⟩
        walk_at "rd"
        exact iteF q
theorem c_is_whole (T : Txt K mg) : Cal P w K mg base (L2.CX P w) 2 "is_whole" ["thing", "low", "high"] (spWhole K) :=
  T.d_is_whole.cal (fun F => ok_is_whole T F) fun _ _ _ _ _ _ us hl => match us, hl with | [_, _, _], _ => rfl
theorem k_is_whole (T : Txt K mg) : CalK P w K mg base (L2.CX P w) 2 "is_whole" ["thing", "low", "high"] (spWhole K) ["high", "low", "thing"] k3 :=
  T.d_is_whole.calk (fun F => ok_is_whole T F) k3 k3 (fun _ _ _ _ _ _ us ws hl => match us, ws, hl with | [], [_, _, _], _ => rfl) k3_rel
end
end K1
set_option linter.all false
set_option maxRecDepth 100000
set_option maxHeartbeats 4000000
namespace K1
open PySem PySem.Spec PyProof.Rows L2 Gx
local macro_rules | `(tactic| walk_at "rd1") => `(tactic| with_reducible first
  | refine r_var rfl ?_ | refine r_c ?_ | refine r_op ?_ | refine r_un ?_ | refine r_I0 ?_ | refine r_neg ?_ | refine r_test ?_ | refine r_B ?_ | refine r_bl ?_ | refine r_blx ?_
  | refine r_seq ?_ | refine r_ret ?_ | refine r_asg ?_ | refine r_name ?_ | refine r_gsub ?_ | refine r_if ?_ | refine r_next ?_ | refine r_drop ?_ | refine r_cb ?_ | refine r_nil ?_ | refine r_cons ?_
  | refine r_g ?_ | refine r_k ?_ | refine r_lst ?_ | refine r_tup ?_ | refine r_notV ?_ | refine r_ifE ?_ | refine r_and ?_ | refine r_or ?_ | refine r_not ?_ | refine r_chain ?_
  | refine r_sl ?_ | refine r_part ?_ | refine r_nop ?_ | refine r_par3 ?_ | refine r_is3 ?_ | refine r_par2 ?_ | refine r_is2 ?_ | refine r_m0 ?_ | refine r_ei ?_ | refine r_nx ?_ | refine r_rt ?_ | refine r_ct ?_ | refine r_eq rfl ?_ | refine r_ne rfl ?_ | refine iteT ?_ | refine iteF ?_ | refine iteNF ?_ | refine iteNT ?_
  | (refine r_fdivK ?hc ?_; (case hc => decide +kernel)) | (refine r_modK ?hc ?_; (case hc => decide +kernel)) | (refine r_mulL ?hc ?_; (case hc => decide +kernel)) | (refine r_mulR ?hc ?_; (case hc => decide +kernel)) | (refine r_powK ?hc ?_; (case hc => decide +kernel)) | fail "no step")
local macro_rules | `(tactic| walk_at "rd") => `(tactic| repeat' walk_at "rd1")
section
variable {P : Program} {w : World} {K : PySem.W.Frag} {mg : Str → Option Value} {base : Heap} {f : Addr} {fd : FuncData}
/-! ### is_worth, is_manner, is_table -/
def spWorth (K : PySem.W.Frag) : Sp := fun vs H Q _ => ∃ v b, vs = [v] ∧ ((∃ i, v = .int i ∧ b = (decide (-2048 ≤ i) && decide (i ≤ 2047))) ∨ (NoInt K H v ∧ b = false)) ∧ Q (.bl b) H
theorem sc_is_worth : FnScope ["thing"] ["thing"] (defScope s_is_worth) := ⟨rfl, rfl, rfl, by decide +kernel, rfl, by decide +kernel, by decide +kernel⟩
theorem ok_is_worth (T : Txt K mg) (F : Fun K "is_worth" "is_worth" s_is_worth f fd) : FnG P w K mg base (L2.CX P w) 3 f fd ["thing"] (spWorth K) := by
  refine fnG F sc_is_worth (fun vs H Q E h => ?_) (fun cdv A outer s H vs Q E hG hr h => ?_)
  · obtain ⟨_, _, rfl, _⟩ := h
    rfl
  · obtain ⟨v, b, rfl, h1, q⟩ := h
    refine ⟨_, (pss_one (ps_ret (pe_g (c_is_whole T) hG (hr.mono (by decide)) (fun _ => passS) (pa_cons (pv 0) (pa_cons (pe_gc T.g_LEAST) (pa_cons (pe_gc T.g_GREATEST) pa_nil)))))), ?_⟩
    walk_at "rd"
    exact ⟨v, -2048, 2047, b, rfl, h1, q⟩
theorem c_is_worth (T : Txt K mg) : Cal P w K mg base (L2.CX P w) 3 "is_worth" ["thing"] (spWorth K) :=
  T.d_is_worth.cal (fun F => ok_is_worth T F) fun _ _ _ _ _ _ us hl => match us, hl with | [_], _ => rfl
theorem k_is_worth (T : Txt K mg) : CalK P w K mg base (L2.CX P w) 3 "is_worth" ["thing"] (spWorth K) ["thing"] k1 :=
  T.d_is_worth.calk (fun F => ok_is_worth T F) k1 k1 (fun _ _ _ _ _ _ us ws hl => match us, ws, hl with | [], [_], _ => rfl) k1_rel
def memB (z : Str) (l : List Str) : Bool := inV (.str z) (l.map V.str)
def manners : List Str := ["clip", "wrap", "fold"]
def tables : List Str := ["saw", "square", "tri", "pulse", "hump"]
/-- whether v is a text of l -/
def spIn (K : PySem.W.Frag) (l : List Str) : Sp := fun vs H Q _ => ∃ v b, vs = [v] ∧ ((∃ z, v = .str z ∧ b = memB z l) ∨ (NoStr K H v ∧ b = false)) ∧ Q (.bl b) H
theorem sc_is_manner : FnScope ["thing"] ["thing"] (defScope s_is_manner) := ⟨rfl, rfl, rfl, by decide +kernel, rfl, by decide +kernel, by decide +kernel⟩
theorem ok_is_manner (T : Txt K mg) (F : Fun K "is_manner" "is_manner" s_is_manner f fd) : FnG P w K mg base (L2.CX P w) 1 f fd ["thing"] (spIn K manners) := by
  refine fnG F sc_is_manner (fun vs H Q E h => ?_) (fun cdv A outer s H vs Q E hG hr h => ?_)
  · obtain ⟨_, _, rfl, _⟩ := h
    rfl
  · obtain ⟨v, b, rfl, h1, q⟩ := h
    obtain ⟨am, g_MANNERS, hm⟩ := T.g_MANNERS
    refine ⟨_, (pss_one (ps_ret (pe_and (pe_callB call_is2 (by rfl) T.n_isinstance (by decide +kernel) (pa_cons (pv 0) (pa_cons (pe_tyn "str" T.n_str (by decide +kernel)) pa_nil))) (pe_one (pe_cmpR op_in_seq (pv 0) (pe_gc (v := .ref am) ⟨_, g_MANNERS, rfl⟩) (by rfl)))))), ?_⟩
    walk_at "rd"
    refine r_andV ?_
    walk_at "rd"
    rcases h1 with ⟨z, rfl, rfl⟩ | ⟨n, rfl⟩
    · refine ⟨_, "str", true, rfl, isI_str (by decide +kernel), ?_⟩
      walk_at "rd"
      exact ⟨am, _, rfl, .inr (hm H), rfl, rfl, q⟩
    · refine ⟨_, "str", false, rfl, n, ?_⟩
      walk_at "rd"
      exact q
theorem c_is_manner (T : Txt K mg) : Cal P w K mg base (L2.CX P w) 1 "is_manner" ["thing"] (spIn K manners) :=
  T.d_is_manner.cal (fun F => ok_is_manner T F) fun _ _ _ _ _ _ us hl => match us, hl with | [_], _ => rfl
theorem k_is_manner (T : Txt K mg) : CalK P w K mg base (L2.CX P w) 1 "is_manner" ["thing"] (spIn K manners) ["thing"] k1 :=
  T.d_is_manner.calk (fun F => ok_is_manner T F) k1 k1 (fun _ _ _ _ _ _ us ws hl => match us, ws, hl with | [], [_], _ => rfl) k1_rel
theorem sc_is_table : FnScope ["thing"] ["thing"] (defScope s_is_table) := ⟨rfl, rfl, rfl, by decide +kernel, rfl, by decide +kernel, by decide +kernel⟩
theorem ok_is_table (T : Txt K mg) (F : Fun K "is_table" "is_table" s_is_table f fd) : FnG P w K mg base (L2.CX P w) 1 f fd ["thing"] (spIn K tables) := by
  refine fnG F sc_is_table (fun vs H Q E h => ?_) (fun cdv A outer s H vs Q E hG hr h => ?_)
  · obtain ⟨_, _, rfl, _⟩ := h
    rfl
  · obtain ⟨v, b, rfl, h1, q⟩ := h
    obtain ⟨am, g_TABLES, hm⟩ := T.g_TABLES
    refine ⟨_, (pss_one (ps_ret (pe_and (pe_callB call_is2 (by rfl) T.n_isinstance (by decide +kernel) (pa_cons (pv 0) (pa_cons (pe_tyn "str" T.n_str (by decide +kernel)) pa_nil))) (pe_one (pe_cmpR op_in_seq (pv 0) (pe_gc (v := .ref am) ⟨_, g_TABLES, rfl⟩) (by rfl)))))), ?_⟩
    walk_at "rd"
    refine r_andV ?_
    walk_at "rd"
    rcases h1 with ⟨z, rfl, rfl⟩ | ⟨n, rfl⟩
    · refine ⟨_, "str", true, rfl, isI_str (by decide +kernel), ?_⟩
      walk_at "rd"
      exact ⟨am, _, rfl, .inr (hm H), rfl, rfl, q⟩
    · refine ⟨_, "str", false, rfl, n, ?_⟩
      walk_at "rd"
      exact q
theorem c_is_table (T : Txt K mg) : Cal P w K mg base (L2.CX P w) 1 "is_table" ["thing"] (spIn K tables) :=
  T.d_is_table.cal (fun F => ok_is_table T F) fun _ _ _ _ _ _ us hl => match us, hl with | [_], _ => rfl
theorem k_is_table (T : Txt K mg) : CalK P w K mg base (L2.CX P w) 1 "is_table" ["thing"] (spIn K tables) ["thing"] k1 :=
  T.d_is_table.calk (fun F => ok_is_table T F) k1 k1 (fun _ _ _ _ _ _ us ws hl => match us, ws, hl with | [], [_], _ => rfl) k1_rel
/-! ### is_name -/
def lower (c : Nat) : Bool := decide (97 ≤ c) && decide (c ≤ 122)
def nameB (z : Str) : Bool := (decide ((1 : Int) ≤ z.length) && decide ((z.length : Int) ≤ 8)) && z.cps.toList.all lower
def spName (K : PySem.W.Frag) : Sp := fun vs H Q _ => ∃ v b, vs = [v] ∧ ((∃ z, v = .str z ∧ z.length ≤ 1000 ∧ b = nameB z) ∨ (NoStr K H v ∧ b = false)) ∧ ∀ H', Same H H' → Q (.bl b) H'
theorem lex1 (c d : Nat) : decide (([c] : List Nat) < [d]) = decide (c < d) := by
  refine decide_eq_decide.mpr ⟨fun h => ?_, fun h => List.Lex.rel h⟩
  cases h with
  | rel h => exact h
  | cons h => cases h
theorem sc_is_name : FnScope ["thing", "sign"] ["thing"] (defScope s_is_name) := ⟨rfl, rfl, rfl, by decide +kernel, rfl, by decide +kernel, by decide +kernel⟩
theorem ok_is_name (T : Txt K mg) (F : Fun K "is_name" "is_name" s_is_name f fd) : FnG P w K mg base (L2.CX P w) 1 f fd ["thing"] (spName K) := by
  refine fnG F sc_is_name (fun vs H Q E h => ?_) (fun cdv A outer s H vs Q E hG hr h => ?_)
  · obtain ⟨_, _, rfl, _⟩ := h
    rfl
  · obtain ⟨v, b, rfl, h1, q⟩ := h
    have nd := sc_is_name.nd
    refine ⟨_, (pss_cons (ps_if (PW.pt (pw_or (pt_not (pt_val (pe_callB call_is2 (by rfl) T.n_isinstance (by decide +kernel) (pa_cons (pv 0) (pa_cons (pe_tyn "str" T.n_str (by decide +kernel)) pa_nil))))) (pw_or1 (pt_not (pt_chain op_le op_le pe_int (pe_callB call_len_str (by rfl) T.n_len PySem.boot_len (pa_cons (pv 0) pa_nil)) (pe_gc T.g_NAME_LENGTH)))))) (pss_one (ps_ret pe_bl)) pss_nil)
        (pss_one (ps_ret (pe_callB (cr_all rfl) (by rfl) T.n_all (by decide +kernel) (pa_cons (pe_lc (own := [("sign", 1)]) (g := gName 1) (tt := tYes) rfl nd (pi_str (pv 0)) (blkOk_by (N := ["thing", "sign"]) (sc := defScope s_is_name) (by decide +kernel)) (fun _ _ _ _ _ => pg_name (i := 1) nd rfl (Or.inl rfl)) (fun _ _ _ _ _ => pts_nil) (fun _ _ _ _ _ => (pe_chain op_le_str op_le_str pe_str (pv 1) pe_str))) pa_nil))))), ?_⟩
    walk_at "rd"
    rcases h1 with ⟨z, rfl, hz, rfl⟩ | ⟨n, rfl⟩
    · refine ⟨_, "str", true, rfl, isI_str (by decide +kernel), ?_⟩
      walk_at "rd"
      refine ⟨z, rfl, Nat.le_trans hz (by decide), ?_⟩
      walk_at "rd"
      unfold nameB at q
      cases h1 : decide ((1 : Int) ≤ z.length) with
      | false =>
        rw [h1] at q
        walk_at "rd"
        exact q H (Same.refl H)
      | true =>
        rw [h1] at q
        walk_at "rd"
        cases h2 : decide ((z.length : Int) ≤ 8) with
        | false =>
          rw [h2] at q
          walk_at "rd"
          exact q H (Same.refl H)
        | true =>
          rw [h2] at q
          walk_at "rd"
          refine r_lcS (z := z) (fun c => .bl (lower c)) (fun _ => true) (fun R r => r_var rfl r) (Nat.le_trans hz (by decide)) (fun _ => rfl) (fun _ _ _ r => r) (fun c H1 Q1 r => ?_) (fun D hD => ?_)
          · walk_at "rd"
            refine ⟨_, _, rfl, rfl, ?_⟩
            walk_at "rd"
            have e1 : (!decide (([c] : List Nat) < [97])) = decide (97 ≤ c) := by rw [lex1]; by_cases h : c < 97 <;> simp [h] <;> omega
            have e2 : (!decide (([122] : List Nat) < [c])) = decide (c ≤ 122) := by rw [lex1]; by_cases h : 122 < c <;> simp [h] <;> omega
            show ite ((!decide (([c] : List Nat) < [97])) = true) _ _
            rw [e1]
            cases h3 : decide (97 ≤ c) with
            | false =>
              walk_at "rd"
              unfold lower at r
              rw [h3] at r
              exact r
            | true =>
              walk_at "rd"
              refine ⟨_, _, rfl, rfl, ?_⟩
              show Q1 (.bl (!decide (([122] : List Nat) < [c]))) H1
              rw [e2]
              unfold lower at r
              rw [h3] at r
              exact r
          · walk_at "rd"
            refine ⟨D, z.cps.toList.map lower, rfl, SqL.of ?_, ?_⟩
            · have e : List.filter (fun _ => true) z.cps.toList = z.cps.toList := List.filter_eq_self.mpr fun _ _ => rfl
              rw [upd_same, e, List.map_map]
              rfl
            · have e : (z.cps.toList.map lower).all id = z.cps.toList.all lower := by simp
              rw [e]
              exact q _ fun b o hb => by rw [upd_ne (ne_of_none hb hD)]; exact hb
    · refine ⟨_, "str", false, rfl, n, ?_⟩
      walk_at "rd"
      exact q H (Same.refl H)
theorem c_is_name (T : Txt K mg) : Cal P w K mg base (L2.CX P w) 1 "is_name" ["thing"] (spName K) :=
  T.d_is_name.cal (fun F => ok_is_name T F) fun _ _ _ _ _ _ us hl => match us, hl with | [_], _ => rfl
theorem k_is_name (T : Txt K mg) : CalK P w K mg base (L2.CX P w) 1 "is_name" ["thing"] (spName K) ["thing"] k1 :=
  T.d_is_name.calk (fun F => ok_is_name T F) k1 k1 (fun _ _ _ _ _ _ us ws hl => match us, ws, hl with | [], [_], _ => rfl) k1_rel
end
end K1
set_option linter.all false
set_option maxRecDepth 100000
set_option maxHeartbeats 4000000
namespace K1
open PySem PySem.Spec PyProof.Rows L2 Gx
local macro_rules | `(tactic| walk_at "rd1") => `(tactic| with_reducible first
  | refine r_var rfl ?_ | refine r_c ?_ | refine r_op ?_ | refine r_un ?_ | refine r_I0 ?_ | refine r_neg ?_ | refine r_test ?_ | refine r_B ?_ | refine r_bl ?_ | refine r_blx ?_
  | refine r_seq ?_ | refine r_ret ?_ | refine r_asg ?_ | refine r_name ?_ | refine r_gsub ?_ | refine r_if ?_ | refine r_next ?_ | refine r_drop ?_ | refine r_cb ?_ | refine r_nil ?_ | refine r_cons ?_
  | refine r_g ?_ | refine r_k ?_ | refine r_lst ?_ | refine r_tup ?_ | refine r_notV ?_ | refine r_ifE ?_ | refine r_and ?_ | refine r_or ?_ | refine r_not ?_ | refine r_chain ?_
  | refine r_sl ?_ | refine r_part ?_ | refine r_nop ?_ | refine r_par3 ?_ | refine r_is3 ?_ | refine r_par2 ?_ | refine r_is2 ?_ | refine r_m0 ?_ | refine r_ei ?_ | refine r_nx ?_ | refine r_rt ?_ | refine r_ct ?_ | refine r_eq rfl ?_ | refine r_ne rfl ?_ | refine iteT ?_ | refine iteF ?_ | refine iteNF ?_ | refine iteNT ?_
  | (refine r_fdivK ?hc ?_; (case hc => decide +kernel)) | (refine r_modK ?hc ?_; (case hc => decide +kernel)) | (refine r_mulL ?hc ?_; (case hc => decide +kernel)) | (refine r_mulR ?hc ?_; (case hc => decide +kernel)) | (refine r_powK ?hc ?_; (case hc => decide +kernel)) | fail "no step")
local macro_rules | `(tactic| walk_at "rd") => `(tactic| repeat' walk_at "rd1")
section
variable {P : Program} {w : World} {K : PySem.W.Frag} {mg : Str → Option Value} {base : Heap} {f : Addr} {fd : FuncData}
/-! ### _law_cell, _law_box, _law_sign -/
def spCell (K : PySem.W.Frag) : Sp := fun vs H Q _ => ∃ (a : Addr) (ns : List Int) (j : Nat), vs = [.ref a, .int (j : Int)] ∧ SqL K H a (ns.map V.int) ∧ ∀ i : Int, Q (.int i) H
theorem sc_law_cell : FnScope ["script", "k"] ["script", "k"] (defScope s_law_cell) := ⟨rfl, rfl, rfl, by decide +kernel, rfl, by decide +kernel, by decide +kernel⟩
theorem ok_law_cell (T : Txt K mg) (F : Fun K "_law_cell" "_law_cell" s_law_cell f fd) : FnG P w K mg base (L2.CX P w) 1 f fd ["script", "k"] (spCell K) := by
  refine fnG F sc_law_cell (fun vs H Q E h => ?_) (fun cdv A outer s H vs Q E hG hr h => ?_)
  · obtain ⟨_, _, _, rfl, _⟩ := h
    rfl
  · obtain ⟨a, ns, j, rfl, hS, q⟩ := h
    refine ⟨_, (pss_cons (ps_if (pt_cmpR op_lt (pv 1) (pe_callB call_len_seq (by rfl) T.n_len PySem.boot_len (pa_cons (pv 0) pa_nil)) (nomark _)) (pss_one (ps_ret (pe_ix ix_list (pv 0) (pv 1) (fun _ _ => rfl)))) pss_nil)
        (pss_one (ps_ret (pe_op op_add (pe_op op_mul pe_int (pv 1)) pe_int)))), ?_⟩
    walk_at "rd"
    refine ⟨a, _, rfl, .inl hS, ?_⟩
    walk_at "rd"
    refine ite2 (fun c => ?_) (fun c => ?_)
    · have c' : (j : Int) < ((ns.map V.int).length : Int) := of_decide_eq_true c
      have hj : j < ns.length := by rw [List.length_map] at c'; omega
      walk_at "rd"
      refine r_ixL (j := j) (v := .int ns[j]) hS rfl (by simp [hj]) ?_
      exact q _
    · walk_at "rd"
      exact q _
theorem c_law_cell (T : Txt K mg) : Cal P w K mg base (L2.CX P w) 1 "_law_cell" ["script", "k"] (spCell K) :=
  T.d_cell.cal (fun F => ok_law_cell T F) fun _ _ _ _ _ _ us hl => match us, hl with | [_, _], _ => rfl
def spBox : Sp := fun vs H Q _ => ∃ i : Int, vs = [.int i] ∧ ∀ b H', H b = none → Bx 0 H' b → Same H H' → Q (.ref b) H'
theorem sc_law_box : FnScope ["cell"] ["cell"] (defScope s_law_box) := ⟨rfl, rfl, rfl, by decide +kernel, rfl, by decide +kernel, by decide +kernel⟩
theorem ok_law_box (T : Txt K mg) (F : Fun K "_law_box" "_law_box" s_law_box f fd) : FnG P w K mg base (L2.CX P w) 1 f fd ["cell"] spBox := by
  refine fnG F sc_law_box (fun vs H Q E h => ?_) (fun cdv A outer s H vs Q E hG hr h => ?_)
  · obtain ⟨_, rfl, _⟩ := h
    rfl
  · obtain ⟨i, rfl, q⟩ := h
    refine ⟨_, (pss_one (ps_ret (pe_lst (pa_cons (pe_callB (call_max2 rfl) (by rfl) T.n_max (by decide +kernel) (pa_cons pe_int (pa_cons (pe_op op_sub (pv 0) (pe_op op_pow pe_int pe_int)) pa_nil))) (pa_cons (pe_op op_mod (pv 0) pe_int) (pa_cons pe_int pa_nil)))))), ?_⟩
    walk_at "rd"
    refine ⟨_, _, rfl, ?_⟩
    walk_at "rd"
    refine r_new rfl fun b hb => ?_
    refine q b _ hb ⟨_, _, 0, upd_same, ?_, Int.emod_nonneg _ (by decide), ?_, by decide, by decide⟩ fun c o hc => by rw [upd_ne (ne_of_none hc hb)]; exact hc
    · split <;> omega
    · have := Int.emod_lt_of_pos i (show (0 : Int) < 2147483629 by decide)
      omega
theorem c_law_box (T : Txt K mg) : Cal P w K mg base (L2.CX P w) 1 "_law_box" ["cell"] spBox :=
  T.d_box.cal (fun F => ok_law_box T F) fun _ _ _ _ _ _ us hl => match us, hl with | [_], _ => rfl
def spSign : Sp := fun vs H Q _ => ∃ (b : Addr) (n : Nat), vs = [.ref b] ∧ Bx n H b ∧ n < 99999 ∧ ∀ (c : Nat) H', c < 128 → Bx (n + 1) H' b → Off b H H' → Q (.str ⟨#[c]⟩) H'
def signs : Str := " !\"#$&'()*+,-./0123456789:;<=>?@ABCDEFGHIJKLMNOPQRSTUVWXYZ[\\]^_`abcdefghijklmnopqrstuvwxyz{|}~\n"
theorem signs_asc : Asc signs := asc_of (by decide +kernel)
theorem signs_len : signs.cps.toList.length = 95 := by decide +kernel
theorem sc_law_sign : FnScope ["box", "signs"] ["box"] (defScope s_law_sign) := ⟨rfl, rfl, rfl, by decide +kernel, rfl, by decide +kernel, by decide +kernel⟩
theorem ok_law_sign (T : Txt K mg) (F : Fun K "_law_sign" "_law_sign" s_law_sign f fd) : FnG P w K mg base (L2.CX P w) 2 f fd ["box"] spSign := by
  refine fnG F sc_law_sign (fun vs H Q E h => ?_) (fun cdv A outer s H vs Q E hG hr h => ?_)
  · obtain ⟨_, _, rfl, _⟩ := h
    rfl
  · obtain ⟨b, n, rfl, B, hn, q⟩ := h
    have nd := sc_law_sign.nd
    refine ⟨_, (pss_cons (ps_set (i := 1) nd rfl (Or.inl rfl) pe_str)
        (pss_one (ps_ret (pe_ix ix_str (pv 1) (pe_g (c_law_take T) hG (hr.mono (by decide)) (fun _ => passS) (pa_cons (pv 0) (pa_cons pe_int pa_nil))) (fun _ _ => rfl))))), ?_⟩
    walk_at "rd"
    refine ⟨b, 95, n, rfl, by decide, by decide, B, by omega, fun d H' d0 d1 B' o => ?_⟩
    have hd : d.toNat < signs.cps.toList.length := by rw [signs_len]; omega
    refine ⟨signs, d, signs.cps.toList[d.toNat], rfl, rfl, by decide +kernel, at_pos d0 hd, ?_⟩
    exact q _ H' (signs_asc _ (List.getElem_mem hd)) B' o
theorem c_law_sign (T : Txt K mg) : Cal P w K mg base (L2.CX P w) 2 "_law_sign" ["box"] spSign :=
  T.d_sign.cal (fun F => ok_law_sign T F) fun _ _ _ _ _ _ us hl => match us, hl with | [_], _ => rfl
/-! ### _law_bent, _law_is_name -/
def spBent : Sp := fun vs H Q _ => ∃ (b : Addr) (z : Str) (n : Nat), vs = [.ref b, .str z] ∧ Bx n H b ∧ n < 99990 ∧ z.length ≤ 100 ∧ Asc z ∧
  ∀ (z' : Str) H', z'.length ≤ 500 → Asc z' → Bx (n + 3) H' b → Off b H H' → Q (.str z') H'
theorem sc_law_bent : FnScope ["box", "text", "at", "sign", "way"] ["box", "text"] (defScope s_law_bent) := ⟨rfl, rfl, rfl, by decide +kernel, rfl, by decide +kernel, by decide +kernel⟩
theorem ok_law_bent (T : Txt K mg) (F : Fun K "_law_bent" "_law_bent" s_law_bent f fd) : FnG P w K mg base (L2.CX P w) 3 f fd ["box", "text"] spBent := by
  refine fnG F sc_law_bent (fun vs H Q E h => ?_) (fun cdv A outer s H vs Q E hG hr h => ?_)
  · obtain ⟨_, _, _, rfl, _⟩ := h
    rfl
  · obtain ⟨b, z, n, rfl, B, hn, hz, za, q⟩ := h
    have nd := sc_law_bent.nd
    refine ⟨_, (pss_cons (ps_par3 (i := 2) (j := 3) (l := 4) rfl nd rfl rfl rfl (by decide) (by decide) (by decide) rfl rfl rfl (pa_cons (pe_g (c_law_take T) hG (hr.mono (by decide)) (fun _ => passS) (pa_cons (pv 0) (pa_cons (pe_op op_add (pe_callB call_len_str (by rfl) T.n_len PySem.boot_len (pa_cons (pv 1) pa_nil)) pe_int) pa_nil))) (pa_cons (pe_g (c_law_sign T) hG (hr.mono (by decide)) (fun _ => passS) (pa_cons (pv 0) pa_nil)) (pa_cons (pe_g (c_law_take T) hG (hr.mono (by decide)) (fun _ => passS) (pa_cons (pv 0) (pa_cons pe_int pa_nil))) pa_nil))) rfl)
        (pss_cons (ps_if (pt_cmpR op_eq (pv 4) pe_int (nomark _)) (pss_one (ps_ret (pe_op op_add_str (pe_op op_add_str (pe_slice sl_str (pv 1) po_none (po_some (pv 2))) (pv 3)) (pe_slice sl_str (pv 1) (po_some (pv 2)) po_none)))) pss_nil)
        (pss_cons (ps_if (pt_cmpR op_eq (pv 4) pe_int (nomark _)) (pss_one (ps_ret (pe_op op_add_str (pe_slice sl_str (pv 1) po_none (po_some (pv 2))) (pe_slice sl_str (pv 1) (po_some (pe_op op_add (pv 2) pe_int)) po_none)))) pss_nil)
        (pss_cons (ps_if (pt_cmpR op_eq (pv 4) pe_int (nomark _)) (pss_one (ps_ret (pe_op op_add_str (pe_op op_add_str (pe_slice sl_str (pv 1) po_none (po_some (pv 2))) (pv 3)) (pe_slice sl_str (pv 1) (po_some (pe_op op_add (pv 2) pe_int)) po_none)))) pss_nil)
        (pss_one (ps_ret (pe_ifExp (pt_cmpR op_eq (pv 4) pe_int (nomark _)) (pe_op op_add_str (pe_slice sl_str (pv 1) po_none (po_some (pv 2))) (pe_upper (pe_slice sl_str (pv 1) (po_some (pv 2)) po_none))) (pv 1)))))))), ?_⟩
    walk_at "rd"
    refine r_lenS (z := z) (by omega) ?_
    walk_at "rd"
    refine ⟨b, _, n, rfl, by omega, by omega, B, by omega, fun d H1 d0 d1 B1 o1 => ?_⟩
    walk_at "rd"
    refine ⟨b, n + 1, rfl, B1, by omega, fun c H2 ca B2 o2 => ?_⟩
    walk_at "rd"
    refine ⟨b, 6, n + 1 + 1, rfl, by decide, by decide, B2, by omega, fun k H3 k0 k1 B3 o3 => ?_⟩
    have o := (o1.trans o2).trans o3
    have l1 : ∀ lo hi, (cutS z lo hi).length ≤ z.length := fun lo hi => cutS_length z lo hi
    have l2 : (⟨#[c]⟩ : Str).length = 1 := rfl
    have l3 := l1 none (some d)
    have l4 := l1 (some d) none
    have l5 := l1 (some (d + 1)) none
    walk_at "rd"
    refine ite2 (fun c1 => ?_) (fun c1 => ?_)
    · walk_at "rd"
      refine r_slS (by omega) ?_
      walk_at "rd"
      refine r_addS (by omega) ?_
      walk_at "rd"
      refine r_slS (by omega) ?_
      walk_at "rd"
      refine r_addS (by rw [app_len]; omega) ?_
      exact q _ H3 (by rw [app_len, app_len]; omega) (asc_app (asc_app (asc_cut za _ _) (asc_one ca)) (asc_cut za _ _)) B3 o
    walk_at "rd"
    refine ite2 (fun c2 => ?_) (fun c2 => ?_)
    · walk_at "rd"
      refine r_slS (by omega) ?_
      walk_at "rd"
      refine r_slS (by omega) ?_
      refine r_addS (by omega) ?_
      exact q _ H3 (by rw [app_len]; omega) (asc_app (asc_cut za _ _) (asc_cut za _ _)) B3 o
    walk_at "rd"
    refine ite2 (fun c3 => ?_) (fun c3 => ?_)
    · walk_at "rd"
      refine r_slS (by omega) ?_
      walk_at "rd"
      refine r_addS (by omega) ?_
      walk_at "rd"
      refine r_slS (by omega) ?_
      refine r_addS (by rw [app_len]; omega) ?_
      exact q _ H3 (by rw [app_len, app_len]; omega) (asc_app (asc_app (asc_cut za _ _) (asc_one ca)) (asc_cut za _ _)) B3 o
    walk_at "rd"
    refine ite2 (fun c4 => ?_) (fun c4 => ?_)
    · walk_at "rd"
      refine r_slS (by omega) ?_
      walk_at "rd"
      refine r_slS (by omega) ?_
      refine ⟨⟨_, rfl⟩, _, rfl, rfl, by omega, ?_⟩
      have l6 := PyProof.Rows.len_upper (cutS z (some d) none)
      refine r_addS (by omega) ?_
      exact q _ H3 (by rw [app_len]; omega) (asc_app (asc_cut za _ _) (asc_upper (asc_cut za _ _))) B3 o
    · walk_at "rd"
      exact q _ H3 (by omega) za B3 o
theorem c_law_bent (T : Txt K mg) : Cal P w K mg base (L2.CX P w) 3 "_law_bent" ["box", "text"] spBent :=
  T.d_bent.cal (fun F => ok_law_bent T F) fun _ _ _ _ _ _ us hl => match us, hl with | [_, _], _ => rfl
end
end K1
set_option linter.all false
set_option maxRecDepth 100000
set_option maxHeartbeats 4000000
namespace K1
open PySem PySem.Spec PyProof.Rows L2 Gx
local macro_rules | `(tactic| walk_at "rd1") => `(tactic| with_reducible first
  | refine r_var rfl ?_ | refine r_c ?_ | refine r_op ?_ | refine r_un ?_ | refine r_I0 ?_ | refine r_neg ?_ | refine r_test ?_ | refine r_B ?_ | refine r_bl ?_ | refine r_blx ?_
  | refine r_seq ?_ | refine r_ret ?_ | refine r_asg ?_ | refine r_name ?_ | refine r_gsub ?_ | refine r_if ?_ | refine r_next ?_ | refine r_drop ?_ | refine r_cb ?_ | refine r_nil ?_ | refine r_cons ?_
  | refine r_g ?_ | refine r_k ?_ | refine r_lst ?_ | refine r_tup ?_ | refine r_notV ?_ | refine r_ifE ?_ | refine r_and ?_ | refine r_or ?_ | refine r_not ?_ | refine r_chain ?_
  | refine r_sl ?_ | refine r_part ?_ | refine r_nop ?_ | refine r_par3 ?_ | refine r_is3 ?_ | refine r_par2 ?_ | refine r_is2 ?_ | refine r_m0 ?_ | refine r_ei ?_ | refine r_nx ?_ | refine r_rt ?_ | refine r_ct ?_ | refine r_eq rfl ?_ | refine r_ne rfl ?_ | refine iteT ?_ | refine iteF ?_ | refine iteNF ?_ | refine iteNT ?_
  | (refine r_fdivK ?hc ?_; (case hc => decide +kernel)) | (refine r_modK ?hc ?_; (case hc => decide +kernel)) | (refine r_mulL ?hc ?_; (case hc => decide +kernel)) | (refine r_mulR ?hc ?_; (case hc => decide +kernel)) | (refine r_powK ?hc ?_; (case hc => decide +kernel)) | fail "no step")
local macro_rules | `(tactic| walk_at "rd") => `(tactic| repeat' walk_at "rd1")
section
variable {P : Program} {w : World} {K : PySem.W.Frag} {mg : Str → Option Value} {base : Heap} {f : Addr} {fd : FuncData}
/-! ### _law_is_name -/
def spLName : Sp := fun vs H Q _ => ∃ z, vs = [.str z] ∧ z.length ≤ 1000 ∧ Asc z ∧ ∀ H', Same H H' → Q (.bl (nameB z)) H'
def alphabet : Str := "abcdefghijklmnopqrstuvwxyz"
theorem alphabet_is : alphabet.cps.toList = List.map (fun i => 97 + i) (List.range 26) := by decide +kernel
theorem in_alphabet (c : Nat) : decide (c ∈ alphabet.cps.toList) = lower c := by
  rw [alphabet_is]
  unfold lower
  by_cases h1 : 97 ≤ c
  · by_cases h2 : c ≤ 122
    · have h : c ∈ List.map (fun i => 97 + i) (List.range 26) := List.mem_map.mpr ⟨c - 97, List.mem_range.mpr (by omega), by omega⟩
      simp [h1, h2, h]
    · have h : ¬ c ∈ List.map (fun i => 97 + i) (List.range 26) := fun z => by
        obtain ⟨i, hi, e⟩ := List.mem_map.mp z
        have := List.mem_range.mp hi
        omega
      simp only [h, h2, decide_false, Bool.and_false]
  · have h : ¬ c ∈ List.map (fun i => 97 + i) (List.range 26) := fun z => by
      obtain ⟨i, hi, e⟩ := List.mem_map.mp z
      omega
    simp only [h, h1, decide_false, Bool.false_and]
theorem dp_signs (H : Hp) : ∀ l : List Nat, DpAll K H (l.map fun c => V.str ⟨#[c]⟩) (l.map fun c => PyData.str ⟨#[c]⟩)
  | [] => .nil
  | c :: l => .cons (.str _) (dp_signs H l)
theorem shaped_signs (l : List Nat) (hl : ∀ c ∈ l, c < 128) : SeqAt.shaped (.list (l.map fun c => PyData.str ⟨#[c]⟩)) = true := by
  have h1 : ∀ l : List Nat, (∀ c ∈ l, c < 128) → PyData.canLayAll0 (l.map fun c => PyData.str ⟨#[c]⟩) = true := fun l => by
    induction l with
    | nil => exact fun _ => rfl
    | cons c l ih =>
      intro hl
      have hc : c < 1114112 := Nat.lt_trans (hl c List.mem_cons_self) (by decide)
      simp [PyData.canLayAll0, PyData.canLay0, PyData.strOk, hc, ih fun d hd => hl d (List.mem_cons_of_mem _ hd)]
  have h2 : ∀ l : List Nat, PyData.depthAll (l.map fun c => PyData.str ⟨#[c]⟩) = 0 := fun l => by
    induction l with
    | nil => rfl
    | cons c l ih => simp [PyData.depthAll, PyData.depth, ih]
  unfold SeqAt.shaped
  simp [PyData.canLay0, PyData.depth, h1 l hl, h2]
theorem eqv_nil (l : List Nat) : PyData.eqv (.list (l.map fun c => PyData.str ⟨#[c]⟩)) (.list []) = l.isEmpty := by
  cases l with
  | nil => simp [PyData.eqv, PyData.eqvAll]
  | cons c l => simp [PyData.eqv, PyData.eqvAll]
theorem filter_empty (l : List Nat) : (l.filter fun c => !lower c).isEmpty = l.all lower := by
  induction l with
  | nil => rfl
  | cons c l ih =>
    cases h : lower c with
    | true => simp [h, ih]
    | false => simp [h]
theorem sc_law_is_name : FnScope ["text", "letters", "sign"] ["text"] (defScope s_law_is_name) := ⟨rfl, rfl, rfl, by decide +kernel, rfl, by decide +kernel, by decide +kernel⟩
theorem ok_law_is_name (T : Txt K mg) (F : Fun K "_law_is_name" "_law_is_name" s_law_is_name f fd) : FnG P w K mg base (L2.CX P w) 1 f fd ["text"] spLName := by
  refine fnG F sc_law_is_name (fun vs H Q E h => ?_) (fun cdv A outer s H vs Q E hG hr h => ?_)
  · obtain ⟨_, rfl, _⟩ := h
    rfl
  · obtain ⟨z, rfl, hz, za, q⟩ := h
    have nd := sc_law_is_name.nd
    refine ⟨_, (pss_cons (ps_set (i := 1) nd rfl (Or.inr rfl) pe_str)
        (pss_one (ps_ret (pe_and (pe_chain op_le op_le pe_int (pe_callB call_len_str (by rfl) T.n_len PySem.boot_len (pa_cons (pv 0) pa_nil)) pe_int) (pe_one (pe_cmpR (op_eqD hr.units) (pe_lc (own := [("sign", 2)]) (g := gName 2) rfl nd (pi_str (pv 0)) (blkOk_by (N := ["text", "letters", "sign"]) (sc := defScope s_law_is_name) (by decide +kernel)) (fun _ _ _ _ _ => pg_name (i := 2) nd rfl (Or.inl rfl)) (fun _ _ _ _ _ => (pts_one (pt_cmpR op_notIn_sign (pv 2) (pv 1) (by rfl)))) (fun _ _ _ _ _ => (pv 2))) (pe_lst pa_nil) (nomark _))))))), ?_⟩
    walk_at "rd"
    refine r_andV ?_
    walk_at "rd"
    refine r_lenS (by omega) ?_
    walk_at "rd"
    unfold nameB at q
    cases h1 : decide ((1 : Int) ≤ z.length) with
    | false =>
      rw [h1] at q
      walk_at "rd"
      exact q H (Same.refl H)
    | true =>
      rw [h1] at q
      walk_at "rd"
      cases h2 : decide ((z.length : Int) ≤ 8) with
      | false =>
        rw [h2] at q
        walk_at "rd"
        exact q H (Same.refl H)
      | true =>
        rw [h2] at q
        walk_at "rd"
        refine r_lcS (z := z) (fun c => .str ⟨#[c]⟩) (fun c => !lower c) (fun R r => r_var rfl r) (by omega) (fun _ => rfl) (fun c H1 QB r => ?_) (fun c H1 Q1 r => r_var rfl r) (fun D hD => ?_)
        · walk_at "rd"
          refine ⟨c, alphabet, rfl, rfl, ?_⟩
          rw [in_alphabet]
          exact ⟨_, rfl, r⟩
        · walk_at "rd"
          refine r_new rfl fun e he => ?_
          have hD2 : upd (upd H D (.lst ((z.cps.toList.filter fun c => !lower c).map fun c => .str ⟨#[c]⟩))) e (.lst []) D = some (.lst ((z.cps.toList.filter fun c => !lower c).map fun c => .str ⟨#[c]⟩)) := by
            rw [upd_ne (ne_of_none upd_same he), upd_same]
          refine ⟨_, _, .lst (SqL.of hD2) (dp_signs _ _), .lst (SqL.of upd_same) .nil, shaped_signs _ (fun c hc => za c (List.mem_filter.mp hc).1), rfl, ?_⟩
          rw [eqv_nil, filter_empty]
          refine q _ fun b o hb => ?_
          have nb := ne_of_none hb hD
          rw [upd_ne, upd_ne nb]
          · exact hb
          · exact ne_of_none (by rw [upd_ne nb]; exact hb) he
theorem c_law_is_name (T : Txt K mg) : Cal P w K mg base (L2.CX P w) 1 "_law_is_name" ["text"] spLName :=
  T.d_lname.cal (fun F => ok_law_is_name T F) fun _ _ _ _ _ _ us hl => match us, hl with | [_], _ => rfl
end
end K1
set_option linter.all false
set_option maxRecDepth 100000
set_option maxHeartbeats 4000000
namespace K1
open PySem PySem.Spec PyProof.Rows L2 Gx
local macro_rules | `(tactic| walk_at "rd1") => `(tactic| with_reducible first
  | refine r_var rfl ?_ | refine r_c ?_ | refine r_op ?_ | refine r_un ?_ | refine r_I0 ?_ | refine r_neg ?_ | refine r_test ?_ | refine r_B ?_ | refine r_bl ?_ | refine r_blx ?_
  | refine r_seq ?_ | refine r_ret ?_ | refine r_asg ?_ | refine r_name ?_ | refine r_gsub ?_ | refine r_if ?_ | refine r_next ?_ | refine r_drop ?_ | refine r_cb ?_ | refine r_nil ?_ | refine r_cons ?_
  | refine r_g ?_ | refine r_k ?_ | refine r_lst ?_ | refine r_tup ?_ | refine r_notV ?_ | refine r_ifE ?_ | refine r_and ?_ | refine r_or ?_ | refine r_not ?_ | refine r_chain ?_
  | refine r_sl ?_ | refine r_part ?_ | refine r_nop ?_ | refine r_par3 ?_ | refine r_is3 ?_ | refine r_par2 ?_ | refine r_is2 ?_ | refine r_m0 ?_ | refine r_ei ?_ | refine r_nx ?_ | refine r_rt ?_ | refine r_ct ?_ | refine r_eq rfl ?_ | refine r_ne rfl ?_ | refine iteT ?_ | refine iteF ?_ | refine iteNF ?_ | refine iteNT ?_
  | (refine r_fdivK ?hc ?_; (case hc => decide +kernel)) | (refine r_modK ?hc ?_; (case hc => decide +kernel)) | (refine r_mulL ?hc ?_; (case hc => decide +kernel)) | (refine r_mulR ?hc ?_; (case hc => decide +kernel)) | (refine r_powK ?hc ?_; (case hc => decide +kernel)) | fail "no step")
local macro_rules | `(tactic| walk_at "rd") => `(tactic| repeat' walk_at "rd1")
section
variable {P : Program} {w : World} {K : PySem.W.Frag} {mg : Str → Option Value} {base : Heap} {f : Addr} {fd : FuncData}
theorem r_show {H : Hp} {Q : VK} {v : V} (d : PyData) (hd : Gx.IsD H d v) (h1 : (!d.hasDict && (d.showable && (decide (d.depth ≤ 20) && decide (d.shown.length ≤ sizeLine)))) = true) (q : Q (.str d.shown) H) : rShow [v] H Q := by
  simp only [Bool.and_eq_true, Bool.not_eq_true', decide_eq_true_eq] at h1
  exact ⟨v, d, rfl, hd, h1.1, h1.2.1, h1.2.2.1, h1.2.2.2, q⟩
theorem r_showB {H : Hp} {Q : VK} {b : Bool} (q : Q (.str (PyData.bool b).shown) H) : rShow [.bl b] H Q := r_show (.bool b) (by unfold Gx.IsD; rfl) (by cases b <;> decide +kernel) q
/-! ### _law_number_right -/
def spRight : Sp := fun vs H Q _ => ∃ (b : Addr) (n : Nat), vs = [.ref b] ∧ Bx n H b ∧ n < 90000 ∧ ∀ H', Bx (n + 10) H' b → Off b H H' → Q (.bl true) H'
theorem sc_law_number_right : FnScope ["box", "ends", "near", "number", "lower", "upper", "due", "told"] ["box"] (defScope s_law_number_right) := ⟨rfl, rfl, rfl, by decide +kernel, rfl, by decide +kernel, by decide +kernel⟩
theorem ok_law_number_right (T : Txt K mg) (F : Fun K "_law_number_right" "_law_number_right" s_law_number_right f fd) : FnG P w K mg base (L2.CX P w) 4 f fd ["box"] spRight := by
  refine fnG F sc_law_number_right (fun vs H Q E h => ?_) (fun cdv A outer s H vs Q E hG hr h => ?_)
  · obtain ⟨_, _, rfl, _⟩ := h
    rfl
  · obtain ⟨b, n, rfl, B, hn, q⟩ := h
    have nd := sc_law_number_right.nd
    refine ⟨_, (pss_cons (ps_set (i := 1) nd rfl (Or.inl rfl) (pe_lst (pa_cons pe_int (pa_cons (pe_un un_neg pe_int) (pa_cons pe_int (pa_cons (pe_un un_neg pe_int) (pa_cons pe_int (pa_cons (pe_op op_pow pe_int pe_int) (pa_cons (pe_op op_sub pe_int (pe_op op_pow pe_int pe_int)) pa_nil)))))))))
        (pss_cons (ps_set (i := 2) nd rfl (Or.inl rfl) (pe_ix ix_list (pe_op op_cat (pv 1) (pe_lst (pa_cons (pe_g (c_law_take T) hG (hr.mono (by decide)) (fun _ => passS) (pa_cons (pv 0) (pa_cons (pe_op op_pow pe_int pe_int) pa_nil))) pa_nil))) (pe_g (c_law_take T) hG (hr.mono (by decide)) (fun _ => passS) (pa_cons (pv 0) (pa_cons pe_int pa_nil))) (fun _ _ => rfl)))
        (pss_cons (ps_set (i := 3) nd rfl (Or.inl rfl) (pe_op op_sub (pe_op op_add (pv 2) (pe_g (c_law_take T) hG (hr.mono (by decide)) (fun _ => passS) (pa_cons (pv 0) (pa_cons pe_int pa_nil)))) pe_int))
        (pss_cons (ps_set (i := 4) nd rfl (Or.inl rfl) (pe_op op_add (pv 3) (pe_ix ix_list (pe_lst (pa_cons pe_int (pa_cons pe_int (pa_cons (pe_un un_neg pe_int) (pa_cons (pe_un un_neg (pe_op op_pow pe_int pe_int)) (pa_cons (pe_op op_pow pe_int pe_int) pa_nil)))))) (pe_g (c_law_take T) hG (hr.mono (by decide)) (fun _ => passS) (pa_cons (pv 0) (pa_cons pe_int pa_nil))) (fun _ _ => rfl))))
        (pss_cons (ps_set (i := 5) nd rfl (Or.inl rfl) (pe_op op_add (pv 3) (pe_ix ix_list (pe_lst (pa_cons pe_int (pa_cons pe_int (pa_cons (pe_un un_neg pe_int) (pa_cons (pe_un un_neg (pe_op op_pow pe_int pe_int)) (pa_cons (pe_op op_pow pe_int pe_int) pa_nil)))))) (pe_g (c_law_take T) hG (hr.mono (by decide)) (fun _ => passS) (pa_cons (pv 0) (pa_cons pe_int pa_nil))) (fun _ _ => rfl))))
        (pss_cons (ps_set (i := 6) nd rfl (Or.inl rfl) (pe_callB (call_show hG hr.units) (by rfl) T.n_repr (by decide +kernel) (pa_cons (pe_and (pe_cmpR op_le (pv 4) (pv 3) (nomark _)) (pe_one (pe_cmpR op_le (pv 3) (pv 5) (nomark _)))) pa_nil)))
        (pss_cons (ps_if (pt_cmpR op_ne (pe_callB (call_show hG hr.units) (by rfl) T.n_repr (by decide +kernel) (pa_cons (pe_g (c_is_whole T) hG (hr.mono (by decide)) (fun _ => passS) (pa_cons (pv 3) (pa_cons (pv 4) (pa_cons (pv 5) pa_nil)))) pa_nil)) (pv 6) (nomark _)) (pss_one (ps_ret pe_bl)) pss_nil)
        (pss_cons (ps_if (pt_cmpR op_ne (pe_callB (call_show hG hr.units) (by rfl) T.n_repr (by decide +kernel) (pa_cons (pe_k (k_is_whole T) hG (hr.mono (by decide)) (fun _ => passS) (pk_cons (pv 5) (pk_cons (pv 4) (pk_cons (pv 3) pk_nil)))) pa_nil)) (pv 6) (nomark _)) (pss_one (ps_ret pe_bl)) pss_nil)
        (pss_cons (ps_set (i := 7) nd rfl (Or.inl rfl) (pe_callB (call_show hG hr.units) (by rfl) T.n_repr (by decide +kernel) (pa_cons (pe_and (pe_cmpR op_le (pe_un un_neg pe_int) (pv 3) (nomark _)) (pe_one (pe_cmpR op_le (pv 3) pe_int (nomark _)))) pa_nil)))
        (pss_one (ps_ret (pe_and (pe_cmpR op_eq (pe_callB (call_show hG hr.units) (by rfl) T.n_repr (by decide +kernel) (pa_cons (pe_g (c_is_worth T) hG (hr.mono (by decide)) (fun _ => passS) (pa_cons (pv 3) pa_nil)) pa_nil)) (pv 7) (nomark _)) (pe_one (pe_cmpR op_eq (pe_callB (call_show hG hr.units) (by rfl) T.n_repr (by decide +kernel) (pa_cons (pe_k (k_is_worth T) hG (hr.mono (by decide)) (fun _ => passS) (pk_cons (pv 3) pk_nil)) pa_nil)) (pv 7) (nomark _))))))))))))))), ?_⟩
    walk_at "rd"
    refine r_new rfl fun e he => ?_
    walk_at "rd"
    have eb := B.ne he
    refine ⟨b, _, n, rfl, by decide, by decide, B.new he, by omega, fun d H1 d0 d1 B1 o1 => ?_⟩
    have h1 := o1 e _ eb upd_same
    walk_at "rd"
    refine r_new rfl fun p hp => ?_
    refine ⟨e, p, _, _, rfl, rfl, by rw [upd_ne (ne_of_none h1 hp)]; exact h1, upd_same, by show 8 ≤ sizeLine; decide, fun r hr2 => ?_⟩
    walk_at "rd"
    have B2 := (B1.new (o := .lst [.int d]) hp)
    have rb := B2.ne hr2
    refine ⟨b, _, n + 1, rfl, by decide, by decide, B2.new hr2, by omega, fun k H2 k0 k1 B3 o2 => ?_⟩
    have h2 := o2 r _ rb upd_same
    refine r_ixI h2 rfl k0 k1 fun near => ?_
    walk_at "rd"
    refine ⟨b, _, n + 1 + 1, rfl, by decide, by decide, B3, by omega, fun c H3 c0 c1 B4 o3 => ?_⟩
    walk_at "rd"
    have O : Gx.Off b H H3 := (((Off.new he).trans o1).trans ((Off.new hp).trans (Off.new hr2))).trans (o2.trans o3)
    generalize near + c - 1 = number
    refine r_new rfl fun g hg => ?_
    have gb := B4.ne hg
    walk_at "rd"
    refine ⟨b, _, _, rfl, by decide, by decide, B4.new hg, by omega, fun c H4 c0 c1 B5 o4 => ?_⟩
    refine r_ixI (o4 g _ gb upd_same) rfl c0 c1 fun lo => ?_
    walk_at "rd"
    refine r_new rfl fun g2 hg2 => ?_
    have gb2 := B5.ne hg2
    walk_at "rd"
    refine ⟨b, _, _, rfl, by decide, by decide, B5.new hg2, by omega, fun c H5 c0 c1 B6 o5 => ?_⟩
    refine r_ixI (o5 g2 _ gb2 upd_same) rfl c0 c1 fun hi => ?_
    walk_at "rd"
    have O2 : Gx.Off b H H5 := (O.trans (Off.new hg)).trans (o4.trans ((Off.new hg2).trans o5))
    refine r_and2 (decide (number + lo ≤ number)) (decide (number ≤ number + hi)) (fun R r => ?_) (fun _ R r => ?_) ?_
    · walk_at "rd"
      exact r
    · walk_at "rd"
      exact r
    walk_at "rd"
    refine r_showB ?_
    walk_at "rd"
    refine ⟨_, number + lo, number + hi, _, rfl, .inl ⟨number, rfl, rfl⟩, ?_⟩
    walk_at "rd"
    refine r_showB ?_
    walk_at "rd"
    refine iteNE rfl ?_
    walk_at "rd"
    refine ⟨.int number, number + lo, number + hi, _, rfl, .inl ⟨number, rfl, rfl⟩, ?_⟩
    walk_at "rd"
    refine r_showB ?_
    walk_at "rd"
    refine iteNE rfl ?_
    walk_at "rd"
    refine r_and2 (decide (-2048 ≤ number)) (decide (number ≤ 2047)) (fun R r => ?_) (fun _ R r => ?_) ?_
    · walk_at "rd"
      exact r
    · walk_at "rd"
      exact r
    walk_at "rd"
    refine r_showB ?_
    walk_at "rd"
    refine r_andV ?_
    walk_at "rd"
    refine ⟨_, _, rfl, .inl ⟨number, rfl, rfl⟩, ?_⟩
    walk_at "rd"
    refine r_showB ?_
    walk_at "rd"
    refine iteE rfl ?_
    walk_at "rd"
    refine ⟨.int number, _, rfl, .inl ⟨number, rfl, rfl⟩, ?_⟩
    walk_at "rd"
    refine r_showB ?_
    walk_at "rd"
    rw [decide_eq_true rfl]
    exact q _ (B6.up (by omega)) O2
theorem c_law_number_right (T : Txt K mg) : Cal P w K mg base (L2.CX P w) 4 "_law_number_right" ["box"] spRight :=
  T.d_number_right.cal (fun F => ok_law_number_right T F) fun _ _ _ _ _ _ us hl => match us, hl with | [_], _ => rfl
end
end K1
set_option linter.all false
set_option maxRecDepth 100000
set_option maxHeartbeats 4000000
namespace K1
open PySem PySem.Spec PyProof.Rows L2 Gx
local macro_rules | `(tactic| walk_at "rd1") => `(tactic| with_reducible first
  | refine r_var rfl ?_ | refine r_c ?_ | refine r_op ?_ | refine r_un ?_ | refine r_I0 ?_ | refine r_neg ?_ | refine r_test ?_ | refine r_B ?_ | refine r_bl ?_ | refine r_blx ?_
  | refine r_seq ?_ | refine r_ret ?_ | refine r_asg ?_ | refine r_name ?_ | refine r_gsub ?_ | refine r_if ?_ | refine r_next ?_ | refine r_drop ?_ | refine r_cb ?_ | refine r_nil ?_ | refine r_cons ?_
  | refine r_g ?_ | refine r_k ?_ | refine r_lst ?_ | refine r_tup ?_ | refine r_notV ?_ | refine r_ifE ?_ | refine r_and ?_ | refine r_or ?_ | refine r_not ?_ | refine r_chain ?_
  | refine r_sl ?_ | refine r_part ?_ | refine r_nop ?_ | refine r_par3 ?_ | refine r_is3 ?_ | refine r_par2 ?_ | refine r_is2 ?_ | refine r_m0 ?_ | refine r_ei ?_ | refine r_nx ?_ | refine r_rt ?_ | refine r_ct ?_ | refine r_eq rfl ?_ | refine r_ne rfl ?_ | refine iteT ?_ | refine iteF ?_ | refine iteNF ?_ | refine iteNT ?_
  | (refine r_fdivK ?hc ?_; (case hc => decide +kernel)) | (refine r_modK ?hc ?_; (case hc => decide +kernel)) | (refine r_mulL ?hc ?_; (case hc => decide +kernel)) | (refine r_mulR ?hc ?_; (case hc => decide +kernel)) | (refine r_powK ?hc ?_; (case hc => decide +kernel)) | fail "no step")
local macro_rules | `(tactic| walk_at "rd") => `(tactic| repeat' walk_at "rd1")
section
variable {P : Program} {w : World} {K : PySem.W.Frag} {mg : Str → Option Value} {base : Heap} {f : Addr} {fd : FuncData}
theorem allD_bools {H : Hp} : ∀ bs : List Bool, Gx.AllD H (bs.map PyData.bool) (bs.map V.bl)
  | [] => by simp [Gx.AllD]
  | b :: bs => by
    show Gx.AllD H (.bool b :: bs.map PyData.bool) (.bl b :: bs.map V.bl)
    unfold Gx.AllD
    exact ⟨_, _, rfl, by unfold Gx.IsD; rfl, allD_bools bs⟩
theorem isD_bools {H : Hp} {p : Addr} (bs : List Bool) (h : H p = some (.lst (bs.map V.bl))) : Gx.IsD H (.list (bs.map PyData.bool)) (.ref p) := by
  unfold Gx.IsD
  exact ⟨p, _, rfl, h, allD_bools bs⟩
theorem show3 (a b c : Bool) : (!(PyData.list ([a, b, c].map PyData.bool)).hasDict && ((PyData.list ([a, b, c].map PyData.bool)).showable && (decide ((PyData.list ([a, b, c].map PyData.bool)).depth ≤ 20) && decide ((PyData.list ([a, b, c].map PyData.bool)).shown.length ≤ sizeLine)))) = true := by
  cases a <;> cases b <;> cases c <;> decide +kernel
theorem same_new {H : Hp} {p : Addr} {o : HO} (h : H p = none) : Same H (upd H p o) := fun b u hb => by
  rw [upd_ne (ne_of_none hb h)]
  exact hb
/-! ### _law_text_right -/
def spTextRight : Sp := fun vs H Q _ => ∃ z, vs = [.str z] ∧ z.length ≤ 1000 ∧ Asc z ∧ ∀ H', Same H H' → Q (.bl true) H'
theorem sc_law_text_right : FnScope ["text", "due", "found", "told"] ["text"] (defScope s_law_text_right) := ⟨rfl, rfl, rfl, by decide +kernel, rfl, by decide +kernel, by decide +kernel⟩
theorem ok_law_text_right (T : Txt K mg) (F : Fun K "_law_text_right" "_law_text_right" s_law_text_right f fd) : FnG P w K mg base (L2.CX P w) 4 f fd ["text"] spTextRight := by
  refine fnG F sc_law_text_right (fun vs H Q E h => ?_) (fun cdv A outer s H vs Q E hG hr h => ?_)
  · obtain ⟨_, rfl, _⟩ := h
    rfl
  · obtain ⟨z, rfl, hz, za, q⟩ := h
    have nd := sc_law_text_right.nd
    refine ⟨_, (pss_cons (ps_set (i := 1) nd rfl (Or.inl rfl) (pe_lst (pa_cons (pe_g (c_law_is_name T) hG (hr.mono (by decide)) (fun _ => passS) (pa_cons (pv 0) pa_nil)) (pa_cons (pe_cmpR op_in_seq (pv 0) (pe_lst (pa_cons pe_str (pa_cons pe_str (pa_cons pe_str pa_nil)))) (by rfl)) (pa_cons (pe_cmpR op_in_seq (pv 0) (pe_lst (pa_cons pe_str (pa_cons pe_str (pa_cons pe_str (pa_cons pe_str (pa_cons pe_str pa_nil)))))) (by rfl)) pa_nil)))))
        (pss_cons (ps_set (i := 2) nd rfl (Or.inl rfl) (pe_lst (pa_cons (pe_g (c_is_name T) hG (hr.mono (by decide)) (fun _ => passS) (pa_cons (pv 0) pa_nil)) (pa_cons (pe_g (c_is_manner T) hG (hr.mono (by decide)) (fun _ => passS) (pa_cons (pv 0) pa_nil)) (pa_cons (pe_g (c_is_table T) hG (hr.mono (by decide)) (fun _ => passS) (pa_cons (pv 0) pa_nil)) pa_nil)))))
        (pss_cons (ps_set (i := 3) nd rfl (Or.inl rfl) (pe_lst (pa_cons (pe_k (k_is_name T) hG (hr.mono (by decide)) (fun _ => passS) (pk_cons (pv 0) pk_nil)) (pa_cons (pe_k (k_is_manner T) hG (hr.mono (by decide)) (fun _ => passS) (pk_cons (pv 0) pk_nil)) (pa_cons (pe_k (k_is_table T) hG (hr.mono (by decide)) (fun _ => passS) (pk_cons (pv 0) pk_nil)) pa_nil)))))
        (pss_cons (ps_if (PW.pt (pw_or (pt_cmpR op_ne (pe_callB (call_show hG hr.units) (by rfl) T.n_repr (by decide +kernel) (pa_cons (pv 2) pa_nil)) (pe_callB (call_show hG hr.units) (by rfl) T.n_repr (by decide +kernel) (pa_cons (pv 1) pa_nil)) (nomark _)) (pw_or1 (pt_cmpR op_ne (pe_callB (call_show hG hr.units) (by rfl) T.n_repr (by decide +kernel) (pa_cons (pv 3) pa_nil)) (pe_callB (call_show hG hr.units) (by rfl) T.n_repr (by decide +kernel) (pa_cons (pv 1) pa_nil)) (nomark _))))) (pss_one (ps_ret pe_bl)) pss_nil)
        (pss_one (ps_ret (pe_and (pe_cmpR op_isBl (pe_g (c_is_worth T) hG (hr.mono (by decide)) (fun _ => passS) (pa_cons (pv 0) pa_nil)) pe_bl (nomark _)) (pe_one (pe_cmpR op_isBl (pe_g (c_is_whole T) hG (hr.mono (by decide)) (fun _ => passS) (pa_cons (pv 0) (pa_cons (pe_un un_neg pe_int) (pa_cons pe_int pa_nil)))) pe_bl (nomark _)))))))))), ?_⟩
    walk_at "rd"
    refine ⟨z, rfl, hz, za, fun H1 s1 => ?_⟩
    walk_at "rd"
    refine r_new rfl fun p hp => ?_
    refine ⟨p, _, rfl, .inl (SqL.of upd_same), rfl, rfl, ?_⟩
    walk_at "rd"
    refine r_new rfl fun p2 hp2 => ?_
    refine ⟨p2, _, rfl, .inl (SqL.of upd_same), rfl, rfl, ?_⟩
    walk_at "rd"
    refine r_new rfl fun d hd => ?_
    have S1 := (s1.trans (same_new (o := .lst [.str "clip", .str "wrap", .str "fold"]) hp)).trans (same_new (o := .lst [.str "saw", .str "square", .str "tri", .str "pulse", .str "hump"]) hp2)
    generalize upd (upd H1 p (.lst [.str "clip", .str "wrap", .str "fold"])) p2 (.lst [.str "saw", .str "square", .str "tri", .str "pulse", .str "hump"]) = H2 at hd S1 ⊢
    have hD : upd H2 d (.lst [.bl (nameB z), .bl (memB z manners), .bl (memB z tables)]) d = some (.lst ([nameB z, memB z manners, memB z tables].map V.bl)) := upd_same
    have S2 := S1.trans (same_new (o := .lst [.bl (nameB z), .bl (memB z manners), .bl (memB z tables)]) hd)
    walk_at "rd"
    refine ⟨.str z, _, rfl, .inl ⟨z, rfl, hz, rfl⟩, fun H3 s3 => ?_⟩
    walk_at "rd"
    refine ⟨.str z, _, rfl, .inl ⟨z, rfl, rfl⟩, ?_⟩
    walk_at "rd"
    refine ⟨.str z, _, rfl, .inl ⟨z, rfl, rfl⟩, ?_⟩
    walk_at "rd"
    refine r_new rfl fun e he => ?_
    have hE : upd H3 e (.lst [.bl (nameB z), .bl (memB z manners), .bl (memB z tables)]) e = some (.lst ([nameB z, memB z manners, memB z tables].map V.bl)) := upd_same
    have S4 := same_new (o := .lst [.bl (nameB z), .bl (memB z manners), .bl (memB z tables)]) he
    walk_at "rd"
    refine ⟨.str z, _, rfl, .inl ⟨z, rfl, hz, rfl⟩, fun H5 s5 => ?_⟩
    walk_at "rd"
    refine ⟨.str z, _, rfl, .inl ⟨z, rfl, rfl⟩, ?_⟩
    walk_at "rd"
    refine ⟨.str z, _, rfl, .inl ⟨z, rfl, rfl⟩, ?_⟩
    walk_at "rd"
    refine r_new rfl fun g hg => ?_
    have S6 := same_new (o := .lst [.bl (nameB z), .bl (memB z manners), .bl (memB z tables)]) hg
    have hD' := S6 _ _ (s5 _ _ (S4 _ _ (s3 _ _ hD)))
    have hE' := S6 _ _ (s5 _ _ hE)
    have hT' : upd H5 g (.lst [.bl (nameB z), .bl (memB z manners), .bl (memB z tables)]) g = some (.lst ([nameB z, memB z manners, memB z tables].map V.bl)) := upd_same
    have S7 := S2.trans ((s3.trans S4).trans (s5.trans S6))
    walk_at "rd"
    refine r_show _ (isD_bools _ hE') (show3 _ _ _) ?_
    walk_at "rd"
    refine r_show _ (isD_bools _ hD') (show3 _ _ _) ?_
    walk_at "rd"
    refine iteNE rfl ?_
    walk_at "rd"
    refine r_show _ (isD_bools _ hT') (show3 _ _ _) ?_
    walk_at "rd"
    refine r_show _ (isD_bools _ hD') (show3 _ _ _) ?_
    walk_at "rd"
    refine iteNE rfl ?_
    walk_at "rd"
    refine r_andV ?_
    walk_at "rd"
    refine ⟨.str z, false, rfl, .inr ⟨.inr (isI_str (by decide +kernel)), rfl⟩, ?_⟩
    walk_at "rd"
    refine ⟨_, _, rfl, rfl, ?_⟩
    walk_at "rd"
    refine iteDec rfl ?_
    walk_at "rd"
    refine ⟨.str z, _, _, false, rfl, .inr ⟨.inr (isI_str (by decide +kernel)), rfl⟩, ?_⟩
    walk_at "rd"
    refine ⟨_, _, rfl, rfl, ?_⟩
    rw [decide_eq_true rfl]
    exact q _ S7
theorem c_law_text_right (T : Txt K mg) : Cal P w K mg base (L2.CX P w) 4 "_law_text_right" ["text"] spTextRight :=
  T.d_text_right.cal (fun F => ok_law_text_right T F) fun _ _ _ _ _ _ us hl => match us, hl with | [_], _ => rfl
/-! ### _law_others_right -/
/-- neither a number nor a text -/
def Oth (K : PySem.W.Frag) (H : Hp) (v : V) : Prop := v = .non ∨ (∃ b, v = .bl b) ∨ (∃ a xs, v = .ref a ∧ H a = some (.lst xs)) ∨ (∃ a xs, v = .ref a ∧ H a = some (.tup xs)) ∨ (∃ a es, v = .ref a ∧ H a = some (.dK es)) ∨
  ∃ a C, v = .ref a ∧ XAt K H a C ∧ PySem.W.kitOne K (.ref C) (.type "int") = some false ∧ PySem.W.kitOne K (.ref C) (.type "str") = some false
theorem Oth.mono {H H' : Hp} {v : V} (S : Same H H') : Oth K H v → Oth K H' v
  | .inl e => .inl e
  | .inr (.inl e) => .inr (.inl e)
  | .inr (.inr (.inl ⟨a, xs, e, h⟩)) => .inr (.inr (.inl ⟨a, xs, e, S _ _ h⟩))
  | .inr (.inr (.inr (.inl ⟨a, xs, e, h⟩))) => .inr (.inr (.inr (.inl ⟨a, xs, e, S _ _ h⟩)))
  | .inr (.inr (.inr (.inr (.inl ⟨a, xs, e, h⟩)))) => .inr (.inr (.inr (.inr (.inl ⟨a, xs, e, S _ _ h⟩))))
  | .inr (.inr (.inr (.inr (.inr ⟨a, C, e, ⟨d, fs, h1, h2, h3⟩, k⟩)))) => .inr (.inr (.inr (.inr (.inr ⟨a, C, e, ⟨d, fs, S _ _ h1, S _ _ h2, h3⟩, k⟩))))
theorem Oth.int {H : Hp} {v : V} (o : Oth K H v) : NoInt K H v := by
  rcases o with rfl | ⟨b, rfl⟩ | ⟨a, xs, rfl, h⟩ | ⟨a, xs, rfl, h⟩ | ⟨a, es, rfl, h⟩ | ⟨a, C, rfl, h, k, _⟩
  · exact .inr (isI_non (by decide +kernel))
  · exact .inl ⟨b, rfl⟩
  · exact .inr (isI_lst h (by decide +kernel))
  · exact .inr (isI_tup h (by decide +kernel))
  · exact .inr (isI_dct h (by decide +kernel))
  · exact .inr (.inr ⟨a, C, rfl, h, k⟩)
theorem Oth.str {H : Hp} {v : V} (o : Oth K H v) : NoStr K H v := by
  rcases o with rfl | ⟨b, rfl⟩ | ⟨a, xs, rfl, h⟩ | ⟨a, xs, rfl, h⟩ | ⟨a, es, rfl, h⟩ | ⟨a, C, rfl, h, _, k⟩
  · exact isI_non (by decide +kernel)
  · exact isI_bl (by decide +kernel)
  · exact isI_lst h (by decide +kernel)
  · exact isI_tup h (by decide +kernel)
  · exact isI_dct h (by decide +kernel)
  · exact .inr ⟨a, C, rfl, h, k⟩
def spOthers (K : PySem.W.Frag) : Sp := fun vs H Q _ => ∃ v, vs = [v] ∧ Oth K H v ∧ ∀ H', Same H H' → Q (.bl true) H'
theorem sc_law_others_right : FnScope ["item", "found"] ["item"] (defScope s_law_others_right) := ⟨rfl, rfl, rfl, by decide +kernel, rfl, by decide +kernel, by decide +kernel⟩
theorem ok_law_others_right (T : Txt K mg) (F : Fun K "_law_others_right" "_law_others_right" s_law_others_right f fd) : FnG P w K mg base (L2.CX P w) 4 f fd ["item"] (spOthers K) := by
  refine fnG F sc_law_others_right (fun vs H Q E h => ?_) (fun cdv A outer s H vs Q E hG hr h => ?_)
  · obtain ⟨_, rfl, _⟩ := h
    rfl
  · obtain ⟨v, rfl, o, q⟩ := h
    have nd := sc_law_others_right.nd
    refine ⟨_, (pss_cons (ps_set (i := 1) nd rfl (Or.inl rfl) (pe_lst (pa_cons (pe_g (c_is_whole T) hG (hr.mono (by decide)) (fun _ => passS) (pa_cons (pv 0) (pa_cons (pe_un un_neg pe_int) (pa_cons pe_int pa_nil)))) (pa_cons (pe_g (c_is_name T) hG (hr.mono (by decide)) (fun _ => passS) (pa_cons (pv 0) pa_nil)) (pa_cons (pe_g (c_is_worth T) hG (hr.mono (by decide)) (fun _ => passS) (pa_cons (pv 0) pa_nil)) (pa_cons (pe_g (c_is_manner T) hG (hr.mono (by decide)) (fun _ => passS) (pa_cons (pv 0) pa_nil)) (pa_cons (pe_g (c_is_table T) hG (hr.mono (by decide)) (fun _ => passS) (pa_cons (pv 0) pa_nil)) pa_nil)))))))
        (pss_one (ps_ret (pe_cmpR op_eq (pe_callB (call_show hG hr.units) (by rfl) T.n_repr (by decide +kernel) (pa_cons (pv 1) pa_nil)) (pe_callB (call_show hG hr.units) (by rfl) T.n_repr (by decide +kernel) (pa_cons (pe_op op_rep (pe_lst (pa_cons pe_bl pa_nil)) pe_int) pa_nil)) (nomark _))))), ?_⟩
    walk_at "rd"
    refine ⟨v, _, _, false, rfl, .inr ⟨o.int, rfl⟩, ?_⟩
    walk_at "rd"
    refine ⟨v, false, rfl, .inr ⟨o.str, rfl⟩, fun H1 s1 => ?_⟩
    have o1 := o.mono s1
    walk_at "rd"
    refine ⟨v, false, rfl, .inr ⟨o1.int, rfl⟩, ?_⟩
    walk_at "rd"
    refine ⟨v, false, rfl, .inr ⟨o1.str, rfl⟩, ?_⟩
    walk_at "rd"
    refine ⟨v, false, rfl, .inr ⟨o1.str, rfl⟩, ?_⟩
    walk_at "rd"
    refine r_new rfl fun p hp => ?_
    walk_at "rd"
    refine r_show _ (isD_bools [false, false, false, false, false] upd_same) (by decide +kernel) ?_
    walk_at "rd"
    refine r_new rfl fun g hg => ?_
    walk_at "rd"
    refine ⟨g, 5, _, rfl, rfl, upd_same, by decide, by decide, by show 1 * 5 ≤ sizeLine; decide, fun r hr2 => ?_⟩
    walk_at "rd"
    refine r_show _ (isD_bools [false, false, false, false, false] upd_same) (by decide +kernel) ?_
    walk_at "rd"
    rw [decide_eq_true rfl]
    exact q _ (((s1.trans (same_new hp)).trans (same_new hg)).trans (same_new hr2))
theorem c_law_others_right (T : Txt K mg) : Cal P w K mg base (L2.CX P w) 4 "_law_others_right" ["item"] (spOthers K) :=
  T.d_others_right.cal (fun F => ok_law_others_right T F) fun _ _ _ _ _ _ us hl => match us, hl with | [_], _ => rfl
end
end K1
set_option linter.all false
set_option maxRecDepth 100000
set_option maxHeartbeats 4000000
namespace K1
open PySem PySem.Spec PyProof.Rows L2 Gx
local macro_rules | `(tactic| walk_at "rd1") => `(tactic| with_reducible first
  | refine r_var rfl ?_ | refine r_c ?_ | refine r_op ?_ | refine r_un ?_ | refine r_I0 ?_ | refine r_neg ?_ | refine r_test ?_ | refine r_B ?_ | refine r_bl ?_ | refine r_blx ?_
  | refine r_seq ?_ | refine r_ret ?_ | refine r_asg ?_ | refine r_name ?_ | refine r_gsub ?_ | refine r_if ?_ | refine r_next ?_ | refine r_drop ?_ | refine r_cb ?_ | refine r_nil ?_ | refine r_cons ?_
  | refine r_g ?_ | refine r_k ?_ | refine r_lst ?_ | refine r_tup ?_ | refine r_notV ?_ | refine r_ifE ?_ | refine r_and ?_ | refine r_or ?_ | refine r_not ?_ | refine r_chain ?_
  | refine r_sl ?_ | refine r_part ?_ | refine r_nop ?_ | refine r_par3 ?_ | refine r_is3 ?_ | refine r_par2 ?_ | refine r_is2 ?_ | refine r_m0 ?_ | refine r_ei ?_ | refine r_nx ?_ | refine r_rt ?_ | refine r_ct ?_ | refine r_eq rfl ?_ | refine r_ne rfl ?_ | refine iteT ?_ | refine iteF ?_ | refine iteNF ?_ | refine iteNT ?_
  | (refine r_fdivK ?hc ?_; (case hc => decide +kernel)) | (refine r_modK ?hc ?_; (case hc => decide +kernel)) | (refine r_mulL ?hc ?_; (case hc => decide +kernel)) | (refine r_mulR ?hc ?_; (case hc => decide +kernel)) | (refine r_powK ?hc ?_; (case hc => decide +kernel)) | fail "no step")
local macro_rules | `(tactic| walk_at "rd") => `(tactic| repeat' walk_at "rd1")
section
variable {P : Program} {w : World} {K : PySem.W.Frag} {mg : Str → Option Value} {base : Heap} {f : Addr} {fd : FuncData}
/-! ### NoWorth.__init__ -/
theorem r_vei {σ : L2.St} {H : Hp} {Q : VK} {al : TA} (h : al σ H fun vs H1 => ∃ (a C : Addr) (ws : List V), vs = .ref a :: ws ∧ ws.length ≤ 1000 ∧ OexC K C ∧ H1 a = some (exo a C none) ∧ Q .non H1) : tVeI K al σ H Q := h
theorem r_ost {σ : L2.St} {H : Hp} {D : Ends} {to te : TE} {g : Str} (h : te σ H fun v H1 => to σ H1 fun u H2 => ∃ a C : Addr, u = .ref a ∧ OexC K C ∧ PySem.W.findIn K (.ref C) g = some none ∧ ((H2 a = some (exo a C none) ∧ ∀ d, H2 d = none → d ≠ a → D.nx σ (upd (upd H2 d (exd d [(g, v)])) a (exo a C (some d)))) ∨ ∃ (d : Addr) (gs : List (Str × V)), H2 a = some (exo a C (some d)) ∧ H2 d = some (exd d gs) ∧ gs.length ≤ 900 ∧ D.nx σ (upd H2 d (exd d ((g, v) :: gs))))) : tOst K g to te D σ H := h
theorem sc_init : FnScope ["self", "found"] ["self", "found"] (defScope s_init) := ⟨rfl, rfl, rfl, by decide +kernel, rfl, by decide +kernel, by decide +kernel⟩
theorem ok_init (T : Txt K mg) {C : Addr} (F : Fun K "__init__" "NoWorth.__init__" s_init f fd) : FnOk P w K mg base CX0 1 f fd ["self", "found"] (spEI K C "found") := by
  obtain ⟨S, U⟩ := T.x_up
  refine F.ok sc_init (fun vs H Q E h => ?_) (fun cdv A outer s H vs Q E hr h => ?_)
  · obtain ⟨_, _, rfl, _⟩ := h
    rfl
  · obtain ⟨a, v, rfl, O, no, ha, q⟩ := h
    refine ⟨_, (pss_cons (ps_expr (pe_upinit U (pa_cons (pv 0) (pa_cons pe_str pa_nil)))) (pss_one (ps_ost (pv 0) (pv 1)))), ?_⟩
    refine r_seq ?_
    refine r_drop ?_
    refine r_vei ?_
    walk_at "rd"
    refine ⟨a, C, _, rfl, by decide, O, ha, ?_⟩
    walk_at "rd"
    refine r_ost ?_
    walk_at "rd"
    exact ⟨a, C, rfl, O, no, .inl ⟨ha, fun d hd n => q d hd n⟩⟩
theorem m_noworth (T : Txt K mg) : ∃ C, MkX P w K mg base 1 "NoWorth" C "found" ∧ ExcC K C ∧ PySem.W.kitOne K (.ref C) (.type "int") = some false ∧ PySem.W.kitOne K (.ref C) (.type "str") = some false := by
  obtain ⟨C, fI, fd, O, gl, no, fi, ti, F, X, k1, k2⟩ := T.x_no
  exact ⟨C, ⟨O, gl, no, fI, fd, fi, ti, ok_init T F, F.binds fun _ _ _ _ _ _ us hl => match us, hl with | [_, _], _ => rfl⟩, X, k1, k2⟩
end
end K1
set_option linter.all false
set_option maxRecDepth 100000
set_option maxHeartbeats 4000000
namespace K1
open PySem PySem.Spec PyProof.Rows L2 Gx
local macro_rules | `(tactic| walk_at "rd1") => `(tactic| with_reducible first
  | refine r_var rfl ?_ | refine r_c ?_ | refine r_op ?_ | refine r_un ?_ | refine r_I0 ?_ | refine r_neg ?_ | refine r_test ?_ | refine r_B ?_ | refine r_bl ?_ | refine r_blx ?_
  | refine r_seq ?_ | refine r_ret ?_ | refine r_asg ?_ | refine r_name ?_ | refine r_gsub ?_ | refine r_if ?_ | refine r_next ?_ | refine r_drop ?_ | refine r_cb ?_ | refine r_nil ?_ | refine r_cons ?_
  | refine r_g ?_ | refine r_k ?_ | refine r_lst ?_ | refine r_tup ?_ | refine r_notV ?_ | refine r_ifE ?_ | refine r_and ?_ | refine r_or ?_ | refine r_not ?_ | refine r_chain ?_
  | refine r_sl ?_ | refine r_part ?_ | refine r_nop ?_ | refine r_par3 ?_ | refine r_is3 ?_ | refine r_par2 ?_ | refine r_is2 ?_ | refine r_m0 ?_ | refine r_ei ?_ | refine r_nx ?_ | refine r_rt ?_ | refine r_ct ?_ | refine r_eq rfl ?_ | refine r_ne rfl ?_ | refine iteT ?_ | refine iteF ?_ | refine iteNF ?_ | refine iteNT ?_
  | (refine r_fdivK ?hc ?_; (case hc => decide +kernel)) | (refine r_modK ?hc ?_; (case hc => decide +kernel)) | (refine r_mulL ?hc ?_; (case hc => decide +kernel)) | (refine r_mulR ?hc ?_; (case hc => decide +kernel)) | (refine r_powK ?hc ?_; (case hc => decide +kernel)) | fail "no step")
local macro_rules | `(tactic| walk_at "rd") => `(tactic| repeat' walk_at "rd1")
section
variable {P : Program} {w : World} {K : PySem.W.Frag} {mg : Str → Option Value} {base : Heap} {f : Addr} {fd : FuncData}
/-! ### the law -/
def abc : Str := "abcdefghijklmnopqrstuvwxyz"
theorem abc_len : abc.cps.toList.length = 26 := by decide +kernel
theorem abc_asc : Asc abc := asc_of (by decide +kernel)
def names8 : List Str := ["clip", "wrap", "fold", "saw", "square", "tri", "pulse", "hump"]
theorem names8_ok : ∀ z ∈ names8, z.length ≤ 100 ∧ Asc z := by
  have h : names8.all (fun z => decide (z.length ≤ 100) && z.cps.toList.all (fun c => decide (c < 128))) = true := by decide +kernel
  intro z hz
  have := List.all_eq_true.mp h z hz
  rw [Bool.and_eq_true] at this
  exact ⟨of_decide_eq_true this.1, asc_of this.2⟩
theorem iteFb {b : Bool} {A B : Prop} (e : b = false) (h : B) : if b = true then A else B := by
  rw [e]
  exact iteF h
theorem dp_strs {H : Hp} : ∀ zs : List Str, DpAll K H (zs.map V.str) (zs.map PyData.str)
  | [] => .nil
  | z :: zs => .cons (.str z) (dp_strs zs)
theorem join2 (x z : Str) (r : List Str) : Str.join "" (x :: z :: r) = x ++ "" ++ Str.join "" (z :: r) := rfl
theorem asc_join : ∀ {zs : List Str}, (∀ z ∈ zs, z.length = 1 ∧ Asc z) → Asc (Str.join "" zs)
  | [], _ => asc_of (by decide +kernel)
  | [z], h => (h z (by simp)).2
  | x :: z :: r, h => by
    rw [join2]
    exact asc_app (asc_app (h x (by simp)).2 (asc_of (by decide +kernel))) (asc_join fun u hu => h u (List.mem_cons_of_mem _ hu))
theorem len_join : ∀ {zs : List Str}, (∀ z ∈ zs, z.length = 1 ∧ Asc z) → (Str.join "" zs).length = zs.length
  | [], _ => rfl
  | [z], h => (h z (by simp)).1
  | x :: z :: r, h => by
    rw [join2, app_len, app_len, (h x (by simp)).1, len_join fun u hu => h u (List.mem_cons_of_mem _ hu)]
    show 1 + 0 + _ = _
    simp only [List.length_cons]
    omega
theorem sum1 : ∀ {zs : List Str}, (∀ z ∈ zs, z.length = 1 ∧ Asc z) → (zs.map (·.length)).sum = zs.length
  | [], _ => rfl
  | z :: r, h => by
    rw [List.map_cons, List.sum_cons, (h z (by simp)).1, sum1 fun u hu => h u (List.mem_cons_of_mem _ hu), List.length_cons]
    omega
theorem none_of {H0 H : Hp} {p : Addr} (s : Same H0 H) (h : H p = none) : H0 p = none := by
  cases e : H0 p with
  | none => rfl
  | some u => rw [s _ _ e] at h; cases h
theorem same_upd {H0 H : Hp} {p : Addr} {o : HO} (n : H0 p = none) (s : Same H0 H) : Same H0 (upd H p o) := fun c u h => by
  rw [upd_ne fun z => by subst z; rw [n] at h; cases h]
  exact s _ _ h
theorem r_m1 {σ : L2.St} {H : Hp} {Q : VK} {to te : TE} {g : V → List V → Hp → VK → Prop} (h : to σ H fun u H1 => (∃ z, u = .str z) ∧ te σ H1 fun v H2 => g u [v] H2 Q) : tM1 g to te σ H Q := h
theorem r_dn {σ : L2.St} {H : Hp} {Q : VK} (q : ∀ p, H p = none → Q (.ref p) (upd H p (.dK []))) : tDNewK σ H Q := q
theorem r_disp1 {σ : L2.St} {H : Hp} {Q : VK} {z : Str} {v : V} (q : ∀ p, H p = none → Q (.ref p) (upd H p (.dK [(.inr z, v)]))) : tDisp [(tC (.str z), tC v)] σ H Q := fun p hp => by
  refine ⟨upd_same, [(.inr z, v)], rfl, Nat.le_of_ble_eq_true rfl, ?_⟩
  rw [upd_upd]
  exact q p hp
theorem r_mkV1 {σ : L2.St} {H : Hp} {Q : VK} {C : Addr} {g : Str} {v : V} (O : OexC K C) (no : PySem.W.findIn K (.ref C) g = some none)
    (q : ∀ a d H', H a = none → Same H H' → H' a = some (exo a C (some d)) → H' d = some (exd d [(g, v)]) → Q (.ref a) H') : tMkV C (spEI K C g) (tCons (tC v) tNil) σ H Q := by
  refine ⟨Nat.le_of_ble_eq_true rfl, fun a ha => ⟨a, v, rfl, O, no, upd_same, fun d hd n => ⟨rfl, ?_⟩⟩⟩
  have hd0 : H d = none := by rwa [upd_ne n] at hd
  refine q a d _ ha (same_upd ha (same_upd hd0 (same_new ha))) upd_same ?_
  rw [upd_ne n]
  exact upd_same
def spLaw (K : PySem.W.Frag) : Sp := fun vs H Q _ => ∃ (a : Addr) (ns : List Int), vs = [.ref a] ∧ SqL K H a (ns.map V.int) ∧ ns.length ≤ 1000 ∧ ∀ H', Q (.bl true) H'
theorem sc_law : FnScope ["script", "k", "box", "letters", "turn", "size", "name", "text", "some", "item", "at"] ["script"] (defScope s_law) := ⟨rfl, rfl, rfl, by decide +kernel, rfl, by decide +kernel, by decide +kernel⟩
theorem ok_law (T : Txt K mg) (F : Fun K "law" "law" s_law f fd) : FnG P w K mg base (L2.CX P w) 5 f fd ["script"] (spLaw K) := by
  obtain ⟨C, M, XC, ki, ks⟩ := m_noworth (P := P) (w := w) (base := base) T
  obtain ⟨a_MANNERS, g_MANNERS, tM⟩ := T.g_MANNERS
  obtain ⟨a_TABLES, g_TABLES, tT⟩ := T.g_TABLES
  refine fnG F sc_law (fun vs H Q E h => ?_) (fun cdv A outer s H vs Q E hG hr h => ?_)
  · obtain ⟨_, _, rfl, _⟩ := h
    rfl
  · obtain ⟨a, ns, rfl, hS, hn, q⟩ := h
    have nd := sc_law.nd
    refine ⟨_, (pss_cons (ps_if (PW.pt (pw_or (pt_cmpR (op_neD hr.units) (pe_gc (v := .ref a_MANNERS) ⟨_, g_MANNERS, rfl⟩) (pe_tup (pa_cons pe_str (pa_cons pe_str (pa_cons pe_str pa_nil)))) (nomark _)) (pw_or1 (pt_cmpR (op_neD hr.units) (pe_gc (v := .ref a_TABLES) ⟨_, g_TABLES, rfl⟩) (pe_tup (pa_cons pe_str (pa_cons pe_str (pa_cons pe_str (pa_cons pe_str (pa_cons pe_str pa_nil)))))) (nomark _))))) (pss_one (ps_ret pe_bl)) pss_nil)
        (pss_cons (ps_for (passes_of rfl) rfl (pi_range1 rfl T.n_range (pa_cons (pe_callB (call_max2 rfl) (by rfl) T.n_max (by decide +kernel) (pa_cons pe_int (pa_cons (pe_callB (call_min2 rfl) (by rfl) T.n_min (by decide +kernel) (pa_cons pe_int (pa_cons (pe_callB call_len_seq (by rfl) T.n_len PySem.boot_len (pa_cons (pv 0) pa_nil)) pa_nil))) pa_nil))) pa_nil)) (pg_name (i := 1) nd rfl (Or.inl rfl)) (pss_cons (ps_set (i := 2) nd rfl (Or.inr rfl) (pe_g (c_law_box T) hG (hr.mono (by decide)) (fun _ => passS) (pa_cons (pe_g (c_law_cell T) hG (hr.mono (by decide)) (fun _ => passS) (pa_cons (pv 0) (pa_cons (pv 1) pa_nil))) pa_nil)))
        (pss_cons (ps_set (i := 3) nd rfl (Or.inr rfl) pe_str)
        (pss_cons (ps_for (passes_of rfl) rfl (pi_range1 rfl T.n_range (pa_cons pe_int pa_nil)) (pg_name (i := 4) nd rfl (Or.inl rfl)) (pss_cons (ps_if (pt_not (pt_val (pe_g (c_law_number_right T) hG (hr.mono (by decide)) (fun _ => passS) (pa_cons (pv 2) pa_nil)))) (pss_one (ps_ret pe_bl)) pss_nil)
        (pss_cons (ps_set (i := 5) nd rfl (Or.inl rfl) (pe_op op_add pe_int (pe_g (c_law_take T) hG (hr.mono (by decide)) (fun _ => passS) (pa_cons (pv 2) (pa_cons (pe_ix ix_list (pe_lst (pa_cons pe_int (pa_cons pe_int (pa_cons pe_int pa_nil)))) (pe_g (c_law_take T) hG (hr.mono (by decide)) (fun _ => passS) (pa_cons (pv 2) (pa_cons pe_int pa_nil))) (fun _ _ => rfl)) pa_nil)))))
        (pss_cons (ps_set (i := 6) nd rfl (Or.inl rfl) (pe_join pe_str (pe_lc (own := [("at", 10)]) (g := gName 10) (tt := tYes) rfl nd (pi_range1 rfl T.n_range (pa_cons (pv 5) pa_nil)) (blkOk_by (N := ["script", "k", "box", "letters", "turn", "size", "name", "text", "some", "item", "at"]) (sc := defScope s_law) (by decide +kernel)) (fun _ _ _ _ _ => pg_name (i := 10) nd rfl (Or.inl rfl)) (fun _ _ _ _ _ => pts_nil) (fun _ _ _ _ _ => (pe_ix ix_str (pv 3) (pe_g (c_law_take T) hG (hr.mono (by decide)) (fun _ => passS) (pa_cons (pv 2) (pa_cons pe_int pa_nil))) (fun _ _ => rfl))))))
        (pss_one (ps_for (passes_of rfl) rfl (pi_list (pe_lst (pa_cons (pv 6) (pa_cons (pe_g (c_law_bent T) hG (hr.mono (by decide)) (fun _ => passS) (pa_cons (pv 2) (pa_cons (pv 6) pa_nil))) (pa_cons (pe_g (c_law_bent T) hG (hr.mono (by decide)) (fun _ => passS) (pa_cons (pv 2) (pa_cons (pe_ix ix_tup (pe_op op_catA (pe_gc (v := .ref a_MANNERS) ⟨_, g_MANNERS, rfl⟩) (pe_gc (v := .ref a_TABLES) ⟨_, g_TABLES, rfl⟩)) (pe_g (c_law_take T) hG (hr.mono (by decide)) (fun _ => passS) (pa_cons (pv 2) (pa_cons pe_int pa_nil))) (fun _ _ => rfl)) pa_nil))) pa_nil))))) (pg_name (i := 7) nd rfl (Or.inl rfl)) (pss_one (ps_if (pt_not (pt_val (pe_g (c_law_text_right T) hG (hr.mono (by decide)) (fun _ => passS) (pa_cons (pv 7) pa_nil)))) (pss_one (ps_ret pe_bl)) pss_nil))))))))
        (pss_cons (ps_set (i := 8) nd rfl (Or.inl rfl) (pe_lst (pa_cons pe_non (pa_cons pe_bl (pa_cons pe_bl (pa_cons (pe_lst pa_nil) (pa_cons (pe_tup pa_nil) (pa_cons pe_dnewK (pa_cons (pe_lst (pa_cons pe_str pa_nil)) (pa_cons (pe_tup (pa_cons pe_str pa_nil)) (pa_cons (pe_disp (pps_cons pe_str pe_int pps_nil) (by rfl) (by rfl) (by simp) (by decide)) (pa_cons (pe_lst (pa_cons pe_int pa_nil)) (pa_cons (pe_tup (pa_cons pe_int pa_nil)) (pa_cons (pe_mkV M (hr.mono (by decide)) (pa_cons pe_int pa_nil)) (pa_cons (pe_lst (pa_cons (pe_lst (pa_cons pe_str pa_nil)) pa_nil)) pa_nil)))))))))))))))
        (pss_one (ps_if (pt_cmpR (op_neD hr.units) (pe_lc (own := [("item", 9)]) (g := gName 9) rfl nd (pi_list (pv 8)) (blkOk_by (N := ["script", "k", "box", "letters", "turn", "size", "name", "text", "some", "item", "at"]) (sc := defScope s_law) (by decide +kernel)) (fun _ _ _ _ _ => pg_name (i := 9) nd rfl (Or.inl rfl)) (fun _ _ _ _ _ => (pts_one (pt_not (pt_val (pe_g (c_law_others_right T) hG (hr.mono (by decide)) (fun _ => passS) (pa_cons (pv 9) pa_nil)))))) (fun _ _ _ _ _ => pe_int)) (pe_lst pa_nil) (nomark _)) (pss_one (ps_ret pe_bl)) pss_nil)))))))
        (pss_one (ps_ret pe_bl)))), ?_⟩
    walk_at "rd"
    refine r_new rfl fun p hp => ?_
    refine ⟨_, _, .tup (tM _) (dp_strs ["clip", "wrap", "fold"]), .tup (SqT.of upd_same) (dp_strs ["clip", "wrap", "fold"]), by decide +kernel, by decide +kernel, ?_⟩
    walk_at "rd"
    refine iteFb (by decide +kernel) ?_
    walk_at "rd"
    refine r_new rfl fun p2 hp2 => ?_
    refine ⟨_, _, .tup (tT _) (dp_strs ["saw", "square", "tri", "pulse", "hump"]), .tup (SqT.of upd_same) (dp_strs ["saw", "square", "tri", "pulse", "hump"]), by decide +kernel, by decide +kernel, ?_⟩
    walk_at "rd"
    refine iteFb (by decide +kernel) ?_
    have S1 := (same_new (o := .tup [.str "clip", .str "wrap", .str "fold"]) hp).trans (same_new (o := .tup [.str "saw", .str "square", .str "tri", .str "pulse", .str "hump"]) hp2)
    generalize upd (upd H p (.tup [.str "clip", .str "wrap", .str "fold"])) p2 (.tup [.str "saw", .str "square", .str "tri", .str "pulse", .str "hump"]) = H1 at S1 ⊢
    have hS1 := sql_same hS S1
    walk_at "rd"
    refine r_for ?_
    refine r_rng1 ?_
    walk_at "rd"
    refine ⟨a, _, rfl, .inl hS1, ?_⟩
    walk_at "rd"
    refine ⟨_, _, rfl, ?_⟩
    walk_at "rd"
    refine ⟨_, _, rfl, ?_⟩
    walk_at "rd"
    refine ⟨_, rfl, by split <;> split <;> omega, by split <;> split <;> omega, ?_⟩
    refine lp_range (fun _ s h => (∃ x1 x2 x3 x4 x5 x6 x7 x8 x9 x10, s = [some (.ref a), x1, x2, x3, x4, x5, x6, x7, x8, x9, x10]) ∧ Same H1 h) ⟨⟨_, _, _, _, _, _, _, _, _, _, rfl⟩, fun _ _ h => h⟩ (fun i s H2 hi => ?_) ?_
    · rintro ⟨⟨x1, x2, x3, x4, x5, x6, x7, x8, x9, x10, rfl⟩, s2⟩
      rw [Int.zero_add]
      walk_at "rd"
      refine ⟨a, ns, i, rfl, sql_same hS1 s2, fun cell => ?_⟩
      walk_at "rd"
      refine ⟨cell, rfl, fun b H3 hb B s3 => ?_⟩
      walk_at "rd"
      refine r_for ?_
      refine r_rng1 ?_
      walk_at "rd"
      refine ⟨_, rfl, by decide, by decide, ?_⟩
      refine lp_range (fun j s h => (∃ x4 x5 x6 x7 x8 x9 x10, s = [some (.ref a), some (.int i), some (.ref b), some (.str abc), x4, x5, x6, x7, x8, x9, x10]) ∧ Bx (j * 100) h b ∧ Same H2 h) ⟨⟨_, _, _, _, _, _, _, rfl⟩, B.up (by omega), s3⟩ (fun j s H4 hj => ?_) ?_
      · rintro ⟨⟨x4, x5, x6, x7, x8, x9, x10, rfl⟩, B4, s4⟩
        have hj3 : j < 3 := hj
        walk_at "rd"
        refine ⟨b, _, rfl, B4, by omega, fun H5 B5 o5 => ?_⟩
        walk_at "rd"
        refine r_new rfl fun p hp => ?_
        have pb := B5.ne hp
        walk_at "rd"
        refine ⟨b, 3, _, rfl, by decide, by decide, B5.new hp, by omega, fun d H6 d0 d1 B6 o6 => ?_⟩
        refine r_ixJ (xs := [8, 8, 30]) (P := fun i => decide (8 ≤ i ∧ i ≤ 30)) (o6 p _ pb upd_same) (by decide) d0 d1 fun m hm => ?_
        have hm := of_decide_eq_true hm
        walk_at "rd"
        refine ⟨b, m, _, rfl, by omega, by omega, B6, by omega, fun c H7 c0 c1 B7 o7 => ?_⟩
        have O7 : Gx.Off b H4 H7 := (o5.trans ((Off.new hp).trans o6)).trans o7
        have s7 := same_off hb s4 O7
        walk_at "rd"
        refine r_m1 ?_
        walk_at "rd"
        refine ⟨⟨_, rfl⟩, ?_⟩
        refine r_lc ?_
        refine r_rng1 ?_
        walk_at "rd"
        refine ⟨_, rfl, by omega, by omega, ?_⟩
        generalize hN : j * 100 + 10 + 1 + 1 = N0 at B7
        refine lc_rng (fun p i h => ∃ zs : List Str, zs.length = i ∧ (∀ z ∈ zs, z.length = 1 ∧ Asc z) ∧ h p = some (.lst (zs.map V.str)) ∧ Bx (N0 + i) h b ∧ Same H2 h) (fun p hp => ?_) (fun p hp i h hi => ?_) (fun p hp H8 => ?_)
        · exact ⟨([] : List Str), rfl, fun z hz => absurd hz List.not_mem_nil, upd_same, B7.new hp, s7.trans (same_new hp)⟩
        · rintro ⟨zs, hl, al, hz, B8, s8⟩
          have pb := B7.ne hp
          walk_at "rd"
          refine ⟨rfl, r_yes (iteT ?_)⟩
          walk_at "rd"
          refine ⟨b, 26, _, rfl, by decide, by decide, B8, by omega, fun d H9 d0 d1 B9 o9 => ?_⟩
          have hd : d.toNat < abc.cps.toList.length := by rw [abc_len]; omega
          refine ⟨abc, d, abc.cps.toList[d.toNat], rfl, rfl, by decide +kernel, at_pos d0 hd, ?_⟩
          refine ⟨_, o9 p _ pb hz, by rw [List.length_map, sizeLine_eq]; omega, zs ++ [⟨#[abc.cps.toList[d.toNat]]⟩], by rw [List.length_append, hl]; rfl, fun z hz => ?_, ?_, ?_, ?_⟩
          · rcases List.mem_append.mp hz with hz | hz
            · exact al z hz
            · obtain rfl := List.mem_singleton.mp hz
              exact ⟨rfl, asc_one (abc_asc _ (List.getElem_mem hd))⟩
          · rw [List.map_append]
            exact upd_same
          · obtain ⟨x, y, z, e, r⟩ := B9
            exact ⟨x, y, z, by rw [upd_ne (Ne.symm pb)]; exact e, r⟩
          · exact same_upd (none_of s7 hp) (same_off hb s8 o9)
        rintro ⟨zs, hl, al, hz, B8, s8⟩
        refine ⟨_, p, zs, rfl, rfl, .inl (SqL.of hz), ?_, ?_⟩
        · rw [sum1 al]
          show zs.length + zs.length * 0 ≤ _
          omega
        rw [TL.join_eq]
        have nmA := asc_join al
        have nmL := len_join al
        generalize Str.join "" zs = nm at nmA nmL
        walk_at "rd"
        refine r_for ?_
        refine r_iList ?_
        walk_at "rd"
        refine ⟨b, nm, _, rfl, B8, by omega, by omega, nmA, fun z1 H9 l1 a1 B9 o9 => ?_⟩
        walk_at "rd"
        refine ⟨_, _, _, _, rfl, rfl, tM _, tT _, by decide, (fun e => nomatch e), (fun _ e => nomatch e), fun _ _ t ht => ?_⟩
        have tb := B9.ne ht
        walk_at "rd"
        refine ⟨b, 8, _, rfl, by decide, by decide, B9.new ht, by omega, fun d H10 d0 d1 B10 o10 => ?_⟩
        have hd : d.toNat < names8.length := by
          show d.toNat < 8
          omega
        refine ⟨t, names8.map V.str, d, .str names8[d.toNat], rfl, rfl, SqT.of (o10 t _ tb upd_same), ?_, ?_⟩
        · have e := at_pos (xs := names8.map V.str) d0 (by rw [List.length_map]; exact hd)
          rw [List.getElem_map] at e
          exact e
        obtain ⟨n8, a8⟩ := names8_ok _ (List.getElem_mem hd)
        walk_at "rd"
        refine ⟨b, _, _, rfl, B10, by omega, n8, a8, fun z2 H11 l2 a2 B11 o11 => ?_⟩
        walk_at "rd"
        refine r_new rfl fun p3 hp3 => ?_
        have s11 : Same H2 H11 := same_off hb (same_off hb s8 o9) ((Off.new ht).trans (o10.trans o11))
        refine ⟨p3, rfl, ⟨_, SqL.of upd_same⟩, ?_⟩
        refine lp_list (xs := [nm, z1, z2].map V.str) (fun _ s h => (∃ x4 x5 x6 x7 x8 x9 x10, s = [some (.ref a), some (.int i), some (.ref b), some (.str abc), x4, x5, x6, x7, x8, x9, x10]) ∧ Bx ((j + 1) * 100) h b ∧ Same H2 h ∧ h p3 = some (.lst ([nm, z1, z2].map V.str)))
          ⟨⟨_, _, _, _, _, _, _, rfl⟩, (B11.new hp3).up (by omega), s11.trans (same_new hp3), upd_same⟩ (fun _ _ _ _ q => SqL.of q.2.2.2) (fun l x s H12 hx => ?_) (fun s h q => ⟨q.1, q.2.1, q.2.2.1⟩)
        rintro ⟨⟨x4, x5, x6, x7, x8, x9, x10, rfl⟩, B12, s12, h3⟩
        obtain ⟨z, hz, rfl⟩ := List.mem_map.mp (List.mem_of_getElem? hx)
        have hz2 : z.length ≤ 1000 ∧ Asc z := by
          rcases List.mem_cons.mp hz with rfl | hz
          · exact ⟨by omega, nmA⟩
          rcases List.mem_cons.mp hz with rfl | hz
          · exact ⟨by omega, a1⟩
          obtain rfl := List.mem_singleton.mp hz
          exact ⟨by omega, a2⟩
        walk_at "rd"
        refine ⟨z, rfl, hz2.1, hz2.2, fun H13 s13 => ?_⟩
        walk_at "rd"
        obtain ⟨u1, u2, u3, e, r⟩ := B12
        exact ⟨⟨_, _, _, _, _, _, _, rfl⟩, ⟨u1, u2, u3, s13 _ _ e, r⟩, s12.trans s13, s13 _ _ h3⟩
      · rintro s G0 ⟨⟨x4, x5, x6, x7, x8, x9, x10, rfl⟩, B4, s4⟩
        walk_at "rd"
        refine r_new rfl fun a1 h1 => ?_
        have e1 : upd G0 a1 (.lst []) a1 = some (.lst []) := upd_same
        have t1 : Same G0 (upd G0 a1 (.lst [])) := same_new h1
        generalize upd G0 a1 (.lst []) = G1 at e1 t1 ⊢
        walk_at "rd"
        refine r_new rfl fun a2 h2 => ?_
        have e2 : upd G1 a2 (.tup []) a2 = some (.tup []) := upd_same
        have t2 : Same G1 (upd G1 a2 (.tup [])) := same_new h2
        generalize upd G1 a2 (.tup []) = G2 at e2 t2 ⊢
        walk_at "rd"
        refine r_dn fun a3 h3 => ?_
        have e3 : upd G2 a3 (.dK []) a3 = some (.dK []) := upd_same
        have t3 : Same G2 (upd G2 a3 (.dK [])) := same_new h3
        generalize upd G2 a3 (.dK []) = G3 at e3 t3 ⊢
        walk_at "rd"
        refine r_new rfl fun a4 h4 => ?_
        have e4 : upd G3 a4 (.lst [.str "clip"]) a4 = some (.lst [.str "clip"]) := upd_same
        have t4 : Same G3 (upd G3 a4 (.lst [.str "clip"])) := same_new h4
        generalize upd G3 a4 (.lst [.str "clip"]) = G4 at e4 t4 ⊢
        walk_at "rd"
        refine r_new rfl fun a5 h5 => ?_
        have e5 : upd G4 a5 (.tup [.str "saw"]) a5 = some (.tup [.str "saw"]) := upd_same
        have t5 : Same G4 (upd G4 a5 (.tup [.str "saw"])) := same_new h5
        generalize upd G4 a5 (.tup [.str "saw"]) = G5 at e5 t5 ⊢
        walk_at "rd"
        refine r_disp1 fun a6 h6 => ?_
        have e6 : upd G5 a6 (.dK [(.inr "a", .int 1)]) a6 = some (.dK [(.inr "a", .int 1)]) := upd_same
        have t6 : Same G5 (upd G5 a6 (.dK [(.inr "a", .int 1)])) := same_new h6
        generalize upd G5 a6 (.dK [(.inr "a", .int 1)]) = G6 at e6 t6 ⊢
        walk_at "rd"
        refine r_new rfl fun a7 h7 => ?_
        have e7 : upd G6 a7 (.lst [.int 7]) a7 = some (.lst [.int 7]) := upd_same
        have t7 : Same G6 (upd G6 a7 (.lst [.int 7])) := same_new h7
        generalize upd G6 a7 (.lst [.int 7]) = G7 at e7 t7 ⊢
        walk_at "rd"
        refine r_new rfl fun a8 h8 => ?_
        have e8 : upd G7 a8 (.tup [.int 7]) a8 = some (.tup [.int 7]) := upd_same
        have t8 : Same G7 (upd G7 a8 (.tup [.int 7])) := same_new h8
        generalize upd G7 a8 (.tup [.int 7]) = G8 at e8 t8 ⊢
        walk_at "rd"
        refine r_mkV1 M.oex M.no fun a9 d9 G9 h9 t9 e9 f9 => ?_
        walk_at "rd"
        refine r_new rfl fun a10 h10 => ?_
        have e10 : upd G9 a10 (.lst [.str "a"]) a10 = some (.lst [.str "a"]) := upd_same
        have t10 : Same G9 (upd G9 a10 (.lst [.str "a"])) := same_new h10
        generalize upd G9 a10 (.lst [.str "a"]) = G10 at e10 t10 ⊢
        walk_at "rd"
        refine r_new rfl fun a11 h11 => ?_
        have e11 : upd G10 a11 (.lst [.ref a10]) a11 = some (.lst [.ref a10]) := upd_same
        have t11 : Same G10 (upd G10 a11 (.lst [.ref a10])) := same_new h11
        generalize upd G10 a11 (.lst [.ref a10]) = G11 at e11 t11 ⊢
        walk_at "rd"
        refine r_new rfl fun a12 h12 => ?_
        have e12 : upd G11 a12 (.lst [.non, .bl true, .bl false, .ref a1, .ref a2, .ref a3, .ref a4, .ref a5, .ref a6, .ref a7, .ref a8, .ref a9, .ref a11]) a12 = some (.lst [.non, .bl true, .bl false, .ref a1, .ref a2, .ref a3, .ref a4, .ref a5, .ref a6, .ref a7, .ref a8, .ref a9, .ref a11]) := upd_same
        have t12 : Same G11 (upd G11 a12 (.lst [.non, .bl true, .bl false, .ref a1, .ref a2, .ref a3, .ref a4, .ref a5, .ref a6, .ref a7, .ref a8, .ref a9, .ref a11])) := same_new h12
        generalize upd G11 a12 (.lst [.non, .bl true, .bl false, .ref a1, .ref a2, .ref a3, .ref a4, .ref a5, .ref a6, .ref a7, .ref a8, .ref a9, .ref a11]) = G12 at e12 t12 ⊢
        walk_at "rd"
        have T12 : Same G12 G12 := fun _ _ h => h
        have T11 := t12.trans T12
        have T10 := t11.trans T11
        have T9 := t10.trans T10
        have T8 := t9.trans T9
        have T7 := t8.trans T8
        have T6 := t7.trans T7
        have T5 := t6.trans T6
        have T4 := t5.trans T5
        have T3 := t4.trans T4
        have T2 := t3.trans T3
        have T1 := t2.trans T2
        have T0 := t1.trans T1
        have al : ∀ v ∈ ([.non, .bl true, .bl false, .ref a1, .ref a2, .ref a3, .ref a4, .ref a5, .ref a6, .ref a7, .ref a8, .ref a9, .ref a11] : List V), Oth K G12 v := by
          refine List.forall_mem_cons.mpr ⟨.inl rfl, List.forall_mem_cons.mpr ⟨.inr (.inl ⟨_, rfl⟩), List.forall_mem_cons.mpr ⟨.inr (.inl ⟨_, rfl⟩), ?_⟩⟩⟩
          refine List.forall_mem_cons.mpr ⟨.inr (.inr (.inl ⟨_, _, rfl, T1 _ _ e1⟩)), ?_⟩
          refine List.forall_mem_cons.mpr ⟨.inr (.inr (.inr (.inl ⟨_, _, rfl, T2 _ _ e2⟩))), ?_⟩
          refine List.forall_mem_cons.mpr ⟨.inr (.inr (.inr (.inr (.inl ⟨_, _, rfl, T3 _ _ e3⟩)))), ?_⟩
          refine List.forall_mem_cons.mpr ⟨.inr (.inr (.inl ⟨_, _, rfl, T4 _ _ e4⟩)), ?_⟩
          refine List.forall_mem_cons.mpr ⟨.inr (.inr (.inr (.inl ⟨_, _, rfl, T5 _ _ e5⟩))), ?_⟩
          refine List.forall_mem_cons.mpr ⟨.inr (.inr (.inr (.inr (.inl ⟨_, _, rfl, T6 _ _ e6⟩)))), ?_⟩
          refine List.forall_mem_cons.mpr ⟨.inr (.inr (.inl ⟨_, _, rfl, T7 _ _ e7⟩)), ?_⟩
          refine List.forall_mem_cons.mpr ⟨.inr (.inr (.inr (.inl ⟨_, _, rfl, T8 _ _ e8⟩))), ?_⟩
          refine List.forall_mem_cons.mpr ⟨.inr (.inr (.inr (.inr (.inr ⟨a9, C, rfl, ⟨d9, _, T9 _ _ e9, T9 _ _ f9, XC⟩, ki, ks⟩)))), ?_⟩
          refine List.forall_mem_cons.mpr ⟨.inr (.inr (.inl ⟨_, _, rfl, T11 _ _ e11⟩)), ?_⟩
          exact fun _ h => absurd h List.not_mem_nil
        refine r_lc ?_
        refine r_iList ?_
        walk_at "rd"
        refine ⟨a12, rfl, ⟨_, SqL.of e12⟩, ?_⟩
        refine lc_lst (xs := [.non, .bl true, .bl false, .ref a1, .ref a2, .ref a3, .ref a4, .ref a5, .ref a6, .ref a7, .ref a8, .ref a9, .ref a11]) (fun p _ h => h p = some (.lst []) ∧ Same G12 h) (fun p hp => ⟨upd_same, same_new hp⟩) (fun p hp i h _ q => SqL.of (q.2 _ _ e12)) (fun p hp i x h hx => ?_) (fun p hp h => ?_)
        · rintro ⟨ep, sp⟩
          have o := (al x (List.mem_of_getElem? hx)).mono sp
          walk_at "rd"
          refine ⟨rfl, ?_⟩
          walk_at "rd"
          refine ⟨x, rfl, o, fun H' s' => ?_⟩
          walk_at "rd"
          exact ⟨s' _ _ ep, sp.trans s'⟩
        · rintro ⟨ep, sp⟩
          walk_at "rd"
          refine r_new rfl fun r hr2 => ?_
          refine ⟨.list [], .list [], .lst (SqL.of (same_new hr2 _ _ ep)) .nil, .lst (SqL.of upd_same) .nil, rfl, rfl, ?_⟩
          walk_at "rd"
          refine iteFb rfl ?_
          walk_at "rd"
          exact ⟨⟨_, _, _, _, _, _, _, _, _, _, rfl⟩, (s2.trans (s4.trans T0)).trans (sp.trans (same_new hr2))⟩
    · rintro s H2 ⟨⟨x1, x2, x3, x4, x5, x6, x7, x8, x9, x10, rfl⟩, s2⟩
      walk_at "rd"
      exact q _
end
end K1
set_option linter.all false
set_option maxRecDepth 100000
set_option maxHeartbeats 4000000
namespace K1
open PySem PySem.Spec PyProof.Rows L2 Gx
theorem kit_sub {K : PySem.W.Frag} {C : Addr} {T : String} {b : Bool} (m : PySem.W.kitMeta T = true) (h : PySem.W.subIn K (.ref C) (.type T) = some b) : PySem.W.kitOne K (.ref C) (.type T) = some b := by
  unfold PySem.W.kitOne PySem.W.kitCls
  rw [if_neg (show ¬ (Value.ref C == Value.type T) = true from fun z => by cases z)]
  show (if PySem.W.kitMeta T = true then _ else _) = _
  rw [if_pos m]
  exact h
theorem all_mk {P : Program} {w : World} {K : PySem.W.Frag} {h : Heap} {mg : Str → Option Value} {fa : Addr} (X : K.In h) (G : h.Ns mainGlobals mg) (hfa : mg "law" = some (.ref fa))
    {f0 : Addr} {oc0 kV0 dc0 pm0 cd0 ct0 : Value} {od0 an0 : Option Addr} {sl0 : Array (Option Value)}
    {f1 : Addr} {oc1 kV1 dc1 pm1 cd1 ct1 : Value} {od1 an1 : Option Addr} {sl1 : Array (Option Value)}
    {f2 : Addr} {oc2 kV2 dc2 pm2 cd2 ct2 : Value} {od2 an2 : Option Addr} {sl2 : Array (Option Value)}
    {f3 : Addr} {oc3 kV3 dc3 pm3 cd3 ct3 : Value} {od3 an3 : Option Addr} {sl3 : Array (Option Value)}
    {f4 : Addr} {oc4 kV4 dc4 pm4 cd4 ct4 : Value} {od4 an4 : Option Addr} {sl4 : Array (Option Value)}
    {f5 : Addr} {oc5 kV5 dc5 pm5 cd5 ct5 : Value} {od5 an5 : Option Addr} {sl5 : Array (Option Value)}
    {f6 : Addr} {oc6 kV6 dc6 pm6 cd6 ct6 : Value} {od6 an6 : Option Addr} {sl6 : Array (Option Value)}
    {f7 : Addr} {oc7 kV7 dc7 pm7 cd7 ct7 : Value} {od7 an7 : Option Addr} {sl7 : Array (Option Value)}
    {f8 : Addr} {oc8 kV8 dc8 pm8 cd8 ct8 : Value} {od8 an8 : Option Addr} {sl8 : Array (Option Value)}
    {f9 : Addr} {oc9 kV9 dc9 pm9 cd9 ct9 : Value} {od9 an9 : Option Addr} {sl9 : Array (Option Value)}
    {f10 : Addr} {oc10 kV10 dc10 pm10 cd10 ct10 : Value} {od10 an10 : Option Addr} {sl10 : Array (Option Value)}
    {f11 : Addr} {oc11 kV11 dc11 pm11 cd11 ct11 : Value} {od11 an11 : Option Addr} {sl11 : Array (Option Value)}
    {f12 : Addr} {oc12 kV12 dc12 pm12 cd12 ct12 : Value} {od12 an12 : Option Addr} {sl12 : Array (Option Value)}
    {f13 : Addr} {oc13 kV13 dc13 pm13 cd13 ct13 : Value} {od13 an13 : Option Addr} {sl13 : Array (Option Value)}
    {f14 : Addr} {oc14 kV14 dc14 pm14 cd14 ct14 : Value} {od14 an14 : Option Addr} {sl14 : Array (Option Value)}
    {f15 : Addr} {oc15 kV15 dc15 pm15 cd15 ct15 : Value} {od15 an15 : Option Addr} {sl15 : Array (Option Value)}
    {t0 : Nat}
    {t1 : Nat}
    {t2 : Nat}
    {b0 : Addr} {z00 z01 z02 : Nat} {bd0 : Option Addr} {bs0 : Array (Option Value)} {bn0 : Nat}
    {b1 : Addr} {z10 z11 z12 z13 z14 : Nat} {bd1 : Option Addr} {bs1 : Array (Option Value)} {bn1 : Nat}
    {S C fI N : Addr} {nm qn : Str} {bs bm : List Value} {sn : List Str} {sub : List Value} {ab : Bool} {col : Option Bool} {dd : Option Addr} {m0 m1 m2 m3 m5 : Option Value} {oc kV dc pm cd ct : Value} {od an : Option Addr} {sl : Array (Option Value)}
    (a0 : PySem.W.nsIn K mainGlobals "is_number" = some (some (.ref f0))) (l0 : K.lookup f0 = some ⟨oc0, od0, .func (PySem.W.fnOf "is_number" "is_number" (defArgs s_is_number) (defBody s_is_number) (defScope s_is_number) .none kV0 dc0 pm0 an0 cd0 ct0), sl0⟩) (c0 : PySem.W.codeIn K cd0 "is_number" = true) (k0 : PySem.W.keepIn K (.ref f0) = true)
    (a1 : PySem.W.nsIn K mainGlobals "is_whole" = some (some (.ref f1))) (l1 : K.lookup f1 = some ⟨oc1, od1, .func (PySem.W.fnOf "is_whole" "is_whole" (defArgs s_is_whole) (defBody s_is_whole) (defScope s_is_whole) .none kV1 dc1 pm1 an1 cd1 ct1), sl1⟩) (c1 : PySem.W.codeIn K cd1 "is_whole" = true) (k1 : PySem.W.keepIn K (.ref f1) = true)
    (a2 : PySem.W.nsIn K mainGlobals "is_name" = some (some (.ref f2))) (l2 : K.lookup f2 = some ⟨oc2, od2, .func (PySem.W.fnOf "is_name" "is_name" (defArgs s_is_name) (defBody s_is_name) (defScope s_is_name) .none kV2 dc2 pm2 an2 cd2 ct2), sl2⟩) (c2 : PySem.W.codeIn K cd2 "is_name" = true) (k2 : PySem.W.keepIn K (.ref f2) = true)
    (a3 : PySem.W.nsIn K mainGlobals "is_worth" = some (some (.ref f3))) (l3 : K.lookup f3 = some ⟨oc3, od3, .func (PySem.W.fnOf "is_worth" "is_worth" (defArgs s_is_worth) (defBody s_is_worth) (defScope s_is_worth) .none kV3 dc3 pm3 an3 cd3 ct3), sl3⟩) (c3 : PySem.W.codeIn K cd3 "is_worth" = true) (k3 : PySem.W.keepIn K (.ref f3) = true)
    (a4 : PySem.W.nsIn K mainGlobals "is_manner" = some (some (.ref f4))) (l4 : K.lookup f4 = some ⟨oc4, od4, .func (PySem.W.fnOf "is_manner" "is_manner" (defArgs s_is_manner) (defBody s_is_manner) (defScope s_is_manner) .none kV4 dc4 pm4 an4 cd4 ct4), sl4⟩) (c4 : PySem.W.codeIn K cd4 "is_manner" = true) (k4 : PySem.W.keepIn K (.ref f4) = true)
    (a5 : PySem.W.nsIn K mainGlobals "is_table" = some (some (.ref f5))) (l5 : K.lookup f5 = some ⟨oc5, od5, .func (PySem.W.fnOf "is_table" "is_table" (defArgs s_is_table) (defBody s_is_table) (defScope s_is_table) .none kV5 dc5 pm5 an5 cd5 ct5), sl5⟩) (c5 : PySem.W.codeIn K cd5 "is_table" = true) (k5 : PySem.W.keepIn K (.ref f5) = true)
    (a6 : PySem.W.nsIn K mainGlobals "_law_cell" = some (some (.ref f6))) (l6 : K.lookup f6 = some ⟨oc6, od6, .func (PySem.W.fnOf "_law_cell" "_law_cell" (defArgs s_law_cell) (defBody s_law_cell) (defScope s_law_cell) .none kV6 dc6 pm6 an6 cd6 ct6), sl6⟩) (c6 : PySem.W.codeIn K cd6 "_law_cell" = true) (k6 : PySem.W.keepIn K (.ref f6) = true)
    (a7 : PySem.W.nsIn K mainGlobals "_law_box" = some (some (.ref f7))) (l7 : K.lookup f7 = some ⟨oc7, od7, .func (PySem.W.fnOf "_law_box" "_law_box" (defArgs s_law_box) (defBody s_law_box) (defScope s_law_box) .none kV7 dc7 pm7 an7 cd7 ct7), sl7⟩) (c7 : PySem.W.codeIn K cd7 "_law_box" = true) (k7 : PySem.W.keepIn K (.ref f7) = true)
    (a8 : PySem.W.nsIn K mainGlobals "_law_take" = some (some (.ref f8))) (l8 : K.lookup f8 = some ⟨oc8, od8, .func (PySem.W.fnOf "_law_take" "_law_take" (defArgs s_take) (defBody s_take) (defScope s_take) .none kV8 dc8 pm8 an8 cd8 ct8), sl8⟩) (c8 : PySem.W.codeIn K cd8 "_law_take" = true) (k8 : PySem.W.keepIn K (.ref f8) = true)
    (a9 : PySem.W.nsIn K mainGlobals "_law_sign" = some (some (.ref f9))) (l9 : K.lookup f9 = some ⟨oc9, od9, .func (PySem.W.fnOf "_law_sign" "_law_sign" (defArgs s_law_sign) (defBody s_law_sign) (defScope s_law_sign) .none kV9 dc9 pm9 an9 cd9 ct9), sl9⟩) (c9 : PySem.W.codeIn K cd9 "_law_sign" = true) (k9 : PySem.W.keepIn K (.ref f9) = true)
    (a10 : PySem.W.nsIn K mainGlobals "_law_bent" = some (some (.ref f10))) (l10 : K.lookup f10 = some ⟨oc10, od10, .func (PySem.W.fnOf "_law_bent" "_law_bent" (defArgs s_law_bent) (defBody s_law_bent) (defScope s_law_bent) .none kV10 dc10 pm10 an10 cd10 ct10), sl10⟩) (c10 : PySem.W.codeIn K cd10 "_law_bent" = true) (k10 : PySem.W.keepIn K (.ref f10) = true)
    (a11 : PySem.W.nsIn K mainGlobals "_law_is_name" = some (some (.ref f11))) (l11 : K.lookup f11 = some ⟨oc11, od11, .func (PySem.W.fnOf "_law_is_name" "_law_is_name" (defArgs s_law_is_name) (defBody s_law_is_name) (defScope s_law_is_name) .none kV11 dc11 pm11 an11 cd11 ct11), sl11⟩) (c11 : PySem.W.codeIn K cd11 "_law_is_name" = true) (k11 : PySem.W.keepIn K (.ref f11) = true)
    (a12 : PySem.W.nsIn K mainGlobals "_law_number_right" = some (some (.ref f12))) (l12 : K.lookup f12 = some ⟨oc12, od12, .func (PySem.W.fnOf "_law_number_right" "_law_number_right" (defArgs s_law_number_right) (defBody s_law_number_right) (defScope s_law_number_right) .none kV12 dc12 pm12 an12 cd12 ct12), sl12⟩) (c12 : PySem.W.codeIn K cd12 "_law_number_right" = true) (k12 : PySem.W.keepIn K (.ref f12) = true)
    (a13 : PySem.W.nsIn K mainGlobals "_law_text_right" = some (some (.ref f13))) (l13 : K.lookup f13 = some ⟨oc13, od13, .func (PySem.W.fnOf "_law_text_right" "_law_text_right" (defArgs s_law_text_right) (defBody s_law_text_right) (defScope s_law_text_right) .none kV13 dc13 pm13 an13 cd13 ct13), sl13⟩) (c13 : PySem.W.codeIn K cd13 "_law_text_right" = true) (k13 : PySem.W.keepIn K (.ref f13) = true)
    (a14 : PySem.W.nsIn K mainGlobals "_law_others_right" = some (some (.ref f14))) (l14 : K.lookup f14 = some ⟨oc14, od14, .func (PySem.W.fnOf "_law_others_right" "_law_others_right" (defArgs s_law_others_right) (defBody s_law_others_right) (defScope s_law_others_right) .none kV14 dc14 pm14 an14 cd14 ct14), sl14⟩) (c14 : PySem.W.codeIn K cd14 "_law_others_right" = true) (k14 : PySem.W.keepIn K (.ref f14) = true)
    (a15 : PySem.W.nsIn K mainGlobals "law" = some (some (.ref f15))) (l15 : K.lookup f15 = some ⟨oc15, od15, .func (PySem.W.fnOf "law" "law" (defArgs s_law) (defBody s_law) (defScope s_law) .none kV15 dc15 pm15 an15 cd15 ct15), sl15⟩) (c15 : PySem.W.codeIn K cd15 "law" = true) (k15 : PySem.W.keepIn K (.ref f15) = true)
    (i0 : PySem.W.nsIn K mainGlobals "LEAST" = some (some (.int (-2048) t0)))
    (i1 : PySem.W.nsIn K mainGlobals "GREATEST" = some (some (.int (2047) t1)))
    (i2 : PySem.W.nsIn K mainGlobals "NAME_LENGTH" = some (some (.int (8) t2)))
    (u0 : PySem.W.nsIn K mainGlobals "MANNERS" = some (some (.ref b0))) (w0 : K.lookup b0 = some ⟨.type "tuple", bd0, .seq #[.str "clip" z00, .str "wrap" z01, .str "fold" z02] bn0, bs0⟩)
    (u1 : PySem.W.nsIn K mainGlobals "TABLES" = some (some (.ref b1))) (w1 : K.lookup b1 = some ⟨.type "tuple", bd1, .seq #[.str "saw" z10, .str "square" z11, .str "tri" z12, .str "pulse" z13, .str "hump" z14] bn1, bs1⟩)
    (n0 : PySem.W.nsIn K mainGlobals "isinstance" = some none)
    (n1 : PySem.W.nsIn K mainGlobals "int" = some none)
    (n2 : PySem.W.nsIn K mainGlobals "bool" = some none)
    (n3 : PySem.W.nsIn K mainGlobals "str" = some none)
    (n4 : PySem.W.nsIn K mainGlobals "len" = some none)
    (n5 : PySem.W.nsIn K mainGlobals "all" = some none)
    (n6 : PySem.W.nsIn K mainGlobals "max" = some none)
    (n7 : PySem.W.nsIn K mainGlobals "min" = some none)
    (n8 : PySem.W.nsIn K mainGlobals "repr" = some none)
    (n9 : PySem.W.nsIn K mainGlobals "range" = some none)
    (s0 : PySem.W.nsIn K mainGlobals "SoundError" = some (some (.ref S))) (s1 : PySem.W.specialIn K (.ref S) "__getattribute__" = some (some (.builtin "type.__getattribute__"))) (s2 : PySem.W.readsIn K S (.type "type") = true)
    (s3 : PySem.W.findCls K (.ref S) (.type "type") "__init__" = some (.val (.builtin "ValueError.__init__")))
    (e0 : PySem.W.nsIn K mainGlobals "NoWorth" = some (some (.ref C))) (e1 : K.lookup C = some (excClassObj nm qn C N bs bm true sn sub ab col dd m0 m1 m2 m3 m5 "ValueError.__new__")) (e1b : PySem.HandSPX.refsVE bm = true)
    (e2 : PySem.W.findIn K (.ref C) "__setattr__" = some (some (.builtin "object.__setattr__"))) (e3 : PySem.W.subIn K (.ref C) (.type "BaseException") = some true) (e4 : PySem.W.typeIn K (.ref C) = some (.type "type")) (e5 : PySem.W.keepIn K (.ref C) = true)
    (e6 : PySem.W.findIn K (.ref C) "found" = some none) (e7 : PySem.W.findIn K (.ref C) "__init__" = some (some (.ref fI))) (e8 : PySem.W.typeIn K (.ref fI) = some (.type "function"))
    (e9 : K.lookup fI = some ⟨oc, od, .func (PySem.W.fnOf "__init__" "NoWorth.__init__" (defArgs s_init) (defBody s_init) (defScope s_init) .none kV dc pm an cd ct), sl⟩) (e10 : PySem.W.codeIn K cd "NoWorth.__init__" = true) (e11 : PySem.W.keepIn K (.ref fI) = true)
    (x1 : PySem.W.findIn K (.ref C) "__getattribute__" = some (some (.builtin "BaseException.__getattribute__"))) (x2 : PySem.W.findIn K (.ref C) "__getattr__" = some none) (x3 : PySem.W.hasDictIn K C = true)
    (x4 : PySem.W.findIn K (.ref C) "__class__" = some (some (.builtin "object.__class__"))) (x5 : PySem.W.specialIn K (.builtin "object.__class__") "__get__" = some (some (.builtin "getset_descriptor.__get__"))) (x6 : PySem.W.takesIn K (.builtin "object.__class__") = some true)
    (x7 : PySem.W.mroIn K C (.type "object") = some true) (x8 : PySem.W.subIn K (.ref C) (.type "int") = some false) (x9 : PySem.W.subIn K (.ref C) (.type "str") = some false) :
    ∃ fd : FuncData, (∀ (s : Shared) (u : Value), BindsTo s fd ⟨[u], []⟩ [("script", u)]) ∧ ∀ base : Heap, K.In base → base.Ns mainGlobals mg → FnG P w K mg base (L2.CX P w) 5 fa fd ["script"] (spLaw K) := by
  have e := hfa.symm.trans (PySem.W.mg_of X G a15)
  cases e
  have T : Txt K mg := {
    d_is_number := defIn X G a0 l0 c0 k0
    d_is_whole := defIn X G a1 l1 c1 k1
    d_is_name := defIn X G a2 l2 c2 k2
    d_is_worth := defIn X G a3 l3 c3 k3
    d_is_manner := defIn X G a4 l4 c4 k4
    d_is_table := defIn X G a5 l5 c5 k5
    d_cell := defIn X G a6 l6 c6 k6
    d_box := defIn X G a7 l7 c7 k7
    d_take := defIn X G a8 l8 c8 k8
    d_sign := defIn X G a9 l9 c9 k9
    d_bent := defIn X G a10 l10 c10 k10
    d_lname := defIn X G a11 l11 c11 k11
    d_number_right := defIn X G a12 l12 c12 k12
    d_text_right := defIn X G a13 l13 c13 k13
    d_others_right := defIn X G a14 l14 c14 k14
    g_LEAST := ⟨_, PySem.W.mg_of X G i0, _, rfl⟩
    g_GREATEST := ⟨_, PySem.W.mg_of X G i1, _, rfl⟩
    g_NAME_LENGTH := ⟨_, PySem.W.mg_of X G i2, _, rfl⟩
    g_MANNERS := ⟨b0, PySem.W.mg_of X G u0, fun _ => .inr ⟨_, _, _, w0, rfl, rfl, Nat.le_of_ble_eq_true rfl, .cons ⟨_, rfl⟩ (.cons ⟨_, rfl⟩ (.cons ⟨_, rfl⟩ (.nil)))⟩⟩
    g_TABLES := ⟨b1, PySem.W.mg_of X G u1, fun _ => .inr ⟨_, _, _, w1, rfl, rfl, Nat.le_of_ble_eq_true rfl, .cons ⟨_, rfl⟩ (.cons ⟨_, rfl⟩ (.cons ⟨_, rfl⟩ (.cons ⟨_, rfl⟩ (.cons ⟨_, rfl⟩ (.nil)))))⟩⟩
    n_isinstance := PySem.W.mg_none_of X G n0
    n_int := PySem.W.mg_none_of X G n1
    n_bool := PySem.W.mg_none_of X G n2
    n_str := PySem.W.mg_none_of X G n3
    n_len := PySem.W.mg_none_of X G n4
    n_all := PySem.W.mg_none_of X G n5
    n_max := PySem.W.mg_none_of X G n6
    n_min := PySem.W.mg_none_of X G n7
    n_repr := PySem.W.mg_none_of X G n8
    n_range := PySem.W.mg_none_of X G n9
    x_up := ⟨S, PySem.W.mg_of X G s0, s1, s2, s3⟩
    x_no := ⟨C, fI, _, ⟨⟨_, _, _, _, _, _, _, _, _, _, _, _, _, _, _, e1, e1b⟩, e2, e3, e4, e5⟩, PySem.W.mg_of X G e0, e6, e7, e8, fun_mk e9 e10 e11, ⟨x1, x2, e3, x3, x4, x5, x6, x7⟩, kit_sub (by decide +kernel) x8, kit_sub (by decide +kernel) x9⟩ }
  have F := fun_mk (st := s_law) l15 c15 k15
  exact ⟨_, fun s u => .of_eq rfl, fun base _ _ => ok_law T F⟩
end K1
open PySem PySem.W PyProof.Rows
set_option maxRecDepth 100000 in
set_option maxHeartbeats 8000000 in
theorem PySem.Challenge.cw_cordsounds_k01_kinds_of_anything_holds : PySem.Challenge.rw_cordsounds_k01_kinds_of_anything.Holds := by
  w_on; o_law; k_head; (case hw => w_witness2)
  k_fill
  refine Gx.walk_gk (l := PySem.Challenge.rw_cordsounds_k01_kinds_of_anything) (n := 63) (k := 5) (x := "script") (sp := K1.spLaw) rfl (by decide) rfl ⟨rfl, by decide, by decide⟩ (fun w h Y => PySem.W.kIn_of Y) ?F ?S
  case F =>
    intro w mg fa h KX G hmg
    refine' K1.all_mk KX G hmg ?a0 ?l0 ?c0 ?k0 ?a1 ?l1 ?c1 ?k1 ?a2 ?l2 ?c2 ?k2 ?a3 ?l3 ?c3 ?k3 ?a4 ?l4 ?c4 ?k4 ?a5 ?l5 ?c5 ?k5 ?a6 ?l6 ?c6 ?k6 ?a7 ?l7 ?c7 ?k7 ?a8 ?l8 ?c8 ?k8 ?a9 ?l9 ?c9 ?k9 ?a10 ?l10 ?c10 ?k10 ?a11 ?l11 ?c11 ?k11 ?a12 ?l12 ?c12 ?k12 ?a13 ?l13 ?c13 ?k13 ?a14 ?l14 ?c14 ?k14 ?a15 ?l15 ?c15 ?k15 ?i0 ?i1 ?i2 ?u0 ?w0 ?u1 ?w1 ?n0 ?n1 ?n2 ?n3 ?n4 ?n5 ?n6 ?n7 ?n8 ?n9 ?s0 ?s1 ?s2 ?s3 ?e0 ?e1 ?e1b ?e2 ?e3 ?e4 ?e5 ?e6 ?e7 ?e8 ?e9 ?e10 ?e11 ?x1 ?x2 ?x3 ?x4 ?x5 ?x6 ?x7 ?x8 ?x9
    (case a0 => k_is)
    (case l0 => k_is)
    (case c0 => k_is)
    (case k0 => k_is)
    (case a1 => k_is)
    (case l1 => k_is)
    (case c1 => k_is)
    (case k1 => k_is)
    (case a2 => k_is)
    (case l2 => k_is)
    (case c2 => k_is)
    (case k2 => k_is)
    (case a3 => k_is)
    (case l3 => k_is)
    (case c3 => k_is)
    (case k3 => k_is)
    (case a4 => k_is)
    (case l4 => k_is)
    (case c4 => k_is)
    (case k4 => k_is)
    (case a5 => k_is)
    (case l5 => k_is)
    (case c5 => k_is)
    (case k5 => k_is)
    (case a6 => k_is)
    (case l6 => k_is)
    (case c6 => k_is)
    (case k6 => k_is)
    (case a7 => k_is)
    (case l7 => k_is)
    (case c7 => k_is)
    (case k7 => k_is)
    (case a8 => k_is)
    (case l8 => k_is)
    (case c8 => k_is)
    (case k8 => k_is)
    (case a9 => k_is)
    (case l9 => k_is)
    (case c9 => k_is)
    (case k9 => k_is)
    (case a10 => k_is)
    (case l10 => k_is)
    (case c10 => k_is)
    (case k10 => k_is)
    (case a11 => k_is)
    (case l11 => k_is)
    (case c11 => k_is)
    (case k11 => k_is)
    (case a12 => k_is)
    (case l12 => k_is)
    (case c12 => k_is)
    (case k12 => k_is)
    (case a13 => k_is)
    (case l13 => k_is)
    (case c13 => k_is)
    (case k13 => k_is)
    (case a14 => k_is)
    (case l14 => k_is)
    (case c14 => k_is)
    (case k14 => k_is)
    (case a15 => k_is)
    (case l15 => k_is)
    (case c15 => k_is)
    (case k15 => k_is)
    (case i0 => k_is)
    (case i1 => k_is)
    (case i2 => k_is)
    (case u0 => k_is)
    (case w0 => k_is)
    (case u1 => k_is)
    (case w1 => k_is)
    (case n0 => k_is)
    (case n1 => k_is)
    (case n2 => k_is)
    (case n3 => k_is)
    (case n4 => k_is)
    (case n5 => k_is)
    (case n6 => k_is)
    (case n7 => k_is)
    (case n8 => k_is)
    (case n9 => k_is)
    (case s0 => k_is)
    (case s1 => k_is)
    (case s2 => k_is)
    (case s3 => k_is)
    (case e0 => k_is)
    (case e1 => k_is)
    (case e1b => decide +kernel)
    (case e2 => k_is)
    (case e3 => k_is)
    (case e4 => k_is)
    (case e5 => k_is)
    (case e6 => k_is)
    (case e7 => k_is)
    (case e8 => k_is)
    (case e9 => k_is)
    (case e10 => k_is)
    (case e11 => k_is)
    (case x1 => k_is)
    (case x2 => k_is)
    (case x3 => k_is)
    (case x4 => k_is)
    (case x5 => k_is)
    (case x6 => k_is)
    (case x7 => k_is)
    (case x8 => k_is)
    (case x9 => k_is)
  case S =>
    intro K H a ns hl hS
    exact ⟨a, ns, rfl, hS, Nat.le_trans hl (by decide), fun _ => rfl⟩
