import PyProof.Rows.All
import Wide.All
import OpenK.AllK
import Wide.FinOn
import HandS.ForMost
import HandS.Conv
import HandS.Style
import HandS.NoneIn
import HandS.Defaults
import HandS.SortInts
import HandS.TupAny
import HandS.TupLe
import HandS.IsInst
import HandS.Small
import HandS.More
import HandS.Flow
import HandS.Walk
import KE.GoesMore
import KE.GoesEnum
import HandS.SetKeys
import PyProof.ReprRoads
import HandS.Lambda
import KE.KExcSuper
import HandS.Base
import HandS.Call
import HandS.List
import HandS.Ends
import HandS.Exc
import HandS.ExcInit
import HandS.Codes
import HandS.Nested
import HandS.ExcOwn
import HandS.ExcField
import HandS.ExcValue
import HandS.WordsExc
import KE.KExcIs
import HandS.EndTab
import HandS.ExcIs
import PySem.Challenge.RW_wrapcount_k05_bounds_and_excess
set_option Elab.async false
set_option linter.all false
set_option maxRecDepth 100000
/-! Shared ground of the proofs: a def as callers see it, tuples kept, networks as data. -/
namespace Wc
open PySem PySem.Spec PyProof.Rows L2

section
variable {P : Program} {w : World} {K : PySem.W.Frag} {mg : Str → Option Value} {base : Heap}
/-- a def of the text: where it stands, what its name holds, how its arguments bind -/
def DefAt (K : PySem.W.Frag) (mg : Str → Option Value) (x : Str) (st : Stmt) (ps : List Str) : Prop :=
  ∃ (f : Addr) (fd : FuncData), Fun K x x st f fd ∧ mg x = some (.ref f) ∧ Binds K fd ps []
/-- a def as its callers see it -/
def Has (P : Program) (w : World) (K : PySem.W.Frag) (mg : Str → Option Value) (base : Heap) (x : Str) (k : Nat) (ps : List Str) (sp : Sp) : Prop :=
  ∃ (f : Addr) (fd : FuncData), mg x = some (.ref f) ∧ PySem.W.keepIn K (.ref f) = true ∧ Binds K fd ps [] ∧ FnOk P w K mg base CX0 k f fd ps sp
theorem DefAt.ok {x : Str} {st : Stmt} {N ps : List Str} {k : Nat} {sp : Sp} (D : DefAt K mg x st ps) (S : FnScope N ps (defScope st)) (len : ∀ vs H Q E, sp vs H Q E → vs.length = ps.length)
    (hbody : ∀ (f : Addr) (cdv : Value) (A : Around) (outer : List Env) (s : Shared) (H : Hp) (vs : List V) (Q : VK) (E : XK), Room k (A.deeper (envOfC x (defScope st) s.heap.objs.size f cdv)) → sp vs H Q E →
      ∃ t, PSs (cxOf CX0 P w K mg base N x (defScope st) f cdv A outer s H E).nox (defBody st) t ∧ t { nx := fun _ H' => Q .non H', rt := Q } (start N vs) H) : Has P w K mg base x (k + 1) ps sp := by
  obtain ⟨f, fd, F, hm, hb⟩ := D
  exact ⟨f, fd, hm, F.kp, hb, F.ok S len (hbody f)⟩
end
theorem pe_own {X : Cx} {x : Str} {k : Nat} {ps : List Str} {sp : Sp} {p pos : Pos} {e : Expr} {es : List Expr} {t : TA} (F : Has X.prog X.w X.K X.mg X.base x k ps sp) (hr : Room k X.A) (hg : Gl X x) (ha : PA X (e :: es) t)
    (nodebug : (x == ("__debug__" : Str)) = false := by decide)
    (first : starEach (e :: es) X.env = (false, eval e X.env) :: starEach es X.env := by rfl)
    (plain : (backTo pos (starEach es X.env)).any (·.1) = false := by rfl) :
    PE X (.Call (.Name x p) (e :: es) [] pos) (tCall sp [] E0 t) := by
  refine ⟨fun pins s σ H Q I h => ?_⟩
  obtain ⟨f, fd, hm, hk, hb, F⟩ := F
  exact (pe_call F hr hg hm hk hb .nil pass0 ha nodebug first plain).run pins s σ H Q I h
/-! ### what is kept -/
/-- all tuples are kept -/
def KeepT (H H' : Hp) : Prop := ∀ b xs, Rd H b (.tup xs) → Rd H' b (.tup xs)
end Wc
namespace L2
open PySem PySem.Spec PyProof.Rows Wc
theorem Same.keepT {H H' : Hp} (s : Same H H') : KeepT H H' := fun b xs h => by
  rcases h with h | ⟨o, h⟩
  · exact .inl (s _ _ h)
  · exact .inr ⟨o, s _ _ h⟩
end L2
namespace Wc
open PySem PySem.Spec PyProof.Rows L2
theorem KeepT.refl (H : Hp) : KeepT H H := fun _ _ h => h
theorem KeepT.trans {H H1 H2 : Hp} (a : KeepT H H1) (b : KeepT H1 H2) : KeepT H H2 := fun c xs h => b c xs (a c xs h)
theorem KeepT.seq {K : PySem.W.Frag} {H H' : Hp} {a : Addr} {xs : List V} (k : KeepT H H') (h : SqT K H a xs) : SqT K H' a xs := by
  rcases h with h | h
  · exact .inl (k _ _ h)
  · exact .inr h
theorem same_upd {H : Hp} {p : Addr} {o : HO} (h : H p = none) : Same H (upd H p o) := fun b x e => by
  rw [upd_ne (ne_of_none e h)]
  exact e
/-- all but what stands at S is kept -/
def But (S : Addr → Prop) (H H' : Hp) : Prop := ∀ b o, ¬ S b → H b = some o → H' b = some o
theorem But.refl (S : Addr → Prop) (H : Hp) : But S H H := fun _ _ _ h => h
theorem But.trans {S : Addr → Prop} {H H1 H2 : Hp} (a : But S H H1) (b : But S H1 H2) : But S H H2 := fun c o n h => b c o n (a c o n h)
end Wc
namespace L2
open PySem PySem.Spec PyProof.Rows Wc
theorem Same.but {S : Addr → Prop} {H H' : Hp} (s : Same H H') : But S H H' := fun b o _ h => s b o h
end L2
namespace Wc
open PySem PySem.Spec PyProof.Rows L2
theorem But.same {H H' : Hp} (s : But (fun _ => False) H H') : Same H H' := fun b o h => s b o (fun z => z) h

/-! ### pipes, networks -/
structure Tube where
  s : Nat
  t : Nat
  lo : Int
  hi : Int
  me : Option Int
def optV : Option Int → V
  | none => .non
  | some i => .int i
def Tube.vs (p : Tube) : List V := [.int p.s, .int p.t, .int p.lo, .int p.hi, optV p.me]
def Tube.wide (p : Tube) : Bool := p.me.isNone && decide (p.lo < p.hi)
def TubeAt (K : PySem.W.Frag) (H : Hp) (v : V) (p : Tube) : Prop := ∃ a, v = .ref a ∧ SqT K H a p.vs
structure Net where
  base : Int
  many : Nat
  tubes : List Tube
def NetAt (K : PySem.W.Frag) (H : Hp) (a : Addr) (N : Net) : Prop :=
  ∃ b vs, SqT K H a [.int N.base, .int N.many, .ref b] ∧ SqT K H b vs ∧ Paired (TubeAt K H) vs N.tubes
theorem TubeAt.keep {K : PySem.W.Frag} {H H' : Hp} {v : V} {p : Tube} (k : KeepT H H') (h : TubeAt K H v p) : TubeAt K H' v p := by
  obtain ⟨a, e, q⟩ := h
  exact ⟨a, e, k.seq q⟩
theorem NetAt.keep {K : PySem.W.Frag} {H H' : Hp} {a : Addr} {N : Net} (k : KeepT H H') (h : NetAt K H a N) : NetAt K H' a N := by
  obtain ⟨b, vs, h1, h2, h3⟩ := h
  exact ⟨b, vs, k.seq h1, k.seq h2, Paired.mapP h3 fun _ _ q => q.keep k⟩
end Wc
namespace Wc
open PySem PySem.Spec PyProof.Rows L2
/-- a constant of the module -/
theorem pe_const {X : Cx} {x : Str} {v : V} {pos : Pos} (hg : Gl X x) (hm : ∃ u, X.mg x = some u ∧ RelV v u) (hd : (x == ("__debug__" : Str)) = false := by decide) : PE X (.Name x pos) (tC v) := by
  refine ⟨fun pins s σ H Q I h => ?_⟩
  obtain ⟨u, hm, r⟩ := hm
  exact (pe_glob hg hm r hd).run pins s σ H Q I h
/-- a value that is no whole number -/
def NotInt (K : PySem.W.Frag) (H : Hp) (v : V) : Prop := ∃ t : String, TyX K H v (.type t) ∧ (t = "NoneType" ∨ t = "bool" ∨ t = "str" ∨ t = "list" ∨ t = "tuple" ∨ t = "dict")
/-- the names of built-ins that the program uses -/
structure Blt (mg : Str → Option Value) : Prop where
  b_len : mg "len" = none
  b_int : mg "int" = none
  b_bool : mg "bool" = none
  b_tuple : mg "tuple" = none
  b_list : mg "list" = none
  b_isinstance : mg "isinstance" = none
  b_range : mg "range" = none
  b_enumerate : mg "enumerate" = none
  b_zip : mg "zip" = none
  b_min : mg "min" = none
  b_max : mg "max" = none
  b_sum : mg "sum" = none
  b_sorted : mg "sorted" = none
  b_repr : mg "repr" = none
  b_any : mg "any" = none
  b_reversed : mg "reversed" = none
  b_set : mg "set" = none
structure Cst (mg : Str → Option Value) : Prop where
  m_MAX_MODULUS : ∃ u, mg "MAX_MODULUS" = some u ∧ RelV (.int 1000000) u
  m_MAX_PLACES : ∃ u, mg "MAX_PLACES" = some u ∧ RelV (.int 24) u
  m_MAX_PIPES : ∃ u, mg "MAX_PIPES" = some u ∧ RelV (.int 60) u
  m_MAX_COUNT : ∃ u, mg "MAX_COUNT" = some u ∧ RelV (.int 1000000000000) u
end Wc

namespace Wc
open PySem PySem.Spec PyProof.Rows L2
theorem iteB {b : Bool} {A B : Prop} (h : b = true) (k : A) : if b = true then A else B := by
  rw [if_pos h]
  exact k
theorem iteN {b : Bool} {A B : Prop} (h : b = false) (k : B) : if b = true then A else B := by
  subst h
  exact iteF k
theorem ty_tup {K : PySem.W.Frag} {H : Hp} {a : Addr} {xs : List V} (h : SqT K H a xs) : TyX K H (.ref a) (.type "tuple") := by
  rcases h with (h | ⟨o, h⟩) | ⟨o, its, n, hk, hc, _⟩
  · exact .base (.tup h)
  · exact .fTuple h
  · exact .kTuple hk hc
/-- a def with defaults as its callers see it: dvs the defaults that fill up -/
def HasD (P : Program) (w : World) (K : PySem.W.Frag) (mg : Str → Option Value) (base : Heap) (x : Str) (k : Nat) (ps : List Str) (dvs : List V) (sp : Sp) : Prop :=
  ∃ (f : Addr) (fd : FuncData) (ds : List Value), mg x = some (.ref f) ∧ PySem.W.keepIn K (.ref f) = true ∧ Binds K fd ps ds ∧ Vals dvs ds ∧ FnOk P w K mg base CX0 k f fd ps sp
theorem pe_ownD {X : Cx} {x : Str} {k : Nat} {ps : List Str} {dvs : List V} {sp : Sp} {p pos : Pos} {e : Expr} {es : List Expr} {t : TA} (F : HasD X.prog X.w X.K X.mg X.base x k ps dvs sp) (hr : Room k X.A) (hg : Gl X x) (ha : PA X (e :: es) t)
    (nodebug : (x == ("__debug__" : Str)) = false := by decide)
    (first : starEach (e :: es) X.env = (false, eval e X.env) :: starEach es X.env := by rfl)
    (plain : (backTo pos (starEach es X.env)).any (·.1) = false := by rfl) :
    PE X (.Call (.Name x p) (e :: es) [] pos) (tCall sp dvs E0 t) := by
  refine ⟨fun pins s σ H Q I h => ?_⟩
  obtain ⟨f, fd, ds, hm, hk, hb, hd, F⟩ := F
  exact (pe_call F hr hg hm hk hb hd pass0 ha nodebug first plain).run pins s σ H Q I h
end Wc
namespace L2
open PySem PySem.Spec PyProof.Rows Wc
theorem Room.b64 {k : Nat} {A : Around} (r : Room k A) : A.units + 64 < cLine := by
  have := r.un
  omega
end L2

set_option Elab.async false
set_option linter.all false
set_option maxRecDepth 100000
/-! Rules for enumerate over a tuple and for xs[i] += e over a list. -/
namespace Wc
open PySem PySem.Spec PyProof.Rows L2
/-- how a fresh counter stands over the iterator that was laid at the address it -/
abbrev cnt0 (it : Addr) : Obj := { cls := .type "enumerate", data := .fields #[.none, .bool false, .ref it, rawInt 0, .none, .none] }
set_option maxHeartbeats 1000000 in
theorem enum_made {v : Value} {ob : Obj} {Ok : Heap → Prop} (B : Begins v ob Ok) :
    Meets (Builtin.«enumerate.__new__» ⟨[.type "enumerate", v], []⟩) fun _ R s =>
      Ok s.heap ∧ R (.ok (.ret (.ref (s.heap.push ob).objs.size))) { s with heap := (s.heap.push ob).push (cnt0 s.heap.objs.size) } := by
  refine .of_wp fun prog w A R s hs => ?_
  obtain ⟨hp, gs, dr, tk, os⟩ := s
  obtain ⟨ok, fin⟩ := hs
  have isSub := sub_enumerate
  have start : ∀ {A' : Around} {E Q : Value → Shared → Prop}, Q (.ref hp.objs.size) ⟨hp.push ob, gs, dr, tk, os⟩ → wpAny (model prog w) A' (pyIter v) Q E ⟨hp, gs, dr, tk, os⟩ := B.iter prog w _ _ ⟨hp, gs, dr, tk, os⟩ _ ok
  wp_walk using start
  refine wpAny_stack_any fun _ => wpAny_pure ?_
  split
  case h_1 => rename_i c _ _ _ _ _; cases (c == Value.type "enumerate") <;> (wp_walk using start; exact ⟨_, rfl, fin⟩)
  all_goals (wp_walk using start; exact ⟨_, rfl, fin⟩)
theorem enum_call {prog : Program} {w : World} {A : Around} {E Q : Value → Shared → Prop} {s : Shared} {v : Value} {ob : Obj} {Ok : Heap → Prop} (B : Begins v ob Ok) (ok : Ok s.heap)
    (fin : ∀ h2 : Heap, IsEnum h2 (s.heap.objs.size + 1) s.heap.objs.size 0 .none ∧ h2.get? s.heap.objs.size = some ob ∧ (∀ b o, s.heap.get? b = some o → h2.get? b = some o) → Q (.ref (s.heap.objs.size + 1)) { s with heap := h2 }) :
    wpAny (model prog w) A (call (.type "enumerate") [v]) Q E s := by
  have size1 : (s.heap.push ob).objs.size = s.heap.objs.size + 1 := Heap.size_push ..
  have there : ((s.heap.push ob).push (cnt0 s.heap.objs.size)).get? (s.heap.objs.size + 1) = some (cnt0 s.heap.objs.size) := by
    have z := Heap.get?_push_size (s.heap.push ob) (o := cnt0 s.heap.objs.size) rfl
    rwa [size1] at z
  refine callType_new F.called_enumerate (by decide) (F.typeCall_enumerate_1 _) (F.newCall_enumerate_1 _) (fun _ => F.args_object_init_2 _ _) F.entry_enumerate_new (enum_made B) ⟨ok, ?_⟩
  rw [size1]
  exact ⟨⟨_, there, rfl⟩, fin _ ⟨there, Heap.get?_push_of_some _ (Heap.get?_push_size _ B.free), fun b o q => Heap.get?_push_of_some _ (Heap.get?_push_of_some _ q)⟩⟩
theorem of_two {b e it : Addr} (h : b ∈ [e, it]) : b = e ∨ b = it := by simpa using h
/-- the tuple at a, each item in a new pair behind its index -/
def IteT (K : PySem.W.Frag) (a : Addr) : It where
  go := fun i H => ∃ (xs : List V) (x : V), SqT K H a xs ∧ xs[i]? = some x
  yld := fun i H v H' => ∃ (T : Addr) (x : V), v = .ref T ∧ H T = none ∧ H' = upd H T (.tup [.int (i : Nat), x]) ∧ ∀ xs, SqT K H a xs → xs[i]? = some x
  stop := fun i H => ∃ xs : List V, SqT K H a xs ∧ xs.length = i
/-- the counter at e and the tuple's iterator at it, ahead of turn i -/
structure EnSt (a e it : Addr) (i : Nat) (h : Heap) : Prop where
  en : ∃ old, IsEnum h e it ((i : Nat) : Int) old
  at_ : h.IsTupleIter it a i
  ne : e ≠ it
theorem EnSt.apart {a e it : Addr} {i : Nat} {h : Heap} {its : Array Value} (S : EnSt a e it i h) (p : IsTup h a its) : e ∉ [it, a] := fun hm => by
  rcases of_two hm with z | z
  · exact S.ne z
  · obtain ⟨old, he⟩ := S.en
    obtain ⟨o, ho, hcl, _⟩ := p
    have q : h.get? e = some _ := he
    rw [← z, q] at ho
    have eo := Option.some.inj ho
    rw [← eo] at hcl
    injection hcl with bad
    exact absurd bad (by decide)
theorem turn_enT {P : Program} {w : World} {K : PySem.W.Frag} {elts : List Expr} {kk : Nat} {tpos : Pos} (a e it : Addr) (apart : a ≠ it) : Turn P w K (.Tuple elts kk tpos) (IteT K a) [e, it] e (EnSt a e it) := by
  refine ⟨by simp, fun i h S b hb => ?_, fun i h h' S keep => ?_, ?_, ?_, fun A i s Q E S q => ?_⟩
  · obtain ⟨⟨old, he⟩, ⟨o, ho, _, hd⟩, _⟩ := S
    rcases of_two hb with rfl | rfl
    · exact ⟨_, he, fun v q => nomatch q⟩
    · exact ⟨o, ho, fun v q => nomatch (hd.symm.trans q)⟩
  · obtain ⟨⟨old, he⟩, hi, ne⟩ := S
    exact ⟨⟨old, keep e (by simp) _ he⟩, hi.at (keep it (by simp)), ne⟩
  · rintro X rfl rfl rfl hc i pins s σ H E I fp S ⟨xs, x, hx, hxi⟩
    obtain ⟨its, rv, p, _⟩ := I.tuple hx
    obtain ⟨u, hu, ru⟩ := rv.get hxi
    have out := S.apart p
    obtain ⟨⟨old, he⟩, hit, ne⟩ := S
    have small : ∀ b ∈ [e, it], b < s.heap.objs.size := fun b hb => by
      rcases of_two hb with rfl | rfl
      · exact Heap.lt_size he
      · obtain ⟨_, q, _⟩ := hit
        exact Heap.lt_size q
    have inb : i < its.toArray.size := by
      rw [List.size_toArray]
      exact (List.getElem?_eq_some_iff.mp hu).1
    refine wpAny_pyNext_enum_itemD (Draws.tuple (A := X.A.in1) (I.ok.hd hc) it a apart its.toArray) he ⟨hit, p⟩ inb ne out fun y h1 tk hy given st hT _ kept => ?_
    have yu : y = u := Option.some.inj (hy.symm.trans (by simpa using hu))
    subst yu
    refine ⟨_, rfl, wpAny_letOwnedTupleGo_enum (s := { s with heap := h1, toks := tk + 1 }) given fun h2 he2 sb => ?_⟩
    have sameB : ∀ b, b ≠ e → h2.get? b = h1.get? b := fun b hb => sb.2 b hb
    have pair : h2.get? s.heap.objs.size = some { cls := .type "tuple", data := .seq #[.int i tk, y] } := (sameB _ (Nat.ne_of_gt (small e (by simp)))).trans hT
    have I2 : Inv X pins σ (upd H s.heap.objs.size (.tup [.int (i : Nat), x])) { s with heap := h2, toks := tk + 1 } := by
      refine I.turnedNew (ch := [e, it]) (fun b ob hb q => ?_) fp (Nat.le_refl _) ⟨by show 2 ≤ sizeLine; decide, [.int i tk, y], .cons ⟨_, rfl⟩ (.cons ru .nil), _, pair, rfl, _, rfl⟩
      have n1 : b ≠ e := fun z => hb (by simp [z])
      exact (sameB b n1).trans (kept b ob n1 (fun z => hb (by simp [z])) q)
    refine ⟨.ref s.heap.objs.size, _, I2, rfl, ⟨_, x, rfl, I.hok.fresh (Nat.le_refl _), rfl, fun ys hy => ?_⟩, ⟨⟨y, ?_⟩, st.1.at fun o q => (sameB it ne.symm).trans q, ne⟩, fun b hb => ?_⟩
    · rwa [I.tuple_inj hy hx]
    · have next : ((i + 1 : Nat) : Int) = (i : Int) + 1 := by omega
      rw [next]
      exact he2
    · rw [upd_ne (Nat.ne_of_lt (small b hb))]
      exact (fp b hb).1
  · rintro X rfl rfl rfl hc i pins s σ H E I fp S ⟨xs, hx, rfl⟩
    obtain ⟨its, rv, p, _⟩ := I.tuple hx
    obtain ⟨⟨old, he⟩, hit, ne⟩ := S
    obtain ⟨f0, f1, f2, f3, f4, f5⟩ := fp it (by simp)
    have len : xs.length = its.toArray.size := by rw [List.size_toArray, rv.length]
    rw [len] at he hit
    exact wpAny_pyNext_enum_endD (Draws.tuple (A := X.A.in1) (I.ok.hd hc) it a apart its.toArray) he ⟨hit, p⟩ fun h' eb => ⟨rfl, I.turned (t' := s.toks) eb f0 f1 f3 f4 f5⟩
  · obtain ⟨⟨_, he⟩, _⟩ := S
    exact wpAny_pyIter_enum he q
def iEnumT (K : PySem.W.Frag) (ta : TA) : TI := fun σ H R => ta σ H fun vs H1 => ∃ a xs, vs = [.ref a] ∧ SqT K H1 a xs ∧ R (IteT K a) H1
theorem pi_enumT {X : Cx} {arg : Expr} {ta : TA} {p pos tpos : Pos} {elts : List Expr} {kk : Nat} (gl : Gl X "enumerate") (free : X.mg "enumerate" = none) (ha : PA X [arg] ta) (hs : starEach [arg] X.env = [(false, eval arg X.env)] := by rfl) :
    PI X (.Tuple elts kk tpos) (.Call (.Name "enumerate" p) [arg] [] pos) (iEnumT X.K ta) := by
  refine ⟨fun pins s σ H R I h => Call_ (ld_blt I gl free boot_enumerate (PyProof.Rows.callWith_type1 (thn (ha.run pos pins s σ H _ I h) ?_) hs rfl))⟩
  rintro us s1 ⟨vs, H1, I1, rel, a, xs, rfl, hx, q⟩
  rcases rel with _ | ⟨r, _ | _⟩
  cases r
  obtain ⟨its, _, tup, _⟩ := I1.tuple hx
  refine enum_call (begins_tuple a its.toArray) tup ?_
  rintro h2 ⟨en, iter, kept⟩
  refine wpAny_pyIter_enum en ⟨s1.heap.objs.size + 1, [s1.heap.objs.size + 1, s1.heap.objs.size], EnSt a _ _, _, H1, rfl, I1.kept (t' := s1.toks) kept, turn_enT a _ _ (Nat.ne_of_lt tup.lt), ⟨⟨.none, en⟩, ⟨_, iter, rfl, rfl⟩, Nat.succ_ne_self _⟩, fun b hb => ?_, q⟩
  have above : s1.heap.objs.size ≤ b := by rcases of_two hb with rfl | rfl <;> omega
  exact I1.fpOk above (I1.hok.fresh above)
theorem walk_enumT {K : PySem.W.Frag} {a : Addr} {xs : List V} : Walk (IteT K a) xs.length (fun H => SqT K H a xs) (YPair (fun i => some (.int (i : Nat))) (fun i => xs[i]?)) where
  goes := fun i H hi h => ⟨xs, xs[i], h, List.getElem?_eq_getElem hi⟩
  stops := fun H h => ⟨xs, h, rfl⟩
  yields := fun i H v H' _ h ⟨T, x, h1, h2, h3, h4⟩ => ⟨T, .int (i : Nat), x, h1, h2, h3, rfl, h4 xs h⟩
/-! ### xs[i] += e -/
def rGetN (K : PySem.W.Frag) : V → V → Hp → VK → Prop := fun x y H Q => ∃ (p : Addr) (xs : List V) (i : Nat) (v : V), x = .ref p ∧ y = .int i ∧ SqL K H p xs ∧ xs[i]? = some v ∧ Q v H
theorem get_list {X : Cx} : PGet X (rGetN X.K) := by
  intro pins s σ H x y v u Q I rx ry h
  obtain ⟨p, xs, i, z, rfl, rfl, hq, he, q⟩ := h
  cases rx
  obtain ⟨t, rfl⟩ := ry
  obtain ⟨its, r, pl, hz⟩ := I.list hq
  obtain ⟨w, ew, rw'⟩ := r.get he
  have hl := r.length
  have hi : i < its.length := (List.getElem?_eq_some_iff.mp ew).1
  have hn := line63
  refine wpAny_getItem_list pl.isList (x := w) (by omega) ?_ ?_ ⟨z, H, I, rw', q⟩
  all_goals first | (simpa using ew) | (simp; omega) | omega
end Wc

set_option Elab.async false
set_option linter.all false
/-! Plain mathematics: places joined by open pipes; forests; how many groups there are. -/
namespace Wc
open PySem L2
/-! ### joined places -/
inductive Conn (E : Nat → Nat → Prop) (a : Nat) : Nat → Prop
  | refl : Conn E a a
  | step {x y : Nat} (h : Conn E a x) (e : E x y ∨ E y x) : Conn E a y
section
variable {E F : Nat → Nat → Prop} {a b c x y : Nat}
theorem Conn.trans (h : Conn E a b) (k : Conn E b c) : Conn E a c := by
  induction k with
  | refl => exact h
  | step _ e ih => exact ih.step e
theorem Conn.symm (h : Conn E a b) : Conn E b a := by
  induction h with
  | refl => exact .refl
  | step _ e ih => exact (Conn.refl.step e.symm).trans ih
theorem Conn.mono (f : ∀ x y, E x y → F x y) (h : Conn E a b) : Conn F a b := by
  induction h with
  | refl => exact .refl
  | step _ e ih => exact ih.step (e.imp (f _ _) (f _ _))
theorem Conn.le {n : Nat} (hE : ∀ x y, E x y → x < n ∧ y < n) (ha : a < n) (h : Conn E a b) : b < n := by
  cases h with
  | refl => exact ha
  | step _ e => exact e.elim (fun q => (hE _ _ q).2) (fun q => (hE _ _ q).1)
/-- what is closed holds all that is joined -/
theorem Conn.closed {S : Nat → Prop} (ha : S a) (hS : ∀ x y, S x → (E x y ∨ E y x) → S y) (h : Conn E a b) : S b := by
  induction h with
  | refl => exact ha
  | step _ e ih => exact hS _ _ ih e
/-- one more edge -/
theorem Conn.add {p q : Nat} (h : Conn (fun x y => E x y ∨ (x = p ∧ y = q)) a b) : Conn E a b ∨ (Conn E a p ∧ Conn E q b) ∨ (Conn E a q ∧ Conn E p b) := by
  induction h with
  | refl => exact .inl .refl
  | @step x y _ e ih =>
    have e' : (E x y ∨ E y x) ∨ (x = p ∧ y = q) ∨ (y = p ∧ x = q) := by
      rcases e with (e | e) | (e | e)
      · exact .inl (.inl e)
      · exact .inr (.inl e)
      · exact .inl (.inr e)
      · exact .inr (.inr e)
    rcases e' with e | ⟨rfl, rfl⟩ | ⟨rfl, rfl⟩
    · rcases ih with k | ⟨k, l⟩ | ⟨k, l⟩
      · exact .inl (k.step e)
      · exact .inr (.inl ⟨k, l.step e⟩)
      · exact .inr (.inr ⟨k, l.step e⟩)
    · rcases ih with k | ⟨k, l⟩ | ⟨k, l⟩
      · exact .inr (.inl ⟨k, .refl⟩)
      · exact .inr (.inl ⟨k, .refl⟩)
      · exact .inl k
    · rcases ih with k | ⟨k, l⟩ | ⟨k, l⟩
      · exact .inr (.inr ⟨k, .refl⟩)
      · exact .inl k
      · exact .inr (.inr ⟨k, .refl⟩)
end
/-! ### the open pipes of a network -/
/-- an open pipe, other than the skipped one, leads from x to y -/
def OEdge (ts : List Tube) (skip : Option Nat) (x y : Nat) : Prop := ∃ k p, ts[k]? = some p ∧ p.wide = true ∧ skip ≠ some k ∧ p.s = x ∧ p.t = y
/-- no open pipe lies on a ring -/
def Forest (ts : List Tube) : Prop := ∀ k p, ts[k]? = some p → p.wide = true → ¬ Conn (OEdge ts (some k)) p.s p.t
structure TubeOk (base : Int) (many : Nat) (p : Tube) : Prop where
  s : p.s < many
  t : p.t < many
  st : p.s ≠ p.t
  lo : 0 ≤ p.lo
  lh : p.lo ≤ p.hi
  hi : p.hi ≤ 1010000000
  me : ∀ i, p.me = some i → 0 ≤ i ∧ i < base
structure NetOk (N : Net) : Prop where
  b2 : 2 ≤ N.base
  b6 : N.base ≤ 1000000
  m1 : 1 ≤ N.many
  m24 : N.many ≤ 24
  len : N.tubes.length ≤ 60
  ok : ∀ p ∈ N.tubes, TubeOk N.base N.many p
  forest : Forest N.tubes
theorem OEdge.lt {ts : List Tube} {skip : Option Nat} {n : Nat} (h : ∀ p ∈ ts, p.s < n ∧ p.t < n) : ∀ x y, OEdge ts skip x y → x < n ∧ y < n := by
  rintro x y ⟨k, p, hk, _, _, rfl, rfl⟩
  exact h p (List.mem_of_getElem? hk)
theorem OEdge.all {ts : List Tube} {skip : Option Nat} {x y : Nat} (h : OEdge ts skip x y) : OEdge ts none x y := by
  obtain ⟨k, p, h1, h2, _, h3⟩ := h
  exact ⟨k, p, h1, h2, (nofun), h3⟩
/-! ### counting groups -/
open Classical in
/-- the places below n that E joins to x, in ascending order -/
noncomputable def comp (E : Nat → Nat → Prop) (n x : Nat) : List Nat := (List.range n).filter fun y => decide (Conn E x y)
open Classical in
/-- the first places of the groups -/
noncomputable def firsts (E : Nat → Nat → Prop) (n : Nat) : List Nat := (List.range n).filter fun x => decide (∀ y, y < x → ¬ Conn E x y)
theorem mem_comp {E : Nat → Nat → Prop} {n x y : Nat} : y ∈ comp E n x ↔ y < n ∧ Conn E x y := by
  unfold comp
  simp only [List.mem_filter, List.mem_range, decide_eq_true_eq]
theorem mem_firsts {E : Nat → Nat → Prop} {n x : Nat} : x ∈ firsts E n ↔ x < n ∧ ∀ y, y < x → ¬ Conn E x y := by
  unfold firsts
  simp only [List.mem_filter, List.mem_range, decide_eq_true_eq]
theorem comp_sorted (E : Nat → Nat → Prop) (n x : Nat) : (comp E n x).Pairwise (· < ·) := List.Pairwise.filter _ List.pairwise_lt_range
theorem firsts_sorted (E : Nat → Nat → Prop) (n : Nat) : (firsts E n).Pairwise (· < ·) := List.Pairwise.filter _ List.pairwise_lt_range
/-- strictly ascending lists with the same members are equal -/
theorem sorted_ext : ∀ {l m : List Nat}, l.Pairwise (· < ·) → m.Pairwise (· < ·) → (∀ x, x ∈ l ↔ x ∈ m) → l = m
  | [], [], _, _, _ => rfl
  | [], b :: m, _, _, h => absurd ((h b).mpr List.mem_cons_self) List.not_mem_nil
  | a :: l, [], _, _, h => absurd ((h a).mp List.mem_cons_self) List.not_mem_nil
  | a :: l, b :: m, hl, hm, h => by
    have hl' := List.pairwise_cons.mp hl
    have hm' := List.pairwise_cons.mp hm
    have e : a = b := by
      rcases List.mem_cons.mp ((h a).mp List.mem_cons_self) with q | q
      · exact q
      · rcases List.mem_cons.mp ((h b).mpr List.mem_cons_self) with r | r
        · exact r.symm
        · have := hm'.1 a q
          have := hl'.1 b r
          omega
    subst e
    have ih := sorted_ext hl'.2 hm'.2 fun x => by
      constructor
      · intro q
        rcases List.mem_cons.mp ((h x).mp (List.mem_cons_of_mem _ q)) with r | r
        · have := hl'.1 x q
          omega
        · exact r
      · intro q
        rcases List.mem_cons.mp ((h x).mpr (List.mem_cons_of_mem _ q)) with r | r
        · have := hm'.1 x q
          omega
        · exact r
    rw [ih]
/-- the least place that is joined to x -/
theorem exists_first {E : Nat → Nat → Prop} : ∀ (x : Nat), ∃ f, f ≤ x ∧ Conn E x f ∧ ∀ y, y < f → ¬ Conn E f y := by
  intro x
  induction x using Nat.strongRecOn with
  | ind x ih =>
    by_cases h : ∃ y, y < x ∧ Conn E x y
    · obtain ⟨y, hy, hc⟩ := h
      obtain ⟨f, h1, h2, h3⟩ := ih y hy
      exact ⟨f, by omega, hc.trans h2, h3⟩
    · exact ⟨x, Nat.le_refl _, .refl, fun y hy hc => h ⟨y, hy, hc⟩⟩
theorem firsts_none (n : Nat) (E : Nat → Nat → Prop) (hE : ∀ x y, ¬ E x y) : firsts E n = List.range n := by
  refine sorted_ext (firsts_sorted E n) List.pairwise_lt_range fun x => ?_
  rw [mem_firsts, List.mem_range]
  refine ⟨fun h => h.1, fun h => ⟨h, fun y hy hc => ?_⟩⟩
  have : x = y := hc.closed (S := fun z => x = z) rfl fun _ _ _ e => (e.elim (hE _ _) (hE _ _)).elim
  omega
/-- removing one member from a strictly ascending list -/
theorem length_erase_one {l m : List Nat} (hl : l.Pairwise (· < ·)) (hm : m.Pairwise (· < ·)) {a : Nat} (ha : a ∈ l) (h : ∀ x, x ∈ m ↔ x ∈ l ∧ x ≠ a) : m.length + 1 = l.length := by
  have e : m = l.filter (fun x => decide (x ≠ a)) := by
    refine sorted_ext hm (List.Pairwise.filter _ hl) fun x => ?_
    rw [h, List.mem_filter, decide_eq_true_iff]
  subst e
  clear h hm
  induction l with
  | nil => exact absurd ha List.not_mem_nil
  | cons b l ih =>
    have hl' := List.pairwise_cons.mp hl
    by_cases hb : b = a
    · subst hb
      have e2 : l.filter (fun x => decide (x ≠ b)) = l := List.filter_eq_self.mpr fun x hx => decide_eq_true (by have := hl'.1 x hx; omega)
      rw [List.filter_cons, if_neg (by simp), e2, List.length_cons]
    · have hm : a ∈ l := by
        rcases List.mem_cons.mp ha with q | q
        · exact absurd q.symm hb
        · exact q
      rw [List.filter_cons, if_pos (decide_eq_true hb), List.length_cons, List.length_cons, ih hl'.2 hm]
theorem firsts_add {n : Nat} {E : Nat → Nat → Prop} {p q : Nat} (hp : p < n) (hq : q < n) (h : ¬ Conn E p q) :
    (firsts (fun x y => E x y ∨ (x = p ∧ y = q)) n).length + 1 = (firsts E n).length := by
  obtain ⟨f, f1, f2, f3⟩ := exists_first (E := E) p
  obtain ⟨g, g1, g2, g3⟩ := exists_first (E := E) q
  have hfg : f ≠ g := by
    rintro rfl
    exact h (f2.trans g2.symm)
  have mono : ∀ {x y : Nat}, Conn E x y → Conn (fun x y => E x y ∨ (x = p ∧ y = q)) x y := fun k => k.mono fun _ _ e => .inl e
  have hpq : Conn (fun x y => E x y ∨ (x = p ∧ y = q)) p q := Conn.refl.step (.inl (.inr ⟨rfl, rfl⟩))
  have hj : Conn (fun x y => E x y ∨ (x = p ∧ y = q)) f g := (mono f2.symm).trans (hpq.trans (mono g2))
  -- the greater one of f and g is no first place any more
  have key : ∀ (u v : Nat), (u = f ∧ v = g ∨ u = g ∧ v = f) → u < v → (firsts (fun x y => E x y ∨ (x = p ∧ y = q)) n).length + 1 = (firsts E n).length := by
    intro u v huv hlt
    have hv : v < n ∧ (∀ y, y < v → ¬ Conn E v y) := by
      rcases huv with ⟨_, rfl⟩ | ⟨_, rfl⟩
      · exact ⟨by omega, g3⟩
      · exact ⟨by omega, f3⟩
    have hcv : Conn (fun x y => E x y ∨ (x = p ∧ y = q)) v u := by
      rcases huv with ⟨rfl, rfl⟩ | ⟨rfl, rfl⟩
      · exact hj.symm
      · exact hj
    refine length_erase_one (firsts_sorted _ _) (firsts_sorted _ _) (a := v) (mem_firsts.mpr hv) fun x => ?_
    rw [mem_firsts, mem_firsts]
    constructor
    · rintro ⟨h1, h2⟩
      refine ⟨⟨h1, fun y hy hc => h2 y hy (mono hc)⟩, ?_⟩
      rintro rfl
      exact h2 u hlt hcv
    · rintro ⟨⟨h1, h2⟩, h3⟩
      refine ⟨h1, fun y hy hc => ?_⟩
      rcases hc.add with k | ⟨k, l⟩ | ⟨k, l⟩
      · exact h2 y hy k
      · -- x is joined to p, y to q: x = f
        have e1 : Conn E x f := k.trans f2
        have e2 : Conn E y g := l.symm.trans g2
        have ex : x ≤ f := by
          by_cases z : f < x
          · exact absurd e1 (h2 f z)
          · omega
        have ef : f ≤ x := by
          by_cases z : x < f
          · exact absurd e1.symm (f3 x z)
          · omega
        have ey : g ≤ y := by
          by_cases z : y < g
          · exact absurd e2.symm (g3 y z)
          · omega
        rcases huv with ⟨rfl, rfl⟩ | ⟨rfl, rfl⟩
        · omega
        · omega
      · have e1 : Conn E x g := k.trans g2
        have e2 : Conn E y f := l.symm.trans f2
        have ex : x ≤ g := by
          by_cases z : g < x
          · exact absurd e1 (h2 g z)
          · omega
        have ef : g ≤ x := by
          by_cases z : x < g
          · exact absurd e1.symm (g3 x z)
          · omega
        have ey : f ≤ y := by
          by_cases z : y < f
          · exact absurd e2.symm (f3 y z)
          · omega
        rcases huv with ⟨rfl, rfl⟩ | ⟨rfl, rfl⟩
        · omega
        · omega
  rcases Nat.lt_or_gt_of_ne hfg with z | z
  · exact key f g (.inl ⟨rfl, rfl⟩) z
  · exact key g f (.inr ⟨rfl, rfl⟩) z
theorem conn_congr {E F : Nat → Nat → Prop} (h : ∀ x y, E x y ↔ F x y) : E = F := by
  funext x y
  exact propext (h x y)
/-- a forest has as many groups as places minus open pipes -/
theorem forest_count {ts : List Tube} {n : Nat} (hn : ∀ p ∈ ts, p.s < n ∧ p.t < n) (hF : Forest ts) : (firsts (OEdge ts none) n).length + (ts.filter Tube.wide).length = n := by
  have key : ∀ i, i ≤ ts.length → (firsts (OEdge (ts.take i) none) n).length + ((ts.take i).filter Tube.wide).length = n := by
    intro i
    induction i with
    | zero =>
      intro _
      rw [List.take_zero, List.filter_nil, List.length_nil, firsts_none n _ (fun x y ⟨k, p, e, _⟩ => by simp at e), List.length_range]
      omega
    | succ i ih =>
      intro hi
      have hlt : i < ts.length := by omega
      have ih := ih (by omega)
      have et : ts.take (i + 1) = ts.take i ++ [ts[i]] := List.take_succ_eq_append_getElem hlt
      have hg : ts[i]? = some ts[i] := List.getElem?_eq_getElem hlt
      have bound := hn ts[i] (List.getElem_mem hlt)
      rw [et, List.filter_append, List.length_append]
      by_cases hw : ts[i].wide = true
      · have eE : OEdge (ts.take i ++ [ts[i]]) none = fun x y => OEdge (ts.take i) none x y ∨ (x = ts[i].s ∧ y = ts[i].t) := by
          refine conn_congr fun x y => ?_
          constructor
          · rintro ⟨k, p, h1, h2, h3, rfl, rfl⟩
            by_cases hk : k < i
            · rw [List.getElem?_append_left (by rw [List.length_take]; omega)] at h1
              exact .inl ⟨k, p, h1, h2, h3, rfl, rfl⟩
            · rw [List.getElem?_append_right (by rw [List.length_take]; omega)] at h1
              have : k - (ts.take i).length = 0 := by
                have := (List.getElem?_eq_some_iff.mp h1).1
                rw [List.length_singleton] at this
                omega
              rw [this] at h1
              have e : ts[i] = p := Option.some.inj h1
              subst e
              exact .inr ⟨rfl, rfl⟩
          · rintro (⟨k, p, h1, h2, h3, h4⟩ | ⟨rfl, rfl⟩)
            · have := (List.getElem?_eq_some_iff.mp h1).1
              exact ⟨k, p, by rw [List.getElem?_append_left this]; exact h1, h2, h3, h4⟩
            · exact ⟨i, ts[i], by rw [List.getElem?_append_right (by rw [List.length_take]; omega), List.length_take, Nat.min_eq_left (by omega), Nat.sub_self]; rfl, hw, (nofun), rfl, rfl⟩
        have hnc : ¬ Conn (OEdge (ts.take i) none) ts[i].s ts[i].t := fun hc => by
          refine hF i ts[i] hg hw (hc.mono fun x y ⟨k, p, h1, h2, _, h4⟩ => ?_)
          have hk := (List.getElem?_eq_some_iff.mp h1).1
          rw [List.length_take] at hk
          rw [List.getElem?_take_of_lt (by omega)] at h1
          exact ⟨k, p, h1, h2, fun z => by have := Option.some.inj z; omega, h4⟩
        have := firsts_add (E := OEdge (ts.take i) none) bound.1 bound.2 hnc
        rw [eE, List.filter_cons, if_pos hw, List.filter_nil, List.length_singleton]
        omega
      · have eE : OEdge (ts.take i ++ [ts[i]]) none = OEdge (ts.take i) none := by
          refine conn_congr fun x y => ?_
          constructor
          · rintro ⟨k, p, h1, h2, h3, h4⟩
            by_cases hk : k < i
            · rw [List.getElem?_append_left (by rw [List.length_take]; omega)] at h1
              exact ⟨k, p, h1, h2, h3, h4⟩
            · rw [List.getElem?_append_right (by rw [List.length_take]; omega)] at h1
              have : k - (ts.take i).length = 0 := by
                have := (List.getElem?_eq_some_iff.mp h1).1
                rw [List.length_singleton] at this
                omega
              rw [this] at h1
              have e : ts[i] = p := Option.some.inj h1
              subst e
              exact absurd h2 hw
          · rintro ⟨k, p, h1, h2, h3, h4⟩
            have := (List.getElem?_eq_some_iff.mp h1).1
            exact ⟨k, p, by rw [List.getElem?_append_left this]; exact h1, h2, h3, h4⟩
        rw [eE, List.filter_cons, if_neg hw, List.filter_nil, List.length_nil]
        omega
  have := key ts.length (Nat.le_refl _)
  rw [List.take_length] at this
  exact this
end Wc

set_option Elab.async false
set_option linter.all false
/-! Lists of neighbours in the heap; dicts whose keys are places. -/
namespace Wc
open PySem PySem.Spec PyProof.Rows L2
def natV (x : Nat) : V := .int (x : Int)
def NearR (H0 H : Hp) (a : Addr) (n L : Nat) (R : Nat → Nat → Nat → Prop) : Prop :=
  ∃ rs : List Addr, H a = some (.lst (rs.map V.ref)) ∧ rs.length = n ∧ rs.Nodup ∧ (∀ r ∈ rs, H0 r = none ∧ r ≠ a) ∧
    ∀ v r, rs[v]? = some r → ∃ items : List V, H r = some (.lst items) ∧ items.length ≤ L ∧
      (∀ x ∈ items, ∃ (T : Addr) (k o : Nat), x = .ref T ∧ H T = some (.tup [natV k, natV o]) ∧ R v k o) ∧
      ∀ k o : Nat, R v k o → ∃ T : Addr, V.ref T ∈ items ∧ H T = some (.tup [natV k, natV o])
theorem NearR.same {H0 H H' : Hp} {a : Addr} {n L : Nat} {R : Nat → Nat → Nat → Prop} (s : Same H H') (h : NearR H0 H a n L R) : NearR H0 H' a n L R := by
  obtain ⟨rs, h1, h2, h3, h4, h5⟩ := h
  refine ⟨rs, s _ _ h1, h2, h3, h4, fun v r e => ?_⟩
  obtain ⟨items, i1, i2, i3, i4⟩ := h5 v r e
  refine ⟨items, s _ _ i1, i2, fun x hx => ?_, fun k o hr => ?_⟩
  · obtain ⟨T, k, o, e1, e2, e3⟩ := i3 x hx
    exact ⟨T, k, o, e1, s _ _ e2, e3⟩
  · obtain ⟨T, e1, e2⟩ := i4 k o hr
    exact ⟨T, e1, s _ _ e2⟩
theorem NearR.imp {H0 H : Hp} {a : Addr} {n L L' : Nat} {R R' : Nat → Nat → Nat → Prop} (hL : L ≤ L') (hR : ∀ v k o, v < n → (R v k o ↔ R' v k o)) (h : NearR H0 H a n L R) : NearR H0 H a n L' R' := by
  obtain ⟨rs, h1, h2, h3, h4, h5⟩ := h
  refine ⟨rs, h1, h2, h3, h4, fun v r e => ?_⟩
  have hv : v < n := h2 ▸ (List.getElem?_eq_some_iff.mp e).1
  obtain ⟨items, i1, i2, i3, i4⟩ := h5 v r e
  refine ⟨items, i1, by omega, fun x hx => ?_, fun k o hr => i4 k o ((hR v k o hv).mpr hr)⟩
  obtain ⟨T, k, o, e1, e2, e3⟩ := i3 x hx
  exact ⟨T, k, o, e1, e2, (hR v k o hv).mp e3⟩
/-- one more neighbour in the list of a place -/
theorem NearR.add {H0 H : Hp} {a : Addr} {n L : Nat} {R : Nat → Nat → Nat → Prop} (h : NearR H0 H a n L R) {v0 : Nat} (hv : v0 < n) :
    ∃ (xs : List V) (r : Addr) (items : List V), H a = some (.lst xs) ∧ xs[v0]? = some (.ref r) ∧ H r = some (.lst items) ∧ items.length ≤ L ∧ H0 r = none ∧
      ∀ (T : Addr) (k0 o0 : Nat), H T = none → (upd H T (.tup [natV k0, natV o0])) r = some (.lst items) ∧
        NearR H0 (upd (upd H T (.tup [natV k0, natV o0])) r (.lst (items ++ [.ref T]))) a n (L + 1) (fun v k o => R v k o ∨ (v = v0 ∧ k = k0 ∧ o = o0)) := by
  obtain ⟨rs, h1, h2, h3, h4, h5⟩ := h
  have hv' : v0 < rs.length := by omega
  have hg : rs[v0]? = some rs[v0] := List.getElem?_eq_getElem hv'
  obtain ⟨items, i1, i2, i3, i4⟩ := h5 v0 rs[v0] hg
  have f := h4 rs[v0] (List.getElem_mem hv')
  refine ⟨rs.map V.ref, rs[v0], items, h1, by rw [List.getElem?_map, hg]; rfl, i1, i2, f.1, fun T k0 o0 hT => ?_⟩
  have nT : ∀ {b : Addr} {o : HO}, H b = some o → b ≠ T := fun e z => by rw [z, hT] at e; cases e
  have keepT : ∀ {b : Addr} {xs : List V}, H b = some (.tup xs) → (upd (upd H T (.tup [natV k0, natV o0])) rs[v0] (.lst (items ++ [.ref T]))) b = some (.tup xs) := fun {b xs} e => by
    have nb : b ≠ rs[v0] := fun z => by rw [z, i1] at e; cases e
    rw [upd_ne nb, upd_ne (nT e)]
    exact e
  have newT : (upd (upd H T (.tup [natV k0, natV o0])) rs[v0] (.lst (items ++ [.ref T]))) T = some (.tup [natV k0, natV o0]) := by
    rw [upd_ne (nT i1).symm, upd_same]
  refine ⟨by rw [upd_ne (nT i1)]; exact i1, rs, ?_, h2, h3, h4, fun v r e => ?_⟩
  · rw [upd_ne f.2.symm, upd_ne (nT h1)]
    exact h1
  · by_cases hvv : v = v0
    · subst hvv
      have er : rs[v] = r := Option.some.inj (hg.symm.trans e)
      subst er
      refine ⟨items ++ [.ref T], upd_same, by rw [List.length_append, List.length_singleton]; omega, fun x hx => ?_, fun k o hr => ?_⟩
      · rcases List.mem_append.mp hx with q | q
        · obtain ⟨T', k, o, e1, e2, e3⟩ := i3 x q
          exact ⟨T', k, o, e1, keepT e2, .inl e3⟩
        · have ex : x = .ref T := by simpa using q
          exact ⟨T, k0, o0, ex, newT, .inr ⟨rfl, rfl, rfl⟩⟩
      · rcases hr with hr | ⟨_, rfl, rfl⟩
        · obtain ⟨T', e1, e2⟩ := i4 k o hr
          exact ⟨T', List.mem_append_left _ e1, keepT e2⟩
        · exact ⟨T, List.mem_append_right _ (by simp), newT⟩
    · obtain ⟨items', j1, j2, j3, j4⟩ := h5 v r e
      have nr : r ≠ rs[v0] := fun z => hvv ((List.getElem?_inj hv' h3).mp (by rw [e, hg, z])).symm
      refine ⟨items', by rw [upd_ne nr, upd_ne (nT j1)]; exact j1, by omega, fun x hx => ?_, fun k o hr => ?_⟩
      · obtain ⟨T', k, o, e1, e2, e3⟩ := j3 x hx
        exact ⟨T', k, o, e1, keepT e2, .inl e3⟩
      · rcases hr with hr | ⟨q, _⟩
        · obtain ⟨T', e1, e2⟩ := j4 k o hr
          exact ⟨T', e1, keepT e2⟩
        · exact absurd q hvv
/-! ### dicts of places -/
def kvJ (J : List Nat) : List (Key × V) := J.map fun (x : Nat) => ((Sum.inl ((x : Nat) : Int) : Key), V.bl true)
theorem valV_kvJ (J : List Nat) (y : Nat) : valV (kvJ J) (.inl (y : Int)) = if y ∈ J then some (.bl true) else none := by
  induction J with
  | nil => rfl
  | cons x J ih =>
    by_cases e : x = y
    · subst e
      rw [if_pos List.mem_cons_self]
      exact valV_pos (p := ((Sum.inl (x : Int) : Key), V.bl true)) rfl
    · have hne : ¬ (Sum.inl (x : Int) : Key) = Sum.inl (y : Int) := fun z => e (by have := Sum.inl.inj z; omega)
      show valV (((Sum.inl (x : Int) : Key), V.bl true) :: kvJ J) (.inl (y : Int)) = _
      rw [valV_neg (p := ((Sum.inl (x : Int) : Key), V.bl true)) hne, ih]
      by_cases m : y ∈ J
      · rw [if_pos m, if_pos (List.mem_cons_of_mem _ m)]
      · rw [if_neg m, if_neg (by simp [m]; omega)]
theorem put_kvJ {J : List Nat} {y : Nat} (h : y ∉ J) : putK (kvJ J) (.inl (y : Int)) (.bl true) = kvJ (J ++ [y]) := by
  rw [putK_new _ (by rw [valV_kvJ, if_neg h])]
  unfold kvJ
  rw [List.map_append]
  rfl
end Wc
namespace Wc
open PySem PySem.Spec PyProof.Rows L2
/-- while_by, its conclusion written out -/
theorem while_ex {c : TT} {tb : TS} {D : Ends} {σ : L2.St} {H : Hp} (Pv : L2.St → Hp → Prop) (μ : L2.St → Hp → Nat) (h0 : Pv σ H)
    (hs : ∀ σ H, Pv σ H → c σ H fun b H1 => if b = true then tb { D with nx := fun σ' H' => Pv σ' H' ∧ μ σ' H' < μ σ H, ct := fun σ' H' => Pv σ' H' ∧ μ σ' H' < μ σ H, bk := D.nx } σ H1 else D.nx σ H1)
    (mono : ∀ σ H Q Q', (∀ b H1, Q b H1 → Q' b H1) → c σ H Q → c σ H Q') :
    ∃ W : Nat → L2.St → Hp → Prop, (∃ m, W m σ H) ∧ ∀ m σ H, W m σ H → c σ H fun b H1 => if b = true then ∃ N : L2.St → Hp → Prop, (∀ σ' H', N σ' H' → ∃ m', m' < m ∧ W m' σ' H') ∧ tb { D with nx := N, ct := N, bk := D.nx } σ H1 else D.nx σ H1 :=
  while_by Pv μ h0 hs mono
end Wc
namespace Wc
open PySem PySem.Spec PyProof.Rows L2
def tTru (K : PySem.W.Frag) (ta : TE) : TT := fun σ H R => ta σ H fun x H1 => ∃ b, TruV K x H1 b ∧ R b H1
theorem pt_tru {X : Cx} {a : Expr} {ta : TE} (h : PE X a ta) (he : ∀ whole, isTrue a X.env whole = (do let v ← whole; standAt a.pos; holding [v] (truthy v)) := by intro _; rfl) : PT X a (tTru X.K ta) := pt_truth h he
end Wc
namespace Wc
open PySem PySem.Spec PyProof.Rows L2
/-! ### the rules that name the written part, for a comprehension's block: its written part is the def's -/
section
variable {X : Cx} (K : PySem.W.Frag)
theorem sl_listK (h : X.K = K := by rfl) : SlR X (rSlL K) := h ▸ sl_list
theorem sl_tupAK (h : X.K = K := by rfl) : SlR X (rSlA K) := h ▸ sl_tupA
theorem ix_listK (h : X.K = K := by rfl) : IxR X (rIxL K) := h ▸ ix_list
theorem ix_tupK (h : X.K = K := by rfl) : IxR X (rIxT K) := h ▸ ix_tup
theorem op_inK (h : X.K = K := by rfl) : OpR X (compareOp .In) (rIn K false) := h ▸ op_in_seq
theorem op_notInK (h : X.K = K := by rfl) : OpR X (compareOp .NotIn) (rIn K true) := h ▸ op_notIn_seq
theorem op_eqDK (hu : X.A.units + 64 < cLine) (h : X.K = K := by rfl) : OpR X (compareOp .Eq) (rEqD K) := h ▸ op_eqD hu
theorem op_neDK (hu : X.A.units + 64 < cLine) (h : X.K = K := by rfl) : OpR X (compareOp .NotEq) (rNeD K) := h ▸ op_neD hu
theorem op_catAK (h : X.K = K := by rfl) : OpR X (binaryOp .Add) (rCatA K) := h ▸ op_catA
def rLenS : List V → Hp → VK → Prop := fun xs H Q => ∃ p ys, xs = [.ref p] ∧ (SqL K H p ys ∨ SqT K H p ys) ∧ Q (.int ys.length) H
theorem len_seqK (h : X.K = K := by rfl) : CallR X (.builtin "len") (rLenS K) := h ▸ call_len_seq
def rTupOf : List V → Hp → VK → Prop := fun xs H Q => ∃ p ys, xs = [.ref p] ∧ ((SqL K H p ys ∧ ∀ l, H l = none → Q (.ref l) (upd H l (.tup ys))) ∨ (SqT K H p ys ∧ Q (.ref p) H))
theorem tuple_ofK (h : X.K = K := by rfl) : CallR X (.type "tuple") (rTupOf K) := h ▸ call_tuple_of
theorem sumK (hc : X.calm = true) (h : X.K = K := by rfl) : CallR X (.builtin "sum") (rSum K) := h ▸ cr_sum hc
theorem pg_tupK {es : List Expr} {k : Nat} {pos : Pos} {t : TGs} (n : Nat) (hc : X.calm = true) (hg : PGs X es t) (h : X.K = K := by rfl)
    (hn : (assignEach es X.env).length = n := by rfl) (nostar : (assignEach es X.env).findIdx? (·.1) = none := by rfl) : PG X (.Tuple es k pos) (gTup K n t) := h ▸ pg_tup hc hg hn nostar
end
end Wc

set_option Elab.async false
set_option linter.all false
/-! Data as a whole (for == and repr), the state from which numbers are drawn. -/
namespace Wc
open PySem PySem.Spec PyProof.Rows L2
theorem dpAll_map {α : Type} {K : PySem.W.Frag} {H : Hp} {f : α → V} {g : α → PyData} : ∀ (l : List α), (∀ x ∈ l, Dp K H (f x) (g x)) → DpAll K H (l.map f) (l.map g)
  | [], _ => .nil
  | x :: l, h => .cons (h x List.mem_cons_self) (dpAll_map l fun y hy => h y (List.mem_cons_of_mem _ hy))
theorem canLayAll_of : ∀ {ds : List PyData}, (∀ d ∈ ds, d.canLay0 = true) → PyData.canLayAll0 ds = true
  | [], _ => by simp only [PyData.canLayAll0]
  | d :: ds, h => by
    simp only [PyData.canLayAll0, Bool.and_eq_true]
    exact ⟨h d List.mem_cons_self, canLayAll_of fun e he => h e (List.mem_cons_of_mem _ he)⟩
theorem depthAll_le {n : Nat} : ∀ {ds : List PyData}, (∀ d ∈ ds, d.depth ≤ n) → PyData.depthAll ds ≤ n
  | [], _ => by simp only [PyData.depthAll]; exact Nat.zero_le _
  | d :: ds, h => by
    simp only [PyData.depthAll]
    exact Nat.max_le.mpr ⟨h d List.mem_cons_self, depthAll_le fun e he => h e (List.mem_cons_of_mem _ he)⟩
/-- data without dicts and texts, of nesting up to n -/
def Plain (n : Nat) (d : PyData) : Prop := d.canLay0 = true ∧ d.depth ≤ n ∧ d.showable = true
theorem plain_none (n : Nat) : Plain n .none := ⟨by simp only [PyData.canLay0], by simp only [PyData.depth]; exact Nat.zero_le _, by simp only [PyData.showable]⟩
theorem plain_bool (n : Nat) (b : Bool) : Plain n (.bool b) := ⟨by simp only [PyData.canLay0], by simp only [PyData.depth]; exact Nat.zero_le _, by simp only [PyData.showable]⟩
theorem plain_int {i : Int} (n : Nat) (h : i.natAbs.log2 < 1920) : Plain n (.int i) := ⟨by simp only [PyData.canLay0], by simp only [PyData.depth]; exact Nat.zero_le _, by simp only [PyData.showable]; exact decide_eq_true h⟩
theorem showAll_of : ∀ {ds : List PyData}, (∀ d ∈ ds, d.showable = true) → PyData.showableAll ds = true
  | [], _ => by simp only [PyData.showableAll]
  | d :: ds, h => by
    simp only [PyData.showableAll, Bool.and_eq_true]
    exact ⟨h d List.mem_cons_self, showAll_of fun e he => h e (List.mem_cons_of_mem _ he)⟩
theorem plain_list {n : Nat} {ds : List PyData} (h : ∀ d ∈ ds, Plain n d) : Plain (n + 1) (.list ds) :=
  ⟨by simp only [PyData.canLay0]; exact canLayAll_of fun d hd => (h d hd).1, by simp only [PyData.depth]; have := depthAll_le fun d hd => (h d hd).2.1; omega, by simp only [PyData.showable]; exact showAll_of fun d hd => (h d hd).2.2⟩
theorem plain_tuple {n : Nat} {ds : List PyData} (h : ∀ d ∈ ds, Plain n d) : Plain (n + 1) (.tuple ds) :=
  ⟨by simp only [PyData.canLay0]; exact canLayAll_of fun d hd => (h d hd).1, by simp only [PyData.depth]; have := depthAll_le fun d hd => (h d hd).2.1; omega, by simp only [PyData.showable]; exact showAll_of fun d hd => (h d hd).2.2⟩
theorem Plain.shaped {n : Nat} {d : PyData} (h : Plain n d) (hn : n ≤ 64 := by decide) : SeqAt.shaped d = true := by
  unfold SeqAt.shaped
  rw [h.1, decide_eq_true (Nat.le_trans h.2.1 hn)]
  rfl
theorem eqv_nil (ds : List PyData) : PyData.eqv (.list ds) (.list []) = ds.isEmpty := by
  cases ds with
  | nil => simp only [PyData.eqv, PyData.eqvAll, List.isEmpty]
  | cons d ds => simp only [PyData.eqv, PyData.eqvAll, List.isEmpty]
theorem eqvT_nil (ds : List PyData) : PyData.eqv (.tuple ds) (.tuple []) = ds.isEmpty := by
  cases ds with
  | nil => simp only [PyData.eqv, PyData.eqvAll, List.isEmpty]
  | cons d ds => simp only [PyData.eqv, PyData.eqvAll, List.isEmpty]
theorem eqvAll_ints : ∀ (l m : List Int), PyData.eqvAll (l.map .int) (m.map .int) = decide (l = m)
  | [], [] => by simp [PyData.eqvAll]
  | [], _ :: _ => by simp [PyData.eqvAll]
  | _ :: _, [] => by simp [PyData.eqvAll]
  | a :: l, b :: m => by
    simp only [List.map_cons, PyData.eqvAll, PyData.eqv, eqvAll_ints l m, List.cons.injEq, Bool.decide_and]
    by_cases h : a = b <;> simp [h]
theorem natAbs_small {i : Int} (h : i.natAbs < 2 ^ 1900) : i.natAbs.log2 < 1920 := by
  by_cases z : i.natAbs = 0
  · rw [z]
    decide
  · exact Nat.lt_of_lt_of_le ((Nat.log2_lt z).mpr h) (by decide)
/-! ### the drawn numbers -/
def kM (c g : Addr) (n : Int) : List (Key × V) := [((Sum.inr "cells" : Key), V.ref c), (Sum.inr "great", V.ref g), (Sum.inr "spot", V.int n)]
theorem s_cg : ¬ (("cells" : Str) = "great") := by decide +kernel
theorem s_cs : ¬ (("cells" : Str) = "spot") := by decide +kernel
theorem s_gs : ¬ (("great" : Str) = "spot") := by decide +kernel
theorem k_ne {x y : Str} (h : ¬ x = y) : ¬ (Sum.inr x : Key) = Sum.inr y := fun z => h (Sum.inr.inj z)
theorem kM_cells (c g : Addr) (n : Int) : valV (kM c g n) (.inr "cells") = some (.ref c) := valV_pos (p := ((Sum.inr "cells" : Key), V.ref c)) rfl
theorem kM_great (c g : Addr) (n : Int) : valV (kM c g n) (.inr "great") = some (.ref g) := by
  unfold kM
  rw [valV_neg (p := ((Sum.inr "cells" : Key), V.ref c)) (k_ne s_cg)]
  exact valV_pos (p := ((Sum.inr "great" : Key), V.ref g)) rfl
theorem kM_spot (c g : Addr) (n : Int) : valV (kM c g n) (.inr "spot") = some (.int n) := by
  unfold kM
  rw [valV_neg (p := ((Sum.inr "cells" : Key), V.ref c)) (k_ne s_cs), valV_neg (p := ((Sum.inr "great" : Key), V.ref g)) (k_ne s_gs)]
  exact valV_pos (p := ((Sum.inr "spot" : Key), V.int n)) rfl
theorem kM_put_spot (c g : Addr) (n m : Int) : putK (kM c g n) (.inr "spot") (.int m) = kM c g m := by
  unfold putK
  rw [valV_any, kM_spot, if_pos (show (some (V.int n)).isSome = true from rfl)]
  unfold kM
  simp only [List.map_cons, List.map_nil]
  rw [if_neg (k_ne s_cs), if_neg (k_ne s_gs), if_pos trivial]
theorem kM_put_great (c g g' : Addr) (n : Int) : putK (kM c g n) (.inr "great") (.ref g') = kM c g' n := by
  unfold putK
  rw [valV_any, kM_great, if_pos (show (some (V.ref g)).isSome = true from rfl)]
  unfold kM
  simp only [List.map_cons, List.map_nil]
  rw [if_neg (k_ne s_cg), if_pos trivial, if_neg (k_ne fun z => s_gs z.symm)]
/-- the state at a stands (its lists at c and g), and has r numbers left to draw -/
structure MS (H : Hp) (a c g : Addr) (r : Nat) : Prop where
  ex : ∃ (n : Nat) (cells gs : List Int), H a = some (.dK (kM c g n)) ∧ H c = some (.lst (cells.map V.int)) ∧ H g = some (.lst (gs.map V.int)) ∧ cells.length = 64 ∧ (∀ x ∈ cells, 0 ≤ x ∧ x < 2147483647) ∧ gs.length ≤ 63 ∧ n + r ≤ 2 ^ 40
  cg : c ≠ g
/-- all but the state is kept -/
def Dr (a g : Addr) (H H' : Hp) : Prop := ∀ b o, b ≠ a → b ≠ g → H b = some o → H' b = some o
theorem Dr.refl (a g : Addr) (H : Hp) : Dr a g H H := fun _ _ _ _ e => e
theorem Dr.trans {a g : Addr} {H H1 H2 : Hp} (x : Dr a g H H1) (y : Dr a g H1 H2) : Dr a g H H2 := fun b o h1 h2 e => y b o h1 h2 (x b o h1 h2 e)
theorem MS.le {H : Hp} {a c g : Addr} {r r' : Nat} (h : MS H a c g r) (hr : r' ≤ r) : MS H a c g r' := by
  obtain ⟨⟨n, cells, gs, h1, h2, h3, h4, h5, h6, h7⟩, h8⟩ := h
  exact ⟨⟨n, cells, gs, h1, h2, h3, h4, h5, h6, by omega⟩, h8⟩
theorem MS.same {H H' : Hp} {a c g : Addr} {r : Nat} (s : Same H H') (h : MS H a c g r) : MS H' a c g r := by
  obtain ⟨⟨n, cells, gs, h1, h2, h3, h4⟩, h8⟩ := h
  exact ⟨⟨n, cells, gs, s _ _ h1, s _ _ h2, s _ _ h3, h4⟩, h8⟩
/-- what is no dict and no list of ints stands apart from the state -/
theorem MS.na {H : Hp} {a c g b : Addr} {r : Nat} {o : HO} (h : MS H a c g r) (e : H b = some o) (hd : ∀ n, o ≠ .dK (kM c g n)) : b ≠ a := by
  obtain ⟨⟨n, cells, gs, h1, _⟩, _⟩ := h
  rintro rfl
  rw [h1] at e
  exact hd n (Option.some.inj e).symm
theorem MS.ng {H : Hp} {a c g b : Addr} {r : Nat} {o : HO} (h : MS H a c g r) (e : H b = some o) (hd : ∀ xs, o ≠ .lst xs) : b ≠ g := by
  obtain ⟨⟨n, cells, gs, h1, h2, h3, _⟩, _⟩ := h
  rintro rfl
  rw [h3] at e
  exact hd _ (Option.some.inj e).symm
theorem MS.fa {H : Hp} {a c g b : Addr} {r : Nat} (h : MS H a c g r) (e : H b = none) : b ≠ a := by
  obtain ⟨⟨n, cells, gs, h1, _⟩, _⟩ := h
  rintro rfl
  rw [h1] at e
  cases e
theorem MS.fg {H : Hp} {a c g b : Addr} {r : Nat} (h : MS H a c g r) (e : H b = none) : b ≠ g := by
  obtain ⟨⟨n, cells, gs, h1, h2, h3, _⟩, _⟩ := h
  rintro rfl
  rw [h3] at e
  cases e
/-- a draw keeps the tuples -/
theorem Dr.keepT {H H' : Hp} {a c g : Addr} {r : Nat} (h : MS H a c g r) (d : Dr a g H H') : KeepT H H' := fun b xs e => by
  rcases e with e | ⟨o, e⟩
  · exact .inl (d b _ (h.na e fun n z => by cases z) (h.ng e fun xs z => by cases z) e)
  · exact .inr ⟨o, d b _ (h.na e fun n z => by cases z) (h.ng e fun xs z => by cases z) e⟩
/-- what was fresh stays apart, so it is kept by a draw behind it -/
theorem Dr.same {H H' : Hp} {a g : Addr} (s : Same H H') : Dr a g H H' := fun b o _ _ e => s b o e
/-- a new or changed object that was not there ahead -/
theorem Dr.upd_new {H H' : Hp} {a g p : Addr} {o : HO} (d : Dr a g H H') (e : H p = none) : Dr a g H (upd H' p o) := fun b x h1 h2 q => by
  rw [upd_ne (ne_of_none q e)]
  exact d b x h1 h2 q
theorem MS.upd_new {H : Hp} {a c g p : Addr} {o : HO} {r : Nat} (h : MS H a c g r) (h1 : p ≠ a) (h2 : p ≠ c) (h3 : p ≠ g) : MS (upd H p o) a c g r := by
  obtain ⟨⟨n, cells, gs, e1, e2, e3, e4⟩, h8⟩ := h
  exact ⟨⟨n, cells, gs, by rw [upd_ne h1.symm]; exact e1, by rw [upd_ne h2.symm]; exact e2, by rw [upd_ne h3.symm]; exact e3, e4⟩, h8⟩
end Wc

set_option Elab.async false
set_option linter.all false
/-! Drawn pipes: lists [source, target, count] in the heap, and their balance at each place. -/
namespace Wc
open PySem PySem.Spec PyProof.Rows L2
/-- source, target, count -/
abbrev Leg := Nat × Nat × Int
def legV (f : Leg) : List V := [natV f.1, natV f.2.1, .int f.2.2]
structure Fnd (H0 H : Hp) (fd : Addr) (rs : List Addr) (fs : List Leg) : Prop where
  fn : H0 fd = none
  at_ : H fd = some (.lst (rs.map V.ref))
  pr : Paired (fun r f => H r = some (.lst (legV f))) rs fs
  nd : rs.Nodup
  rn : ∀ r ∈ rs, H0 r = none
theorem paired_mem {α β : Type} {F : α → β → Prop} {l : List α} {m : List β} (h : Paired F l m) : ∀ x ∈ l, ∃ y ∈ m, F x y := by
  induction h with
  | nil => exact fun x hx => absurd hx List.not_mem_nil
  | cons r _ ih =>
    intro x hx
    rcases List.mem_cons.mp hx with rfl | hx
    · exact ⟨_, List.mem_cons_self, r⟩
    · obtain ⟨y, h1, h2⟩ := ih x hx
      exact ⟨y, List.mem_cons_of_mem _ h1, h2⟩
theorem Paired.mapMem {α β : Type} {F G : α → β → Prop} {l : List α} {m : List β} (h : Paired F l m) (k : ∀ a b, a ∈ l → F a b → G a b) : Paired G l m := by
  induction h with
  | nil => exact .nil
  | cons r _ ih => exact .cons (k _ _ List.mem_cons_self r) (ih fun a b ha hf => k a b (List.mem_cons_of_mem _ ha) hf)
theorem Fnd.keep {H0 H H' : Hp} {fd : Addr} {rs : List Addr} {fs : List Leg} (h : Fnd H0 H fd rs fs) (k : ∀ b o, H0 b = none → H b = some o → H' b = some o) : Fnd H0 H' fd rs fs :=
  ⟨h.fn, k _ _ h.fn h.at_, Paired.mapMem h.pr fun r f hr e => k _ _ (h.rn r hr) e, h.nd, h.rn⟩
theorem Fnd.len {H0 H : Hp} {fd : Addr} {rs : List Addr} {fs : List Leg} (h : Fnd H0 H fd rs fs) : rs.length = fs.length := Paired.length h.pr
theorem Fnd.same {H0 H H' : Hp} {fd : Addr} {rs : List Addr} {fs : List Leg} (h : Fnd H0 H fd rs fs) (s : Same H H') : Fnd H0 H' fd rs fs := h.keep fun b o _ e => s b o e
theorem Fnd.dr {H0 H H' : Hp} {a g fd : Addr} {rs : List Addr} {fs : List Leg} (h : Fnd H0 H fd rs fs) (ha : H0 a ≠ none) (hg : H0 g ≠ none) (d : Dr a g H H') : Fnd H0 H' fd rs fs :=
  h.keep fun b o hb e => d b o (fun z => ha (z ▸ hb)) (fun z => hg (z ▸ hb)) e
theorem Paired.setBoth {α β : Type} {F : α → β → Prop} {a : α} {b : β} : ∀ {l : List α} {m : List β} (j : Nat), Paired F l m → l[j]? = some a → F a b → Paired F l (m.set j b)
  | _, _, _, .nil, _, _ => .nil
  | _, _, 0, .cons _ t, e, r => by
    have e' := Option.some.inj e
    subst e'
    exact .cons r t
  | _, _, j + 1, .cons q t, e, r => .cons q (Paired.setBoth j t e r)
/-- the count of a leg is changed in place -/
theorem Fnd.put {H0 H : Hp} {fd : Addr} {rs : List Addr} {fs : List Leg} (h : Fnd H0 H fd rs fs) {j : Nat} {r : Addr} {f : Leg} (hr : rs[j]? = some r) (hf : fs[j]? = some f) (y : Int) :
    Fnd H0 (upd H r (.lst (legV (f.1, f.2.1, y)))) fd rs (fs.set j (f.1, f.2.1, y)) := by
  obtain ⟨f', hf', er⟩ := paired_getW h.pr hr
  have nfd : fd ≠ r := fun z => by
    have e1 := h.at_
    rw [z, er] at e1
    have e2 := Option.some.inj e1
    injection e2 with e3
    cases rs with
    | nil => simp at hr
    | cons x l => cases e3
  refine ⟨h.fn, by rw [upd_ne nfd]; exact h.at_, ?_, h.nd, h.rn⟩
  -- all others stay
  have key : ∀ (l : List Addr) (m : List Leg) (j : Nat), Paired (fun r f => H r = some (.lst (legV f))) l m → l.Nodup → l[j]? = some r → Paired (fun r' f' => (upd H r (.lst (legV (f.1, f.2.1, y)))) r' = some (.lst (legV f'))) l (m.set j (f.1, f.2.1, y)) := by
    intro l m j hp
    induction hp generalizing j with
    | nil => exact fun _ _ => .nil
    | @cons x b l m q t ih =>
      intro nd e
      have nd' := List.nodup_cons.mp nd
      cases j with
      | zero =>
        have e' : x = r := Option.some.inj e
        subst e'
        refine .cons upd_same (Paired.mapMem t fun r' f' hm q' => ?_)
        have ne : r' ≠ x := fun z => nd'.1 (z ▸ hm)
        rw [upd_ne ne]
        exact q'
      | succ j =>
        have ne : x ≠ r := fun z => nd'.1 (z ▸ List.mem_of_getElem? e)
        exact .cons (by rw [upd_ne ne]; exact q) (ih j nd'.2 e)
  exact key rs fs j h.pr h.nd hr
where
  paired_getW {α β : Type} {F : α → β → Prop} {l : List α} {m : List β} (h : Paired F l m) {i : Nat} {x : α} (e : l[i]? = some x) : ∃ y, m[i]? = some y ∧ F x y := by
    induction h generalizing i with
    | nil => rw [List.getElem?_nil] at e; cases e
    | @cons a b l m r _ ih =>
      cases i with
      | zero =>
        have ea : a = x := Option.some.inj e
        exact ⟨b, rfl, ea ▸ r⟩
      | succ i => exact ih e
/-- a new leg at the end -/
theorem Fnd.snoc {H0 H : Hp} {fd r : Addr} {rs : List Addr} {fs : List Leg} (h : Fnd H0 H fd rs fs) (hr : H r = none) (hr0 : H0 r = none) (f : Leg) :
    Fnd H0 (upd (upd H r (.lst (legV f))) fd (.lst (rs.map V.ref ++ [.ref r]))) fd (rs ++ [r]) (fs ++ [f]) := by
  have nfd : fd ≠ r := ne_of_none h.at_ hr
  have nin : r ∉ rs := fun hm => by
    obtain ⟨f', _, e⟩ := paired_mem h.pr r hm
    rw [hr] at e
    cases e
  refine ⟨h.fn, by rw [upd_same, List.map_append]; rfl, ?_, List.nodup_append.mpr ⟨h.nd, by simp, fun x hx y hy => ?_⟩, fun x hx => ?_⟩
  · have step : Paired (fun r' f' => (upd (upd H r (.lst (legV f))) fd (.lst (rs.map V.ref ++ [.ref r]))) r' = some (.lst (legV f'))) rs fs := Paired.mapMem h.pr fun r' f' hm q => by
      have n1 : r' ≠ r := fun z => nin (z ▸ hm)
      have n2 : r' ≠ fd := fun z => by
        rw [z, h.at_] at q
        have e2 := Option.some.inj q
        injection e2 with e3
        cases rs with
        | nil => exact absurd hm List.not_mem_nil
        | cons x l =>
          rw [List.map_cons] at e3
          have e4 := (List.cons.inj e3).1
          cases e4
      rw [upd_ne n2, upd_ne n1]
      exact q
    have last : (upd (upd H r (.lst (legV f))) fd (.lst (rs.map V.ref ++ [.ref r]))) r = some (.lst (legV f)) := by rw [upd_ne nfd.symm, upd_same]
    have snoc : ∀ (l : List Addr) (m : List Leg), Paired (fun r' f' => (upd (upd H r (.lst (legV f))) fd (.lst (rs.map V.ref ++ [.ref r]))) r' = some (.lst (legV f'))) l m → Paired (fun r' f' => (upd (upd H r (.lst (legV f))) fd (.lst (rs.map V.ref ++ [.ref r]))) r' = some (.lst (legV f'))) (l ++ [r]) (m ++ [f]) := by
      intro l m hp
      induction hp with
      | nil => exact .cons last .nil
      | cons q _ ih => exact .cons q ih
    exact snoc rs fs step
  · have ey : y = r := by simpa using hy
    subst ey
    rintro rfl
    exact nin hx
  · rcases List.mem_append.mp hx with z | z
    · exact h.rn x z
    · have ex : x = r := by simpa using z
      rw [ex]
      exact hr0
/-! ### balances -/
def sgn (v s t : Nat) : Int := (if t = v then 1 else 0) - (if s = v then 1 else 0)
def bal (fs : List Leg) (v : Nat) : Int := (fs.map fun f => f.2.2 * sgn v f.1 f.2.1).sum
theorem bal_snoc (fs : List Leg) (f : Leg) (v : Nat) : bal (fs ++ [f]) v = bal fs v + f.2.2 * sgn v f.1 f.2.1 := by
  unfold bal
  rw [List.map_append, List.sum_append]
  simp
theorem sum_set : ∀ (l : List Int) (j : Nat) (x y : Int), l[j]? = some x → (l.set j y).sum = l.sum - x + y
  | [], _, _, _, h => by simp at h
  | a :: l, 0, x, y, h => by
    have e : a = x := Option.some.inj h
    subst e
    rw [List.set_cons_zero, List.sum_cons, List.sum_cons]
    omega
  | a :: l, j + 1, x, y, h => by
    have ih := sum_set l j x y h
    rw [List.set_cons_succ, List.sum_cons, List.sum_cons, ih]
    omega
theorem bal_set {fs : List Leg} {j : Nat} {f : Leg} (h : fs[j]? = some f) (d : Int) (v : Nat) : bal (fs.set j (f.1, f.2.1, f.2.2 + d)) v = bal fs v + d * sgn v f.1 f.2.1 := by
  unfold bal
  rw [List.map_set, sum_set _ j (f.2.2 * sgn v f.1 f.2.1) _ (by rw [List.getElem?_map, h]; rfl)]
  show _ - _ + (f.2.2 + d) * sgn v f.1 f.2.1 = _
  rw [Int.add_mul]
  omega
theorem perm_sum {l m : List Int} (h : l.Perm m) : l.sum = m.sum := by
  induction h with
  | nil => rfl
  | cons x _ ih => rw [List.sum_cons, List.sum_cons, ih]
  | swap x y l =>
    rw [List.sum_cons, List.sum_cons, List.sum_cons, List.sum_cons]
    omega
  | trans _ _ ih1 ih2 => rw [ih1, ih2]
theorem bal_perm {fs gs : List Leg} (h : fs.Perm gs) (v : Nat) : bal fs v = bal gs v := by
  unfold bal
  exact perm_sum (h.map _)
/-- pairs of places, each counted once -/
def turn (ps : List (Nat × Nat)) (v : Nat) : Int := (ps.map fun p => sgn v p.1 p.2).sum
theorem turn_snoc (ps : List (Nat × Nat)) (p : Nat × Nat) (v : Nat) : turn (ps ++ [p]) v = turn ps v + sgn v p.1 p.2 := by
  unfold turn
  rw [List.map_append, List.sum_append]
  simp
def cntI (l : List Nat) (v : Nat) : Int := (l.map fun x => if x = v then (1 : Int) else 0).sum
theorem turn_zip : ∀ (l m : List Nat) (v : Nat), l.length = m.length → turn (l.zip m) v = cntI m v - cntI l v
  | [], [], v, _ => rfl
  | a :: l, b :: m, v, h => by
    have ih := turn_zip l m v (by simpa using h)
    have e1 : turn ((a :: l).zip (b :: m)) v = sgn v a b + turn (l.zip m) v := by
      unfold turn
      rw [List.zip_cons_cons, List.map_cons, List.sum_cons]
    have e2 : ∀ (x : Nat) (k : List Nat), cntI (x :: k) v = (if x = v then (1 : Int) else 0) + cntI k v := fun x k => by
      unfold cntI
      rw [List.map_cons, List.sum_cons]
    rw [e1, ih, e2, e2]
    unfold sgn
    omega
theorem cntI_rot (l : List Nat) (v : Nat) : cntI (l.drop 1 ++ l.take 1) v = cntI l v := by
  unfold cntI
  have h : (l.drop 1 ++ l.take 1).Perm l := by
    refine (List.perm_append_comm).trans ?_
    rw [List.take_append_drop]
  exact perm_sum (h.map _)
theorem turn_ring (l : List Nat) (v : Nat) : turn (l.zip (l.drop 1 ++ l.take 1)) v = 0 := by
  rw [turn_zip _ _ _ (by rw [List.length_append, List.length_drop, List.length_take]; omega), cntI_rot]
  omega
theorem cut_take (xs : List V) (k : Nat) : cutV xs none (some (k : Int)) = xs.take k := by
  unfold cutV
  rw [HT.sIx_none, HT.sIx_nat, List.drop_zero, Nat.sub_zero]
  by_cases h : k ≤ xs.length
  · rw [Nat.min_eq_left h]
  · rw [Nat.min_eq_right (by omega), List.take_of_length_le (Nat.le_refl _), List.take_of_length_le (by omega)]
theorem cut_drop (xs : List V) (k : Nat) : cutV xs (some (k : Int)) none = xs.drop k := by
  unfold cutV
  rw [HT.sIx_none, HT.sIx_nat]
  by_cases h : k ≤ xs.length
  · rw [Nat.min_eq_left h, List.take_of_length_le (by rw [List.length_drop]; omega)]
  · rw [Nat.min_eq_right (by omega), Nat.sub_self, List.take_zero, List.drop_of_length_le (by omega)]
end Wc
namespace Wc
open PySem PySem.Spec PyProof.Rows L2
/-- the drawing of pipes under way: k legs drawn, r numbers left -/
structure TubSt (H H' : Hp) (a c g fd : Addr) (rs : List Addr) (fs : List Leg) (many k r : Nat) : Prop where
  a0 : H a ≠ none
  g0 : H g ≠ none
  c0 : H c ≠ none
  dr : Dr a g H H'
  ms : MS H' a c g r
  fnd : Fnd H H' fd rs fs
  len : fs.length ≤ k
  ok : ∀ f ∈ fs, f.1 < many ∧ f.2.1 < many ∧ f.1 ≠ f.2.1 ∧ 0 ≤ f.2.2 ∧ f.2.2 ≤ 10000000 * (k : Int)
section
variable {H H1 H2 : Hp} {a c g fd : Addr} {rs : List Addr} {fs : List Leg} {many k r r' : Nat}
theorem TubSt.same (T : TubSt H H1 a c g fd rs fs many k r) (s : Same H1 H2) : TubSt H H2 a c g fd rs fs many k r :=
  ⟨T.a0, T.g0, T.c0, T.dr.trans (Dr.same s), T.ms.same s, T.fnd.same s, T.len, T.ok⟩
theorem TubSt.draw (T : TubSt H H1 a c g fd rs fs many k r) (d : Dr a g H1 H2) (ms : MS H2 a c g r') : TubSt H H2 a c g fd rs fs many k r' :=
  ⟨T.a0, T.g0, T.c0, T.dr.trans d, ms, T.fnd.dr T.a0 T.g0 d, T.len, T.ok⟩
theorem TubSt.le (T : TubSt H H1 a c g fd rs fs many k r) {k' : Nat} (h : k ≤ k') (hr : r' ≤ r) : TubSt H H1 a c g fd rs fs many k' r' :=
  ⟨T.a0, T.g0, T.c0, T.dr, T.ms.le hr, T.fnd, Nat.le_trans T.len h, fun f hf => by
    have := T.ok f hf
    refine ⟨this.1, this.2.1, this.2.2.1, this.2.2.2.1, ?_⟩
    have := this.2.2.2.2
    omega⟩
theorem TubSt.apart (T : TubSt H H1 a c g fd rs fs many k r) {p : Addr} (hp : H p = none) : p ≠ a ∧ p ≠ c ∧ p ≠ g :=
  ⟨fun z => T.a0 (z ▸ hp), fun z => T.c0 (z ▸ hp), fun z => T.g0 (z ▸ hp)⟩
theorem TubSt.put (T : TubSt H H1 a c g fd rs fs many k r) {j : Nat} {p : Addr} {f : Leg} (hr : rs[j]? = some p) (hf : fs[j]? = some f) {d : Int} (h0 : 0 ≤ d) (h1 : d ≤ 10000000) :
    TubSt H (upd H1 p (.lst (legV (f.1, f.2.1, f.2.2 + d)))) a c g fd rs (fs.set j (f.1, f.2.1, f.2.2 + d)) many (k + 1) r := by
  have hp := T.fnd.rn p (List.mem_of_getElem? hr)
  have ap := T.apart hp
  refine ⟨T.a0, T.g0, T.c0, T.dr.upd_new hp, T.ms.upd_new ap.1 ap.2.1 ap.2.2, T.fnd.put hr hf _, by rw [List.length_set]; have := T.len; omega, fun f' hf' => ?_⟩
  rcases List.mem_or_eq_of_mem_set hf' with z | rfl
  · have := T.ok f' z
    refine ⟨this.1, this.2.1, this.2.2.1, this.2.2.2.1, ?_⟩
    have := this.2.2.2.2
    omega
  · have := T.ok f (List.mem_of_getElem? hf)
    refine ⟨this.1, this.2.1, this.2.2.1, ?_, ?_⟩
    · show 0 ≤ f.2.2 + d
      have := this.2.2.2.1
      omega
    · show f.2.2 + d ≤ _
      have := this.2.2.2.2
      omega
theorem TubSt.snoc (T : TubSt H H1 a c g fd rs fs many k r) {p : Addr} (hp : H1 p = none) {f : Leg} (h1 : f.1 < many) (h2 : f.2.1 < many) (h3 : f.1 ≠ f.2.1) (h4 : 0 ≤ f.2.2) (h5 : f.2.2 ≤ 10000000) :
    TubSt H (upd (upd H1 p (.lst (legV f))) fd (.lst (rs.map V.ref ++ [.ref p]))) a c g fd (rs ++ [p]) (fs ++ [f]) many (k + 1) r := by
  have hp0 : H p = none := by
    cases e : H p with
    | none => rfl
    | some o =>
      by_cases za : p = a
      · rw [za] at hp
        obtain ⟨⟨n, cells, gs, e1, _⟩, _⟩ := T.ms
        rw [e1] at hp
        cases hp
      · by_cases zg : p = g
        · rw [zg] at hp
          obtain ⟨⟨n, cells, gs, e1, e2, e3, _⟩, _⟩ := T.ms
          rw [e3] at hp
          cases hp
        · rw [T.dr _ _ za zg e] at hp
          cases hp
  have ap := T.apart hp0
  have af := T.apart T.fnd.fn
  refine ⟨T.a0, T.g0, T.c0, (T.dr.upd_new hp0).upd_new T.fnd.fn, (T.ms.upd_new ap.1 ap.2.1 ap.2.2).upd_new af.1 af.2.1 af.2.2, T.fnd.snoc hp hp0 f, by rw [List.length_append, List.length_singleton]; have := T.len; omega, fun f' hf' => ?_⟩
  rcases List.mem_append.mp hf' with z | z
  · have := T.ok f' z
    refine ⟨this.1, this.2.1, this.2.2.1, this.2.2.2.1, ?_⟩
    have := this.2.2.2.2
    omega
  · have e : f' = f := by simpa using z
    rw [e]
    exact ⟨h1, h2, h3, h4, by omega⟩
/-- fresh behind the entry: fresh at the entry -/
theorem TubSt.fresh (T : TubSt H H1 a c g fd rs fs many k r) {p : Addr} (hp : H1 p = none) : H p = none := by
  cases e : H p with
  | none => rfl
  | some o =>
    have n1 := T.ms.fa hp
    have n2 := T.ms.fg hp
    rw [T.dr _ _ n1 n2 e] at hp
    cases hp
end
theorem rgV_nat (n : Nat) : rgV 0 (n : Int) = (List.range n).map natV := by
  unfold rgV
  rw [show ((n : Int) - 0).toNat = n by omega]
  refine List.map_congr_left fun i _ => ?_
  unfold natV
  rw [show (0 : Int) + (i : Nat) = (i : Nat) by omega]
theorem perm_map_ex {α β : Type} {f : α → β} {ys zs : List β} (h : ys.Perm zs) : ∀ {m : List α}, zs = m.map f → ∃ l : List α, l.Perm m ∧ ys = l.map f := by
  induction h with
  | nil =>
    intro m e
    have em : m = [] := List.map_eq_nil_iff.mp e.symm
    subst em
    exact ⟨[], List.Perm.refl _, rfl⟩
  | cons x _ ih =>
    intro m e
    cases m with
    | nil => cases e
    | cons b m =>
      rw [List.map_cons] at e
      obtain ⟨e1, e2⟩ := List.cons.inj e
      obtain ⟨l, p, q⟩ := ih e2
      exact ⟨b :: l, p.cons b, by rw [List.map_cons, e1, q]⟩
  | swap x y l =>
    intro m e
    cases m with
    | nil => cases e
    | cons b m =>
      cases m with
      | nil => cases e
      | cons b2 m =>
        rw [List.map_cons, List.map_cons] at e
        obtain ⟨e1, e2⟩ := List.cons.inj e
        obtain ⟨e3, e4⟩ := List.cons.inj e2
        exact ⟨b2 :: b :: m, List.Perm.swap _ _ _, by rw [List.map_cons, List.map_cons, e1, e3, e4]⟩
  | trans _ _ ih1 ih2 =>
    intro m e
    obtain ⟨l2, p2, q2⟩ := ih2 e
    obtain ⟨l1, p1, q1⟩ := ih1 q2
    exact ⟨l1, p1.trans p2, q1⟩
end Wc

set_option Elab.async false
set_option linter.all false
/-! Forests that grow by a pipe; the trees by which the drawing tells groups apart. -/
namespace Wc
open PySem L2
def rootN (ts : List Nat) : Nat → Nat → Nat
  | 0, x => x
  | k + 1, x => ts.getD (rootN ts k x) 0
theorem getElem_snoc {α : Type} {l : List α} {x y : α} {k : Nat} (h : (l ++ [x])[k]? = some y) : l[k]? = some y ∨ (k = l.length ∧ x = y) := by
  by_cases hk : k < l.length
  · rw [List.getElem?_append_left hk] at h
    exact .inl h
  · rw [List.getElem?_append_right (by omega)] at h
    have h0 : k - l.length = 0 := by
      have := (List.getElem?_eq_some_iff.mp h).1
      rw [List.length_singleton] at this
      omega
    rw [h0] at h
    exact .inr ⟨by omega, Option.some.inj h⟩
theorem getElem_snoc_left {α : Type} {l : List α} {x y : α} {k : Nat} (h : l[k]? = some y) : (l ++ [x])[k]? = some y := by
  rw [List.getElem?_append_left (List.getElem?_eq_some_iff.mp h).1]
  exact h
theorem getElem_snoc_last {α : Type} (l : List α) (x : α) : (l ++ [x])[l.length]? = some x := by
  rw [List.getElem?_append_right (Nat.le_refl _), Nat.sub_self]
  rfl
theorem oedge_closed {ts : List Tube} {p : Tube} (hp : p.wide = false) (skip : Option Nat) : OEdge (ts ++ [p]) skip = OEdge ts skip := by
  refine conn_congr fun x y => ⟨?_, ?_⟩
  · rintro ⟨k, q, h1, h2, h3⟩
    rcases getElem_snoc h1 with z | ⟨_, rfl⟩
    · exact ⟨k, q, z, h2, h3⟩
    · rw [hp] at h2
      cases h2
  · rintro ⟨k, q, h1, h2, h3⟩
    exact ⟨k, q, getElem_snoc_left h1, h2, h3⟩
theorem oedge_wide {ts : List Tube} {p : Tube} (hp : p.wide = true) {skip : Option Nat} (hs : skip ≠ some ts.length) : OEdge (ts ++ [p]) skip = fun x y => OEdge ts skip x y ∨ (x = p.s ∧ y = p.t) := by
  refine conn_congr fun x y => ⟨?_, ?_⟩
  · rintro ⟨k, q, h1, h2, h3, h4, h5⟩
    rcases getElem_snoc h1 with z | ⟨_, rfl⟩
    · exact .inl ⟨k, q, z, h2, h3, h4, h5⟩
    · exact .inr ⟨h4.symm, h5.symm⟩
  · rintro (⟨k, q, h1, h2, h3⟩ | ⟨rfl, rfl⟩)
    · exact ⟨k, q, getElem_snoc_left h1, h2, h3⟩
    · exact ⟨ts.length, p, getElem_snoc_last ts p, hp, hs, rfl, rfl⟩
theorem oedge_skip_last {ts : List Tube} {p : Tube} : OEdge (ts ++ [p]) (some ts.length) = OEdge ts none := by
  refine conn_congr fun x y => ⟨?_, ?_⟩
  · rintro ⟨k, q, h1, h2, h3, h4⟩
    rcases getElem_snoc h1 with z | ⟨e, _⟩
    · exact ⟨k, q, z, h2, (nofun), h4⟩
    · exact absurd (by rw [e]) h3
  · rintro ⟨k, q, h1, h2, h3, h4⟩
    have hk := (List.getElem?_eq_some_iff.mp h1).1
    exact ⟨k, q, getElem_snoc_left h1, h2, (fun z => by have := Option.some.inj z; omega), h4⟩
theorem forest_nil : Forest [] := fun k p h => by simp at h
theorem forest_closed {ts : List Tube} {p : Tube} (h : Forest ts) (hp : p.wide = false) : Forest (ts ++ [p]) := by
  intro k q hk hq
  rcases getElem_snoc hk with z | ⟨_, rfl⟩
  · rw [oedge_closed hp]
    exact h k q z hq
  · rw [hp] at hq
    cases hq
theorem forest_wide {ts : List Tube} {p : Tube} (h : Forest ts) (hp : p.wide = true) (hc : ¬ Conn (OEdge ts none) p.s p.t) : Forest (ts ++ [p]) := by
  intro k q hk hq
  rcases getElem_snoc hk with z | ⟨rfl, rfl⟩
  · have hkl := (List.getElem?_eq_some_iff.mp z).1
    rw [oedge_wide hp (fun e => by have := Option.some.inj e; omega)]
    intro hcon
    have e1 : Conn (OEdge ts none) q.s q.t := Conn.refl.step (.inl ⟨k, q, z, hq, (nofun), rfl, rfl⟩)
    have up : ∀ {x y : Nat}, Conn (OEdge ts (some k)) x y → Conn (OEdge ts none) x y := fun c => c.mono fun _ _ e => e.all
    rcases hcon.add with c | ⟨c, d⟩ | ⟨c, d⟩
    · exact h k q z hq c
    · exact hc ((up c).symm.trans (e1.trans (up d).symm))
    · exact hc (((up d).trans (e1.symm)).trans (up c))
  · rw [oedge_skip_last]
    exact hc
/-- fewer open pipes -/
theorem forest_sub {ts us : List Tube} (h : Forest ts) (hs : ∀ (k : Nat) (p : Tube), us[k]? = some p → p.wide = true → ∃ q : Tube, ts[k]? = some q ∧ q.wide = true ∧ q.s = p.s ∧ q.t = p.t) : Forest us := by
  intro k p hk hp hc
  obtain ⟨q, h1, h2, h3, h4⟩ := hs k p hk hp
  refine h k q h1 h2 ?_
  rw [h3, h4]
  refine hc.mono fun x y ⟨j, p', j1, j2, j3, j4, j5⟩ => ?_
  obtain ⟨q', k1, k2, k3, k4⟩ := hs j p' j1 j2
  exact ⟨j, q', k1, k2, j3, k3.trans j4, k4.trans j5⟩
/-! ### trees -/
structure Trees (tr : List Nat) (n : Nat) : Prop where
  len : tr.length = n
  le : ∀ i y : Nat, tr[i]? = some y → y ≤ i
section
variable {tr : List Nat} {n : Nat}
abbrev rt (tr : List Nat) (x : Nat) : Nat := rootN tr tr.length x
theorem Trees.get (T : Trees tr n) {x : Nat} (hx : x < n) : tr[x]? = some (tr.getD x 0) ∧ tr.getD x 0 ≤ x := by
  have hl : x < tr.length := by rw [T.len]; exact hx
  have e : tr[x]? = some (tr.getD x 0) := by
    rw [List.getD_eq_getElem?_getD, List.getElem?_eq_getElem hl]
    rfl
  exact ⟨e, T.le _ _ e⟩
theorem Trees.rootN_le (T : Trees tr n) {x : Nat} (hx : x < n) : ∀ k, rootN tr k x ≤ x
  | 0 => Nat.le_refl _
  | k + 1 => by
    have ih := T.rootN_le hx k
    have := (T.get (x := rootN tr k x) (by omega)).2
    show tr.getD (rootN tr k x) 0 ≤ x
    omega
theorem Trees.fix_or (T : Trees tr n) {x : Nat} (hx : x < n) : ∀ k, tr.getD (rootN tr k x) 0 = rootN tr k x ∨ rootN tr k x + k ≤ x
  | 0 => .inr (by show x + 0 ≤ x; omega)
  | k + 1 => by
    have hle := T.rootN_le hx k
    have hg := (T.get (x := rootN tr k x) (by omega)).2
    rcases T.fix_or hx k with h | h
    · left
      show tr.getD (tr.getD (rootN tr k x) 0) 0 = tr.getD (rootN tr k x) 0
      rw [h, h]
    · by_cases e : tr.getD (rootN tr k x) 0 = rootN tr k x
      · left
        show tr.getD (tr.getD (rootN tr k x) 0) 0 = tr.getD (rootN tr k x) 0
        rw [e, e]
      · right
        show tr.getD (rootN tr k x) 0 + (k + 1) ≤ x
        omega
theorem Trees.fix (T : Trees tr n) {x : Nat} (hx : x < n) : tr.getD (rt tr x) 0 = rt tr x := by
  rcases T.fix_or hx tr.length with h | h
  · exact h
  · rw [T.len] at h
    omega
theorem Trees.rt_lt (T : Trees tr n) {x : Nat} (hx : x < n) : rt tr x < n := Nat.lt_of_le_of_lt (T.rootN_le hx _) hx
theorem rootN_step (tr : List Nat) (x : Nat) : ∀ k, rootN tr k (tr.getD x 0) = rootN tr (k + 1) x
  | 0 => rfl
  | k + 1 => by
    show tr.getD (rootN tr k (tr.getD x 0)) 0 = tr.getD (rootN tr (k + 1) x) 0
    rw [rootN_step tr x k]
theorem Trees.rt_step (T : Trees tr n) {x : Nat} (hx : x < n) : rt tr (tr.getD x 0) = rt tr x := by
  unfold rt
  rw [rootN_step]
  exact T.fix hx
theorem rt_of_fix {x : Nat} (h : tr.getD x 0 = x) : ∀ k, rootN tr k x = x
  | 0 => rfl
  | k + 1 => by
    show tr.getD (rootN tr k x) 0 = x
    rw [rt_of_fix h k, h]
/-- one root is hung below another -/
theorem Trees.set (T : Trees tr n) {M m : Nat} (hm : m < M) (hM : M < n) (fM : tr.getD M 0 = M) (fm : tr.getD m 0 = m) : Trees (tr.set M m) n ∧ ∀ x, x < n → rt (tr.set M m) x = if rt tr x = M then m else rt tr x := by
  have hl : M < tr.length := by rw [T.len]; exact hM
  have T' : Trees (tr.set M m) n := by
    refine ⟨by rw [List.length_set]; exact T.len, fun i y h => ?_⟩
    by_cases e : i = M
    · subst e
      rw [List.getElem?_set_self hl] at h
      have := Option.some.inj h
      omega
    · rw [List.getElem?_set_ne (Ne.symm e)] at h
      exact T.le i y h
  have gM : (tr.set M m).getD M 0 = m := by
    rw [List.getD_eq_getElem?_getD, List.getElem?_set_self hl]
    rfl
  have gne : ∀ x, x ≠ M → (tr.set M m).getD x 0 = tr.getD x 0 := fun x h => by
    rw [List.getD_eq_getElem?_getD, List.getElem?_set_ne (Ne.symm h), ← List.getD_eq_getElem?_getD]
  refine ⟨T', fun x => ?_⟩
  induction x using Nat.strongRecOn with
  | ind x ih =>
    intro hx
    by_cases hf : tr.getD x 0 = x
    · have e1 : rt tr x = x := rt_of_fix hf _
      rw [e1]
      by_cases hxM : x = M
      · subst hxM
        rw [if_pos rfl, ← T'.rt_step hx, gM]
        exact rt_of_fix (by rw [gne m (by omega)]; exact fm) _
      · rw [if_neg hxM]
        exact rt_of_fix (by rw [gne x hxM]; exact hf) _
    · have hxM : x ≠ M := fun e => hf (e ▸ fM)
      have hlt : tr.getD x 0 < x := by
        have := (T.get hx).2
        omega
      rw [← T'.rt_step hx, gne x hxM, ih _ hlt (by omega), T.rt_step hx]
end
/-- the trees tell which places are joined -/
def Tells (tr : List Nat) (n : Nat) (ts : List Tube) : Prop := ∀ x y, x < n → y < n → (Conn (OEdge ts none) x y ↔ rt tr x = rt tr y)
theorem tells_nil (n : Nat) : Tells (List.range n) n [] := by
  intro x y hx hy
  have fx : ∀ z, z < n → rt (List.range n) z = z := fun z hz => rt_of_fix (by rw [List.getD_eq_getElem?_getD, List.getElem?_range hz]; rfl) _
  rw [fx x hx, fx y hy]
  refine ⟨fun h => ?_, fun h => h ▸ .refl⟩
  exact h.closed (S := fun z => x = z) rfl fun u v _ e => by
    rcases e with ⟨k, p, h, _⟩ | ⟨k, p, h, _⟩ <;> simp at h
theorem trees_range (n : Nat) : Trees (List.range n) n := ⟨List.length_range, fun i y h => by
  have := List.getElem?_eq_some_iff.mp h
  obtain ⟨_, e⟩ := this
  rw [List.getElem_range] at e
  omega⟩
theorem Tells.wide {tr : List Nat} {n : Nat} {ts : List Tube} {p : Tube} (T : Trees tr n) (h : Tells tr n ts) (hp : p.wide = true) (hs : p.s < n) (ht : p.t < n) {M m : Nat} (hm : m < M) (hM : M < n)
    (hmm : (M = rt tr p.s ∧ m = rt tr p.t) ∨ (M = rt tr p.t ∧ m = rt tr p.s)) : Trees (tr.set M m) n ∧ Tells (tr.set M m) n (ts ++ [p]) ∧ ¬ Conn (OEdge ts none) p.s p.t := by
  have fM : tr.getD M 0 = M := by
    rcases hmm with ⟨e, _⟩ | ⟨e, _⟩ <;> rw [e]
    · exact T.fix hs
    · exact T.fix ht
  have fm : tr.getD m 0 = m := by
    rcases hmm with ⟨_, e⟩ | ⟨_, e⟩ <;> rw [e]
    · exact T.fix ht
    · exact T.fix hs
  obtain ⟨T', hr⟩ := T.set hm hM fM fm
  have nst : ¬ Conn (OEdge ts none) p.s p.t := fun c => by
    have := (h _ _ hs ht).mp c
    rcases hmm with ⟨e1, e2⟩ | ⟨e1, e2⟩ <;> omega
  refine ⟨T', fun x y hx hy => ?_, nst⟩
  rw [oedge_wide hp (by nofun), hr x hx, hr y hy]
  have up : ∀ {u v : Nat}, Conn (OEdge ts none) u v → Conn (fun x y => OEdge ts none x y ∨ (x = p.s ∧ y = p.t)) u v := fun c => c.mono fun _ _ e => .inl e
  have e0 : Conn (fun x y => OEdge ts none x y ∨ (x = p.s ∧ y = p.t)) p.s p.t := Conn.refl.step (.inl (.inr ⟨rfl, rfl⟩))
  constructor
  · intro c
    rcases c.add with c | ⟨c, d⟩ | ⟨c, d⟩
    · rw [(h x y hx hy).mp c]
    · rw [(h x p.s hx hs).mp c, ← (h p.t y ht hy).mp d]
      rcases hmm with ⟨e1, e2⟩ | ⟨e1, e2⟩ <;> rw [← e1, ← e2]
      · rw [if_pos rfl, if_neg (by omega)]
      · rw [if_pos rfl, if_neg (by omega)]
    · rw [(h x p.t hx ht).mp c, ← (h p.s y hs hy).mp d]
      rcases hmm with ⟨e1, e2⟩ | ⟨e1, e2⟩ <;> rw [← e1, ← e2]
      · rw [if_pos rfl, if_neg (by omega)]
      · rw [if_pos rfl, if_neg (by omega)]
  · intro e
    have cx : ∀ {z : Nat}, z < n → rt tr z = M → Conn (fun x y => OEdge ts none x y ∨ (x = p.s ∧ y = p.t)) z p.s := fun {z} hz ez => by
      rcases hmm with ⟨e1, e2⟩ | ⟨e1, e2⟩
      · exact up ((h z p.s hz hs).mpr (ez.trans e1))
      · exact (up ((h z p.t hz ht).mpr (ez.trans e1))).trans e0.symm
    have cm : ∀ {z : Nat}, z < n → rt tr z = m → Conn (fun x y => OEdge ts none x y ∨ (x = p.s ∧ y = p.t)) z p.s := fun {z} hz ez => by
      rcases hmm with ⟨e1, e2⟩ | ⟨e1, e2⟩
      · exact (up ((h z p.t hz ht).mpr (ez.trans e2))).trans e0.symm
      · exact up ((h z p.s hz hs).mpr (ez.trans e2))
    by_cases hxM : rt tr x = M
    · rw [if_pos hxM] at e
      by_cases hyM : rt tr y = M
      · exact up ((h x y hx hy).mpr (hxM.trans hyM.symm))
      · rw [if_neg hyM] at e
        exact (cx hx hxM).trans (cm hy e.symm).symm
    · rw [if_neg hxM] at e
      by_cases hyM : rt tr y = M
      · rw [if_pos hyM] at e
        exact (cm hx e).trans (cx hy hyM).symm
      · rw [if_neg hyM] at e
        exact up ((h x y hx hy).mpr e)
end Wc

set_option Elab.async false
set_option linter.all false
/-! Branches: open pipes taken away from their ends, one after another. -/
namespace Wc
open PySem PySem.Spec PyProof.Rows L2
theorem paired_get {α β : Type} {F : α → β → Prop} {l : List α} {m : List β} (h : Paired F l m) : ∀ {i : Nat} {x : α}, l[i]? = some x → ∃ y, m[i]? = some y ∧ F x y := by
  induction h with
  | nil =>
    intro i x e
    rw [List.getElem?_nil] at e
    cases e
  | @cons a b l m r _ ih =>
    intro i x e
    cases i with
    | zero =>
      have ea : a = x := Option.some.inj e
      exact ⟨b, rfl, ea ▸ r⟩
    | succ i => exact ih e
def optN : Option Nat → V
  | none => .non
  | some k => .int (k : Int)
theorem optN_ne (skip : Option Nat) (k : Nat) : (!decide (V.int (k : Int) = optN skip)) = true ↔ skip ≠ some k := by
  cases skip with
  | none => simp [optN]
  | some j =>
    simp only [optN, Bool.not_eq_true', decide_eq_false_iff_not, ne_eq, Option.some.injEq, V.int.injEq]
    omega
theorem scal_optN (skip : Option Nat) (k : Int) : scal (V.int k) (optN skip) = true := by cases skip <;> rfl
theorem nodup_le {n : Nat} {J : List Nat} (h : J.Nodup) (hn : ∀ x ∈ J, x < n) : J.length ≤ n := by
  have h2 : J.length ≤ (List.range n).length := List.Nodup.length_le_of_subset h fun x hx => List.mem_range.mpr (hn x hx)
  rw [List.length_range] at h2
  exact h2
/-- a sorted arrangement of the places joined to x -/
theorem sorted_comp {E : Nat → Nat → Prop} {n x : Nat} {J : List Nat} {ys : List Int} (hJ : J.Nodup) (hm : ∀ y, y ∈ J ↔ y < n ∧ Conn E x y) (hp : ys.Perm (J.map fun y : Nat => (y : Int))) (hs : ys.Pairwise (· ≤ ·)) :
    ys.map V.int = (comp E n x).map natV := by
  have hc : ((comp E n x).map fun y : Nat => (y : Int)).Perm (J.map fun y : Nat => (y : Int)) := by
    refine List.Perm.map _ ?_
    refine (List.perm_ext_iff_of_nodup ((comp_sorted E n x).imp fun h => Nat.ne_of_lt h) hJ).mpr fun y => ?_
    rw [mem_comp, hm]
  have e : ys = (comp E n x).map fun y : Nat => (y : Int) := by
    refine List.Perm.eq_of_pairwise (le := (· ≤ ·)) (fun a b _ _ h1 h2 => Int.le_antisymm h1 h2) hs ?_ (hp.trans hc.symm)
    refine List.pairwise_map.mpr ((comp_sorted E n x).imp fun h => ?_)
    omega
  rw [e, List.map_map]
  rfl
/-- the groups, as tuples, in the heap -/
def GroupsAt (H : Hp) (gs : List Addr) (E : Nat → Nat → Prop) (n : Nat) (fs : List Nat) : Prop := Paired (fun g x => H g = some (.tup ((comp E n x).map natV))) gs fs
theorem firsts_step {E : Nat → Nat → Prop} {n i : Nat} (hi : i < n) :
    (firsts E n).filter (fun x => decide (x < i + 1)) = (firsts E n).filter (fun x => decide (x < i)) ++ (if i ∈ firsts E n then [i] else []) := by
  refine sorted_ext (List.Pairwise.filter _ (firsts_sorted E n)) ?_ fun x => ?_
  · refine List.pairwise_append.mpr ⟨List.Pairwise.filter _ (firsts_sorted E n), ?_, fun a ha b hb => ?_⟩
    · split <;> simp
    · rw [List.mem_filter] at ha
      have := of_decide_eq_true ha.2
      split at hb
      · have : b = i := by simpa using hb
        omega
      · exact absurd hb List.not_mem_nil
  · rw [List.mem_filter, List.mem_append, List.mem_filter]
    simp only [decide_eq_true_eq]
    constructor
    · rintro ⟨h1, h2⟩
      by_cases e : x = i
      · subst e
        exact .inr (by rw [if_pos h1]; simp)
      · exact .inl ⟨h1, by omega⟩
    · rintro (⟨h1, h2⟩ | h)
      · exact ⟨h1, by omega⟩
      · split at h
        · have e : x = i := by simpa using h
          subst e
          exact ⟨by assumption, by omega⟩
        · exact absurd h List.not_mem_nil
theorem Paired.snoc {α β : Type} {F : α → β → Prop} {a : α} {b : β} : ∀ {l : List α} {m : List β}, Paired F l m → F a b → Paired F (l ++ [a]) (m ++ [b])
  | _, _, .nil, r => .cons r .nil
  | _, _, .cons q t, r => .cons q (Paired.snoc t r)
theorem comp_nodup (E : Nat → Nat → Prop) (n x : Nat) : (comp E n x).Nodup := (comp_sorted E n x).imp fun h => Nat.ne_of_lt h
theorem edge_of {ts : List Tube} {skip : Option Nat} {j : Nat} {q : Tube} (h : ts[j]? = some q) (hw : q.wide = true) (hs : skip ≠ some j) : OEdge ts skip q.s q.t := ⟨j, q, h, hw, hs, rfl, rfl⟩
theorem inner {ts : List Tube} (hF : Forest ts) {k k' x z : Nat} {p p' : Tube} (hp : ts[k]? = some p) (hx : x = p.s ∨ x = p.t) (hk : k' ≠ k) (hp' : ts[k']? = some p') (hw' : p'.wide = true) (hends : (p'.s = x ∧ p'.t = z) ∨ (p'.t = x ∧ p'.s = z)) {w : Nat}
    (h : Conn (OEdge ts (some k')) z w) : Conn (OEdge ts (some k)) x w ∧ w ≠ x := by
  have hf := hF k' p' hp' hw'
  have apart : ∀ {w}, Conn (OEdge ts (some k')) z w → w ≠ x := by
    rintro w hc rfl
    rcases hends with ⟨rfl, rfl⟩ | ⟨rfl, rfl⟩
    · exact hf hc.symm
    · exact hf hc
  induction h with
  | refl =>
    have ed := edge_of (skip := some k) hp' hw' fun z => hk (Option.some.inj z).symm
    refine ⟨?_, apart .refl⟩
    rcases hends with ⟨rfl, rfl⟩ | ⟨rfl, rfl⟩
    · exact Conn.refl.step (.inl ed)
    · exact Conn.refl.step (.inr ed)
  | @step u w hu e ih =>
    have hwx := apart (hu.step e)
    refine ⟨?_, hwx⟩
    have out : ∀ j q, ts[j]? = some q → ((q.s = u ∧ q.t = w) ∨ (q.t = u ∧ q.s = w)) → j ≠ k := by
      rintro j q hq he rfl
      have : q = p := Option.some.inj (hq.symm.trans hp)
      subst this
      have := ih.2
      rcases he with ⟨a1, a2⟩ | ⟨a1, a2⟩ <;> rcases hx with rfl | rfl <;> omega
    rcases e with ⟨j, q, h1, h2, h3, h4, h5⟩ | ⟨j, q, h1, h2, h3, h4, h5⟩
    · exact ih.1.step (.inl ⟨j, q, h1, h2, fun z => out j q h1 (.inl ⟨h4, h5⟩) (Option.some.inj z).symm, h4, h5⟩)
    · exact ih.1.step (.inr ⟨j, q, h1, h2, fun z => out j q h1 (.inr ⟨h5, h4⟩) (Option.some.inj z).symm, h4, h5⟩)
/-! ### what is left at a place -/
abbrev Br := Nat × Nat × Nat
def idx (B : List Br) : List Nat := B.map (·.1)
/-- the open pipe k touches v -/
def Tch (ts : List Tube) (v k : Nat) : Prop := ∃ p, ts[k]? = some p ∧ p.wide = true ∧ (p.s = v ∨ p.t = v)
open Classical in
noncomputable def lft (ts : List Tube) (R : Nat → Prop) (v : Nat) : List Nat := (List.range ts.length).filter fun k => decide (Tch ts v k ∧ R k)
def lsum (l : List Nat) : Int := (l.map fun k : Nat => (k : Int)).sum
open Classical in
theorem mem_lft {ts : List Tube} {R : Nat → Prop} {v k : Nat} : k ∈ lft ts R v ↔ Tch ts v k ∧ R k := by
  unfold lft
  rw [List.mem_filter, List.mem_range, decide_eq_true_eq]
  exact ⟨fun h => h.2, fun h => ⟨by obtain ⟨⟨p, h1, _⟩, _⟩ := h; exact (List.getElem?_eq_some_iff.mp h1).1, h⟩⟩
theorem lft_sorted (ts : List Tube) (R : Nat → Prop) (v : Nat) : (lft ts R v).Pairwise (· < ·) := List.Pairwise.filter _ List.pairwise_lt_range
open Classical in
theorem lft_step (ts : List Tube) (i v : Nat) : lft ts (· < i + 1) v = lft ts (· < i) v ++ (if Tch ts v i then [i] else []) := by
  refine sorted_ext (lft_sorted _ _ _) ?_ fun x => ?_
  · refine List.pairwise_append.mpr ⟨lft_sorted _ _ _, ?_, fun a ha b hb => ?_⟩
    · split <;> simp
    · have := (mem_lft.mp ha).2
      split at hb
      · have : b = i := by simpa using hb
        omega
      · exact absurd hb List.not_mem_nil
  · rw [List.mem_append, mem_lft, mem_lft]
    constructor
    · rintro ⟨h1, h2⟩
      by_cases e : x = i
      · subst e
        exact .inr (by rw [if_pos h1]; simp)
      · exact .inl ⟨h1, by omega⟩
    · rintro (⟨h1, h2⟩ | h)
      · exact ⟨h1, by omega⟩
      · split at h
        · have e : x = i := by simpa using h
          subst e
          exact ⟨by assumption, by omega⟩
        · exact absurd h List.not_mem_nil
theorem lft_congr {ts : List Tube} {R S : Nat → Prop} {v : Nat} (h : ∀ k, Tch ts v k → (R k ↔ S k)) : lft ts R v = lft ts S v := by
  refine sorted_ext (lft_sorted _ _ _) (lft_sorted _ _ _) fun k => ?_
  rw [mem_lft, mem_lft]
  exact ⟨fun z => ⟨z.1, (h k z.1).mp z.2⟩, fun z => ⟨z.1, (h k z.1).mpr z.2⟩⟩
theorem sorted_erase {l m : List Nat} {k : Nat} (hl : l.Pairwise (· < ·)) (hm : m.Pairwise (· < ·)) (hk : k ∈ l) (h : ∀ x, x ∈ m ↔ x ∈ l ∧ x ≠ k) : (m.length : Int) = l.length - 1 ∧ lsum m = lsum l - k := by
  have hd : l.Nodup := hl.imp fun h => Nat.ne_of_lt h
  have e : m = l.erase k := by
    refine sorted_ext hm (List.Pairwise.sublist List.erase_sublist hl) fun x => ?_
    rw [h, hd.mem_erase_iff]
    exact ⟨fun z => ⟨z.2, z.1⟩, fun z => ⟨z.2, z.1⟩⟩
  subst e
  have hp := List.perm_cons_erase hk
  have e1 := hp.length_eq
  rw [List.length_cons] at e1
  refine ⟨by omega, ?_⟩
  have e2 : lsum l = lsum (k :: l.erase k) := by
    unfold lsum
    exact perm_sum (hp.map _)
  unfold lsum at e2 ⊢
  rw [List.map_cons, List.sum_cons] at e2
  omega
/-! ### taking open pipes away -/
def BE (B : List Br) (x y : Nat) : Prop := ∃ k, (k, x, y) ∈ B
structure Brs (ts : List Tube) (B : List Br) : Prop where
  at_ : ∀ k v o, (k, v, o) ∈ B → ∃ p, ts[k]? = some p ∧ p.wide = true ∧ ((p.s = v ∧ p.t = o) ∨ (p.t = v ∧ p.s = o))
  nd : (idx B).Nodup
  last : B.Pairwise fun a b => b.2.1 ≠ a.2.1 ∧ b.2.2 ≠ a.2.1
structure Peel (ts : List Tube) (n : Nat) (M L : List Int) (B : List Br) : Prop where
  ml : M.length = n
  ll : L.length = n
  m : ∀ v, v < n → M[v]? = some ((lft ts (· ∉ idx B) v).length : Int)
  l : ∀ v, v < n → lft ts (· ∉ idx B) v ≠ [] → L[v]? = some (lsum (lft ts (· ∉ idx B) v))
  br : Brs ts B
  out : ∀ b ∈ B, lft ts (· ∉ idx B) b.2.1 = []
theorem idx_snoc (B : List Br) (k v o : Nat) : idx (B ++ [(k, v, o)]) = idx B ++ [k] := by
  unfold idx
  rw [List.map_append]
  rfl
theorem Brs.len {ts : List Tube} {B : List Br} (h : Brs ts B) : B.length ≤ ts.length := by
  have := nodup_le (n := ts.length) h.nd fun k hk => by
    obtain ⟨b, hb, e⟩ := List.mem_map.mp hk
    obtain ⟨k', v, o⟩ := b
    obtain ⟨p, hp, _⟩ := h.at_ k' v o hb
    have e' : k' = k := e
    subst e'
    exact (List.getElem?_eq_some_iff.mp hp).1
  unfold idx at this
  rw [List.length_map] at this
  exact this
theorem Peel.step {ts : List Tube} {n : Nat} {M L : List Int} {B : List Br} (h : Peel ts n M L B) (hlt : ∀ p ∈ ts, p.s < n ∧ p.t < n ∧ p.s ≠ p.t) {v : Nat} (hv : v < n) (h1 : M[v]? = some 1) :
    ∃ (k : Nat) (p : Tube), L[v]? = some (k : Int) ∧ ts[k]? = some p ∧ p.wide = true ∧ (p.s = v ∨ p.t = v) ∧ ∀ o, o = (if v = p.s then p.t else p.s) → o < n ∧ o ≠ v ∧ ∃ mo lo : Int, M[o]? = some mo ∧ L[o]? = some lo ∧
      Peel ts n ((M.set v 0).set o (mo - 1)) (L.set o (lo - k)) (B ++ [(k, v, o)]) := by
  have e1 : ((lft ts (· ∉ idx B) v).length : Int) = 1 := Option.some.inj ((h.m v hv).symm.trans h1)
  obtain ⟨k, ek⟩ := List.length_eq_one_iff.mp (show (lft ts (· ∉ idx B) v).length = 1 by omega)
  have hk : k ∈ lft ts (· ∉ idx B) v := by rw [ek]; simp
  obtain ⟨⟨p, hp, hw, hend⟩, hkB⟩ := mem_lft.mp hk
  have hL := h.l v hv (by rw [ek]; simp)
  rw [ek] at hL
  have eL : lsum [k] = (k : Int) := by
    unfold lsum
    simp
  rw [eL] at hL
  have hb := hlt p (List.mem_of_getElem? hp)
  refine ⟨k, p, hL, hp, hw, hend, fun o eo => ?_⟩
  have hov : o ≠ v ∧ o < n ∧ ((p.s = v ∧ p.t = o) ∨ (p.t = v ∧ p.s = o)) := by
    by_cases z : v = p.s
    · rw [if_pos z] at eo
      exact ⟨by omega, by omega, .inl ⟨z.symm, eo.symm⟩⟩
    · rw [if_neg z] at eo
      rcases hend with q | q
      · exact absurd q.symm z
      · exact ⟨by omega, by omega, .inr ⟨q, eo.symm⟩⟩
  obtain ⟨hov1, hon, hends⟩ := hov
  have hto : Tch ts o k := ⟨p, hp, hw, by rcases hends with ⟨_, q⟩ | ⟨_, q⟩ <;> simp [q]⟩
  have hko : k ∈ lft ts (· ∉ idx B) o := mem_lft.mpr ⟨hto, hkB⟩
  have mem' : ∀ x j, j ∈ lft ts (· ∉ idx (B ++ [(k, v, o)])) x ↔ j ∈ lft ts (· ∉ idx B) x ∧ j ≠ k := by
    intro x j
    rw [mem_lft, mem_lft, idx_snoc, List.mem_append, List.mem_singleton]
    constructor
    · rintro ⟨a, b⟩
      exact ⟨⟨a, fun z => b (.inl z)⟩, fun z => b (.inr z)⟩
    · rintro ⟨⟨a, b⟩, c⟩
      exact ⟨a, fun z => z.elim b c⟩
  have sameAt : ∀ x, x ≠ v → x ≠ o → lft ts (· ∉ idx (B ++ [(k, v, o)])) x = lft ts (· ∉ idx B) x := by
    intro x n1 n2
    refine sorted_ext (lft_sorted _ _ _) (lft_sorted _ _ _) fun j => ?_
    rw [mem']
    refine ⟨fun z => z.1, fun z => ⟨z, ?_⟩⟩
    rintro rfl
    obtain ⟨⟨q, hq, _, he⟩, _⟩ := mem_lft.mp z
    have : q = p := Option.some.inj (hq.symm.trans hp)
    subst this
    rcases hends with ⟨a, b⟩ | ⟨a, b⟩ <;> rcases he with c | c <;> omega
  have atV : lft ts (· ∉ idx (B ++ [(k, v, o)])) v = [] := by
    refine List.eq_nil_iff_forall_not_mem.mpr fun j hj => ?_
    rw [mem', ek] at hj
    exact hj.2 (by simpa using hj.1)
  have atO := sorted_erase (lft_sorted ts _ o) (lft_sorted ts _ o) hko (mem' o)
  refine ⟨hon, hov1, _, _, h.m o hon, h.l o hon (fun z => by rw [z] at hko; cases hko), ?_⟩
  refine ⟨by rw [List.length_set, List.length_set]; exact h.ml, by rw [List.length_set]; exact h.ll, fun x hx => ?_, fun x hx hne => ?_, ⟨fun k' v' o' hm => ?_, ?_, ?_⟩, fun b hb' => ?_⟩
  · by_cases xo : x = o
    · subst xo
      rw [List.getElem?_set_self (by rw [List.length_set, h.ml]; exact hx), atO.1]
    · rw [List.getElem?_set_ne (Ne.symm xo)]
      by_cases xv : x = v
      · subst xv
        rw [List.getElem?_set_self (by rw [h.ml]; exact hx), atV]
        rfl
      · rw [List.getElem?_set_ne (Ne.symm xv), sameAt x xv xo]
        exact h.m x hx
  · by_cases xo : x = o
    · subst xo
      rw [List.getElem?_set_self (by rw [h.ll]; exact hx), atO.2]
    · rw [List.getElem?_set_ne (Ne.symm xo)]
      by_cases xv : x = v
      · subst xv
        exact absurd atV hne
      · rw [sameAt x xv xo] at hne ⊢
        exact h.l x hx hne
  · rcases List.mem_append.mp hm with z | z
    · exact h.br.at_ k' v' o' z
    · have e : (k', v', o') = (k, v, o) := by simpa using z
      injection e with e1 e2
      injection e2 with e2 e3
      subst e1 e2 e3
      exact ⟨p, hp, hw, hends⟩
  · rw [idx_snoc]
    refine List.nodup_append.mpr ⟨h.br.nd, by simp, fun a ha b hb => ?_⟩
    have : b = k := by simpa using hb
    subst this
    rintro rfl
    exact hkB ha
  · refine List.pairwise_append.mpr ⟨h.br.last, by simp, fun a ha b hb => ?_⟩
    have e : b = (k, v, o) := by simpa using hb
    subst e
    have ha' := h.out a ha
    refine ⟨fun z => ?_, fun z => ?_⟩
    · have z' : v = a.2.1 := z
      rw [← z', ek] at ha'
      cases ha'
    · have z' : o = a.2.1 := z
      rw [← z'] at ha'
      rw [ha'] at hko
      cases hko
  · rcases List.mem_append.mp hb' with z | z
    · refine List.eq_nil_iff_forall_not_mem.mpr fun j hj => ?_
      rw [mem', h.out b z] at hj
      exact absurd hj.1 List.not_mem_nil
    · have e : b = (k, v, o) := by simpa using z
      subst e
      exact atV
/-- in a forest all is taken away where no place is left with one -/
theorem Peel.done {ts : List Tube} {n : Nat} {M L : List Int} {B : List Br} (h : Peel ts n M L B) (hlt : ∀ p ∈ ts, p.s < n ∧ p.t < n ∧ p.s ≠ p.t) (hF : Forest ts) (h1 : ∀ x, x < n → M[x]? ≠ some 1) : ∀ k p, ts[k]? = some p → p.wide = true → k ∈ idx B := by
  have two : ∀ (m k x : Nat) (p : Tube), ts[k]? = some p → p.wide = true → (x = p.s ∨ x = p.t) → k ∉ idx B → (comp (OEdge ts (some k)) n x).length ≤ m → False := by
    intro m
    induction m with
    | zero =>
      intro k x p hp hw hx hk hl
      have hb := hlt p (List.mem_of_getElem? hp)
      have : x ∈ comp (OEdge ts (some k)) n x := mem_comp.mpr ⟨by rcases hx with rfl | rfl <;> omega, .refl⟩
      have e : comp (OEdge ts (some k)) n x = [] := List.length_eq_zero_iff.mp (by omega)
      rw [e] at this
      cases this
    | succ m ih =>
      intro k x p hp hw hx hk hl
      have hb := hlt p (List.mem_of_getElem? hp)
      have hxn : x < n := by rcases hx with rfl | rfl <;> omega
      have hkx : k ∈ lft ts (· ∉ idx B) x := mem_lft.mpr ⟨⟨p, hp, hw, by rcases hx with rfl | rfl <;> simp⟩, hk⟩
      have hne := h1 x hxn
      rw [h.m x hxn] at hne
      obtain ⟨k', hk', hkk⟩ : ∃ k', k' ∈ lft ts (· ∉ idx B) x ∧ k' ≠ k := by
        by_cases z : ∃ k', k' ∈ lft ts (· ∉ idx B) x ∧ k' ≠ k
        · exact z
        · refine absurd ?_ hne
          have e : lft ts (· ∉ idx B) x = [k] := sorted_ext (lft_sorted _ _ _) (by simp) fun j => by
            rw [List.mem_singleton]
            constructor
            · intro hj
              by_cases zj : j = k
              · exact zj
              · exact absurd ⟨j, hj, zj⟩ z
            · rintro rfl
              exact hkx
          rw [e]
          rfl
      obtain ⟨⟨p', hp', hw', hx'⟩, hkB'⟩ := mem_lft.mp hk'
      have hends : ∃ z, ((p'.s = x ∧ p'.t = z) ∨ (p'.t = x ∧ p'.s = z)) := by
        rcases hx' with q | q
        · exact ⟨_, .inl ⟨q, rfl⟩⟩
        · exact ⟨_, .inr ⟨q, rfl⟩⟩
      obtain ⟨z, hz⟩ := hends
      refine ih k' z p' hp' hw' (by rcases hz with ⟨_, q⟩ | ⟨_, q⟩ <;> simp [q]) hkB' ?_
      have sub : ∀ w ∈ x :: comp (OEdge ts (some k')) n z, w ∈ comp (OEdge ts (some k)) n x := fun w hw => by
        rcases List.mem_cons.mp hw with rfl | hw
        · exact mem_comp.mpr ⟨hxn, .refl⟩
        · have := mem_comp.mp hw
          exact mem_comp.mpr ⟨this.1, (inner hF hp hx hkk hp' hw' hz this.2).1⟩
      have nd : (x :: comp (OEdge ts (some k')) n z).Nodup := List.nodup_cons.mpr ⟨fun hm => (inner hF hp hx hkk hp' hw' hz (mem_comp.mp hm).2).2 rfl, comp_nodup _ _ _⟩
      have := List.Nodup.length_le_of_subset nd sub
      rw [List.length_cons] at this
      omega
  intro k p hp hw
  by_cases hk : k ∈ idx B
  · exact hk
  · exact (two _ k p.s p hp hw (.inl rfl) hk (Nat.le_refl _)).elim
/-- the branches of a network: all its open pipes -/
structure BrsOf (ts : List Tube) (B : List Br) : Prop extends Brs ts B where
  all : ∀ k p, ts[k]? = some p → p.wide = true → k ∈ idx B
theorem hits_idx {ts : List Tube} {B : List Br} (h : BrsOf ts B) : B.length = (ts.filter Tube.wide).length := by
  have key : ∀ ts : List Tube, (ts.filter Tube.wide).length = ((List.range ts.length).filter fun k => (ts[k]?).any Tube.wide).length := by
    intro ts
    induction ts with
    | nil => rfl
    | cons p ts ih =>
      rw [List.length_cons, List.range_succ_eq_map, List.filter_cons, List.filter_cons]
      have e : (List.filter (fun k => ((p :: ts)[k]?).any Tube.wide) (List.map Nat.succ (List.range ts.length))).length = ((List.range ts.length).filter fun k => (ts[k]?).any Tube.wide).length := by
        rw [List.filter_map, List.length_map]
        rfl
      have e0 : ((p :: ts)[0]?).any Tube.wide = p.wide := rfl
      rw [e0]
      by_cases hp : p.wide = true
      · rw [if_pos hp, if_pos hp, List.length_cons, List.length_cons, ih, e]
      · rw [if_neg hp, if_neg hp, ih, e]
  rw [key]
  have e : (idx B).Perm ((List.range ts.length).filter fun k => (ts[k]?).any Tube.wide) := by
    refine (List.perm_ext_iff_of_nodup h.nd (List.nodup_range.filter _)).mpr fun k => ?_
    rw [List.mem_filter, List.mem_range]
    constructor
    · intro hk
      obtain ⟨b, hb, e⟩ := List.mem_map.mp hk
      obtain ⟨k', v, o⟩ := b
      obtain ⟨p, hp, hw, _⟩ := h.at_ k' v o hb
      have e' : k' = k := e
      subst e'
      refine ⟨(List.getElem?_eq_some_iff.mp hp).1, ?_⟩
      rw [hp]
      exact hw
    · rintro ⟨hk, hw⟩
      rw [List.getElem?_eq_getElem hk] at hw
      exact h.all k _ (List.getElem?_eq_getElem hk) hw
  rw [← e.length_eq]
  unfold idx
  rw [List.length_map]
theorem BrsOf.conn {ts : List Tube} {B : List Br} (h : BrsOf ts B) (x y : Nat) : Conn (BE B) x y ↔ Conn (OEdge ts none) x y := by
  constructor
  · intro c
    induction c with
    | refl => exact .refl
    | @step a b _ e ih =>
      refine ih.step ?_
      rcases e with ⟨k, hk⟩ | ⟨k, hk⟩ <;> obtain ⟨p, hp, hw, ⟨rfl, rfl⟩ | ⟨rfl, rfl⟩⟩ := h.at_ _ _ _ hk
      · exact .inl (edge_of hp hw (by simp))
      · exact .inr (edge_of hp hw (by simp))
      · exact .inr (edge_of hp hw (by simp))
      · exact .inl (edge_of hp hw (by simp))
  · intro c
    induction c with
    | refl => exact .refl
    | @step a b _ e ih =>
      refine ih.step ?_
      have key : ∀ u w, OEdge ts none u w → BE B u w ∨ BE B w u := by
        rintro u w ⟨k, p, hp, hw, _, rfl, rfl⟩
        obtain ⟨bb, hb, e⟩ := List.mem_map.mp (h.all k p hp hw)
        obtain ⟨k', v, o⟩ := bb
        obtain ⟨p', hp', _, he⟩ := h.at_ k' v o hb
        have e' : k' = k := e
        subst e'
        have : p' = p := Option.some.inj (hp'.symm.trans hp)
        subst this
        rcases he with ⟨rfl, rfl⟩ | ⟨rfl, rfl⟩
        · exact .inl ⟨_, hb⟩
        · exact .inr ⟨_, hb⟩
      rcases e with e | e
      · exact key _ _ e
      · exact (key _ _ e).symm
/-! ### stems -/
structure Stems (B : List Br) (n : Nat) (st : List Nat) : Prop where
  len : st.length = n
  lt : ∀ x, x < n → st.getD x 0 < n
  con : ∀ x y, x < n → y < n → (Conn (BE B) x y ↔ st.getD x 0 = st.getD y 0)
  idem : ∀ x, x < n → st.getD (st.getD x 0) 0 = st.getD x 0
  fix : ∀ x, x < n → (st.getD x 0 = x ↔ ∀ b ∈ B, b.2.1 ≠ x)
theorem range_getD {n x : Nat} (h : x < n) : (List.range n).getD x 0 = x := by
  rw [List.getD_eq_getElem?_getD, List.getElem?_range h]
  rfl
theorem Stems.nil (n : Nat) : Stems [] n (List.range n) := by
  refine ⟨List.length_range, fun x hx => by rw [range_getD hx]; exact hx, fun x y hx hy => ?_, fun x hx => by rw [range_getD hx, range_getD hx], fun x hx => ⟨fun _ b hb => absurd hb List.not_mem_nil, fun _ => range_getD hx⟩⟩
  rw [range_getD hx, range_getD hy]
  constructor
  · intro c
    refine (c.closed (S := fun z => z = x) rfl fun u w hu e => ?_).symm
    rcases e with ⟨k, hk⟩ | ⟨k, hk⟩ <;> cases hk
  · rintro rfl
    exact .refl
theorem set_getD {l : List Nat} {v x a : Nat} (hv : v < l.length) : (l.set v a).getD x 0 = if x = v then a else l.getD x 0 := by
  rw [List.getD_eq_getElem?_getD, List.getD_eq_getElem?_getD]
  by_cases e : x = v
  · subst e
    rw [List.getElem?_set_self hv, if_pos rfl]
    rfl
  · rw [List.getElem?_set_ne (Ne.symm e), if_neg e]
theorem Stems.cons {B : List Br} {n : Nat} {st : List Nat} {k v o : Nat} (h : Stems B n st) (hv : v < n) (ho : o < n) (hvo : v ≠ o) (hB : ∀ b ∈ B, b.2.1 ≠ v ∧ b.2.2 ≠ v) : Stems ((k, v, o) :: B) n (st.set v (st.getD o 0)) := by
  have lone : ∀ y, Conn (BE B) v y → y = v := fun y c => c.closed (S := fun z => z = v) rfl fun a b ha e => by
    subst ha
    rcases e with ⟨j, hj⟩ | ⟨j, hj⟩
    · exact absurd rfl (hB _ hj).1
    · exact absurd rfl (hB _ hj).2
  have fv : st.getD v 0 = v := (h.fix v hv).mpr fun b hb => (hB b hb).1
  have get : ∀ x, (st.set v (st.getD o 0)).getD x 0 = if x = v then st.getD o 0 else st.getD x 0 := fun x => set_getD (by rw [h.len]; exact hv)
  have eE : ∀ x y, Conn (BE ((k, v, o) :: B)) x y ↔ Conn (BE B) x y ∨ (Conn (BE B) x v ∧ Conn (BE B) o y) ∨ (Conn (BE B) x o ∧ Conn (BE B) v y) := by
    intro x y
    have e : BE ((k, v, o) :: B) = fun x y => BE B x y ∨ (x = v ∧ y = o) := by
      funext a b
      refine propext ⟨fun ⟨j, hj⟩ => ?_, fun z => ?_⟩
      · rcases List.mem_cons.mp hj with e | e
        · injection e with _ e
          injection e with e1 e2
          exact .inr ⟨e1, e2⟩
        · exact .inl ⟨j, e⟩
      · rcases z with ⟨j, hj⟩ | ⟨rfl, rfl⟩
        · exact ⟨j, List.mem_cons_of_mem _ hj⟩
        · exact ⟨k, List.mem_cons_self⟩
    rw [e]
    have up : ∀ {a b}, Conn (BE B) a b → Conn (fun x y => BE B x y ∨ (x = v ∧ y = o)) a b := fun c => c.mono fun _ _ z => .inl z
    refine ⟨fun c => c.add, fun z => ?_⟩
    rcases z with z | ⟨z1, z2⟩ | ⟨z1, z2⟩
    · exact up z
    · exact ((up z1).step (.inl (.inr ⟨rfl, rfl⟩))).trans (up z2)
    · exact ((up z1).step (.inr (.inr ⟨rfl, rfl⟩))).trans (up z2)
  have stv : ∀ x, x < n → st.getD x 0 = v → x = v := fun x hx e => by
    have := (h.con v x hv hx).mpr (by rw [fv, e])
    exact lone x this
  refine ⟨by rw [List.length_set]; exact h.len, fun x hx => ?_, fun x y hx hy => ?_, fun x hx => ?_, fun x hx => ?_⟩
  · rw [get]
    split
    · exact h.lt o ho
    · exact h.lt x hx
  · rw [get, get, eE]
    by_cases x1 : x = v
    · subst x1
      rw [if_pos rfl]
      by_cases y1 : y = x
      · subst y1
        rw [if_pos rfl]
        exact ⟨fun _ => rfl, fun _ => .inl .refl⟩
      · rw [if_neg y1]
        constructor
        · rintro (c | ⟨_, c⟩ | ⟨c, _⟩)
          · exact absurd (lone y c) y1
          · exact (h.con o y ho hy).mp c
          · exact absurd (lone o c).symm hvo
        · intro e
          exact .inr (.inl ⟨.refl, (h.con o y ho hy).mpr e⟩)
    · rw [if_neg x1]
      by_cases y1 : y = v
      · subst y1
        rw [if_pos rfl]
        constructor
        · rintro (c | ⟨c, _⟩ | ⟨c, _⟩)
          · exact absurd (lone x c.symm) x1
          · exact absurd (lone x c.symm) x1
          · exact (h.con x o hx ho).mp c
        · intro e
          exact .inr (.inr ⟨(h.con x o hx ho).mpr e, .refl⟩)
      · rw [if_neg y1, ← h.con x y hx hy]
        constructor
        · rintro (c | ⟨c, _⟩ | ⟨_, c⟩)
          · exact c
          · exact absurd (lone x c.symm) x1
          · exact absurd (lone y c) y1
        · exact fun c => .inl c
  · have hso : st.getD o 0 ≠ v := fun e => hvo (stv o ho e).symm
    rw [get x]
    by_cases x1 : x = v
    · rw [if_pos x1, get, if_neg hso]
      exact h.idem o ho
    · rw [if_neg x1, get, if_neg fun e => x1 (stv x hx e)]
      exact h.idem x hx
  · rw [get]
    by_cases x1 : x = v
    · subst x1
      rw [if_pos rfl]
      exact ⟨fun e => absurd (stv o ho e).symm hvo, fun e => absurd rfl (e _ List.mem_cons_self)⟩
    · rw [if_neg x1, h.fix x hx]
      constructor
      · intro e b hb
        rcases List.mem_cons.mp hb with rfl | hb
        · exact fun z => x1 z.symm
        · exact e b hb
      · exact fun e b hb => e b (List.mem_cons_of_mem _ hb)
end Wc
namespace Wc
open PySem PySem.Spec PyProof.Rows L2
/-! ### the numbers of open pipes, and of their indexes, place by place -/
noncomputable def mL (ts : List Tube) (R : Nat → Prop) (n : Nat) : List Int := (List.range n).map fun v => ((lft ts R v).length : Int)
noncomputable def kL (ts : List Tube) (R : Nat → Prop) (n : Nat) : List Int := (List.range n).map fun v => lsum (lft ts R v)
theorem map_get {n v : Nat} {f : Nat → Int} (h : v < n) : ((List.range n).map f)[v]? = some (f v) := by
  rw [List.getElem?_map, List.getElem?_range h]
  rfl
theorem map_set2 {n s t : Nat} {f g : Nat → Int} (hs : s < n) (ht : t < n) (hst : s ≠ t) (h : ∀ v, v ≠ s → v ≠ t → g v = f v) : (((List.range n).map f).set s (g s)).set t (g t) = (List.range n).map g := by
  refine List.ext_getElem? fun v => ?_
  by_cases hv : v < n
  · rw [map_get hv]
    by_cases h1 : v = t
    · subst h1
      rw [List.getElem?_set_self (by rw [List.length_set, List.length_map, List.length_range]; exact hv)]
    · rw [List.getElem?_set_ne (Ne.symm h1)]
      by_cases h2 : v = s
      · subst h2
        rw [List.getElem?_set_self (by rw [List.length_map, List.length_range]; exact hv)]
      · rw [List.getElem?_set_ne (Ne.symm h2), map_get hv, h v h2 h1]
  · rw [List.getElem?_eq_none (by rw [List.length_set, List.length_set, List.length_map, List.length_range]; omega), List.getElem?_eq_none (by rw [List.length_map, List.length_range]; omega)]
theorem not_tch {ts : List Tube} {i : Nat} {p : Tube} (hp : ts[i]? = some p) (h : ¬ (p.wide = true)) (v : Nat) : ¬ Tch ts v i := by
  rintro ⟨q, hq, hw, _⟩
  have : q = p := Option.some.inj (hq.symm.trans hp)
  subst this
  exact h hw
theorem lft_closed {ts : List Tube} {i : Nat} {p : Tube} (hp : ts[i]? = some p) (h : ¬ (p.wide = true)) (v : Nat) : lft ts (· < i + 1) v = lft ts (· < i) v := by
  rw [lft_step, if_neg (not_tch hp h v), List.append_nil]
theorem lft_other {ts : List Tube} {i : Nat} {p : Tube} (hp : ts[i]? = some p) {v : Nat} (h1 : v ≠ p.s) (h2 : v ≠ p.t) : lft ts (· < i + 1) v = lft ts (· < i) v := by
  rw [lft_step, if_neg, List.append_nil]
  rintro ⟨q, hq, _, he⟩
  have : q = p := Option.some.inj (hq.symm.trans hp)
  subst this
  rcases he with e | e <;> omega
theorem lft_end {ts : List Tube} {i : Nat} {p : Tube} (hp : ts[i]? = some p) (hw : p.wide = true) {v : Nat} (h : v = p.s ∨ v = p.t) : lft ts (· < i + 1) v = lft ts (· < i) v ++ [i] := by
  rw [lft_step, if_pos]
  exact ⟨p, hp, hw, by rcases h with rfl | rfl <;> simp⟩
theorem lsum_snoc (l : List Nat) (k : Nat) : lsum (l ++ [k]) = lsum l + k := by
  unfold lsum
  rw [List.map_append, List.sum_append]
  simp
theorem const_map (n : Nat) (f : Nat → Int) (h : ∀ v, f v = 0) : (List.range n).map f = List.replicate n 0 := by
  refine List.ext_getElem? fun v => ?_
  by_cases hv : v < n
  · rw [map_get hv, List.getElem?_replicate, if_pos hv, h]
  · rw [List.getElem?_eq_none (by rw [List.length_map, List.length_range]; omega), List.getElem?_eq_none (by rw [List.length_replicate]; omega)]
theorem lft_zero (ts : List Tube) (v : Nat) : lft ts (· < 0) v = [] := List.eq_nil_iff_forall_not_mem.mpr fun j hj => absurd (mem_lft.mp hj).2 (Nat.not_lt_zero j)
theorem mL_zero (ts : List Tube) (n : Nat) : mL ts (· < 0) n = List.replicate n 0 := const_map n _ fun v => by
  rw [lft_zero]
  rfl
theorem kL_zero (ts : List Tube) (n : Nat) : kL ts (· < 0) n = List.replicate n 0 := const_map n _ fun v => by
  rw [lft_zero]
  rfl
theorem mL_closed {ts : List Tube} {i n : Nat} {p : Tube} (hp : ts[i]? = some p) (h : ¬ (p.wide = true)) : mL ts (· < i + 1) n = mL ts (· < i) n ∧ kL ts (· < i + 1) n = kL ts (· < i) n := by
  unfold mL kL
  exact ⟨List.map_congr_left fun v _ => by rw [lft_closed hp h], List.map_congr_left fun v _ => by rw [lft_closed hp h]⟩
theorem mL_open {ts : List Tube} {i n : Nat} {p : Tube} (hp : ts[i]? = some p) (hw : p.wide = true) (hs : p.s < n) (ht : p.t < n) (hst : p.s ≠ p.t) :
    ((mL ts (· < i) n).set p.s (((lft ts (· < i) p.s).length : Int) + 1)).set p.t (((lft ts (· < i) p.t).length : Int) + 1) = mL ts (· < i + 1) n := by
  have e := map_set2 (f := fun v => ((lft ts (· < i) v).length : Int)) (g := fun v => ((lft ts (· < i + 1) v).length : Int)) hs ht hst fun v h1 h2 => by
    show ((lft ts (· < i + 1) v).length : Int) = _
    rw [lft_other hp h1 h2]
  simp only [lft_end hp hw (.inl rfl), lft_end hp hw (.inr rfl), List.length_append, List.length_singleton, Int.natCast_add, Int.natCast_one] at e
  exact e
theorem kL_open {ts : List Tube} {i n : Nat} {p : Tube} (hp : ts[i]? = some p) (hw : p.wide = true) (hs : p.s < n) (ht : p.t < n) (hst : p.s ≠ p.t) :
    ((kL ts (· < i) n).set p.s (lsum (lft ts (· < i) p.s) + i)).set p.t (lsum (lft ts (· < i) p.t) + i) = kL ts (· < i + 1) n := by
  have e := map_set2 (f := fun v => lsum (lft ts (· < i) v)) (g := fun v => lsum (lft ts (· < i + 1) v)) hs ht hst fun v h1 h2 => by
    show lsum (lft ts (· < i + 1) v) = _
    rw [lft_other hp h1 h2]
  simp only [lft_end hp hw (.inl rfl), lft_end hp hw (.inr rfl), lsum_snoc] at e
  exact e
theorem Peel.begin (ts : List Tube) (n : Nat) : Peel ts n (mL ts (· < ts.length) n) (kL ts (· < ts.length) n) [] := by
  have e : ∀ v, lft ts (· < ts.length) v = lft ts (· ∉ idx []) v := fun v => lft_congr fun k hk => by
    obtain ⟨p, hp, _⟩ := hk
    exact ⟨fun _ h => absurd h List.not_mem_nil, fun _ => (List.getElem?_eq_some_iff.mp hp).1⟩
  refine ⟨by unfold mL; rw [List.length_map, List.length_range], by unfold kL; rw [List.length_map, List.length_range], fun v hv => ?_, fun v hv _ => ?_, ⟨fun k v o h => absurd h List.not_mem_nil, List.nodup_nil, .nil⟩, fun b hb => absurd hb List.not_mem_nil⟩
  · unfold mL
    rw [map_get hv, e]
  · unfold kL
    rw [map_get hv, e]
theorem ixN_nat {n k : Nat} (h : k < n) : ixN n (k : Int) = some k := by
  unfold ixN
  rw [if_pos (by omega), if_pos (by omega)]
  rfl
theorem zeros_flat (n : Nat) : (List.replicate ((n : Int)).toNat [V.int 0]).flatten = (List.replicate n (0 : Int)).map V.int := by
  rw [Int.toNat_natCast]
  induction n with
  | zero => rfl
  | succ n ih =>
    rw [List.replicate_succ, List.flatten_cons, ih, List.replicate_succ]
    rfl
end Wc

set_option Elab.async false
set_option linter.all false
set_option maxRecDepth 100000
/-! Rules: is not True, chains of three, any of ints. -/
namespace Wc
open PySem PySem.Spec PyProof PyProof.Rows L2
def rNotT : R2 := fun x y H Q => ∃ b : Bool, y = .bl b ∧ Q (.bl (!decide (x = .bl b))) H
theorem op_notT {X : Cx} : OpR X (compareOp .IsNot) rNotT := by
  intro pins s σ H x y v u Q I rx ry h
  obtain ⟨b, rfl, q⟩ := h
  cases (show u = Value.bool b from ry)
  by_cases e : x = .bl b
  · subst e
    cases (show v = Value.bool b from rx)
    exact wpAny_isNot_self rfl ⟨.bl false, H, I, rfl, by simpa using q⟩
  · have hv : v ≠ Value.bool b ∧ plainIs v (Value.bool b) = true := by
      cases x with
      | bl a =>
        cases (show v = Value.bool a from rx)
        exact ⟨fun z => e (by rw [Value.bool.inj z]), rfl⟩
      | non =>
        cases (show v = Value.none from rx)
        exact ⟨nofun, rfl⟩
      | ref a =>
        cases (show v = Value.ref a from rx)
        exact ⟨nofun, rfl⟩
      | ty n =>
        cases (show v = Value.type n from rx)
        exact ⟨nofun, rfl⟩
      | int i =>
        obtain ⟨t, rfl⟩ := rx
        exact ⟨nofun, rfl⟩
      | str i =>
        obtain ⟨t, rfl⟩ := rx
        exact ⟨nofun, rfl⟩
      | byt i =>
        obtain ⟨t, rfl⟩ := rx
        exact ⟨nofun, rfl⟩
      | flt i =>
        obtain ⟨t, rfl⟩ := rx
        exact ⟨nofun, rfl⟩
    exact wpAny_isNot_other hv.2 hv.1 ⟨.bl true, H, I, rfl, by simpa [e] using q⟩
/-- a op1 b op2 c op3 d -/
def tChain3 (r r' r2 : R2) (ta tb tc td : TE) : TE := fun σ H Q => ta σ H fun x H1 => tb σ H1 fun y H2 => r x y H2 fun z H3 => ∃ k, z = .bl k ∧
  (if k = true then tc σ H3 fun w' H4 => r' y w' H4 fun z' H5 => ∃ k', z' = .bl k' ∧ (if k' = true then td σ H5 fun w2 H6 => r2 w' w2 H6 Q else Q (.bl false) H5) else Q (.bl false) H3)
theorem pe_chain3 {X : Cx} {a b c d : Expr} {ta tb tc td : TE} {pos : Pos} {op op' op2 : CmpOp} {r r' r2 : R2} (ho : OpR X (compareOp op) r) (ho' : OpR X (compareOp op') r') (ho2 : OpR X (compareOp op2) r2) (ha : PE X a ta) (hb : PE X b tb) (hc : PE X c tc) (hd : PE X d td)
    (hm : lastMarks [op, op', op2] [b, c, d] = false := by with_unfolding_all rfl) : PE X (.Compare a [op, op', op2] [b, c, d] pos) (tChain3 r r' r2 ta tb tc td) := by
  refine ⟨fun pins s σ H Q I h => ?_⟩
  refine Compare_chain (thn (ha.run pins s σ H _ I h) fun v s1 ⟨x, H1, I1, rr1, q1⟩ => chain_link (thn (hb.run pins s1 σ H1 _ I1 q1) fun u s2 ⟨y, H2, I2, rr2, q2⟩ =>
    thn (ho pins s2 σ H2 x y v u _ I2 rr1 rr2 q2) fun d s3 ⟨z, H3, I3, r3, k, e, q3⟩ => ?_)) hm
  subst e
  cases r3
  refine wpAny_truthy_bool ?_
  cases k with
  | false => exact ite_ff ⟨.bl false, H3, I3, rfl, q3⟩
  | true =>
    refine ite_tt (chain_link (thn (hc.run pins s3 σ H3 _ I3 q3) fun w' s4 ⟨z', H4, I4, r4, q4⟩ => thn (ho' pins s4 σ H4 y z' u w' _ I4 rr2 r4 q4) fun d' s5 ⟨z5, H5, I5, r5, k5, e5, q5⟩ => ?_))
    subst e5
    cases r5
    refine wpAny_truthy_bool ?_
    cases k5 with
    | false => exact ite_ff ⟨.bl false, H5, I5, rfl, q5⟩
    | true => exact ite_tt (chain_last (thn (hd.run pins s5 σ H5 _ I5 q5) fun w6 s6 ⟨z6, H6, I6, r6, q6⟩ => ho2 pins s6 σ H6 z' z6 w' w6 Q I6 r4 r6 q6))
/-- any of a list of ints, all of them 0 -/
def rAny0 (K : PySem.W.Frag) : List V → Hp → VK → Prop := fun vs H Q => ∃ (a : Addr) (ns : List Int), vs = [V.ref a] ∧ SqL K H a (ns.map V.int) ∧ Q (.bl (ns.any fun i => i != 0)) H
end Wc
namespace Wc
open PySem PySem.Spec PyProof PyProof.Rows L2
theorem truth_ints {prog : Program} {w : World} {A : Around} {ns : List Int} {its : List Value} (e : Vals (ns.map V.int) its) :
    TruthOf prog w A (fun i v => its.toArray[i]? = some v) (fun i => (ns.map fun i => i != 0).getD i false) := fun i v s Q E hv hq => by
  have hv' : its[i]? = some v := by simpa using hv
  have hl : i < (ns.map V.int).length := by
    have h1 := e.length
    have h2 := (List.getElem?_eq_some_iff.mp hv').1
    omega
  obtain ⟨u, hu, ru⟩ := e.get (List.getElem?_eq_getElem hl)
  have eu : u = v := Option.some.inj (hu.symm.trans hv')
  subst eu
  rw [List.getElem_map] at ru
  obtain ⟨t, rfl⟩ := ru
  rw [List.length_map] at hl
  have hg : (ns.map fun i => i != 0).getD i false = (ns[i] != 0) := by
    rw [List.getD_eq_getElem?_getD, List.getElem?_map, List.getElem?_eq_getElem hl]
    rfl
  have hq' : Q ((ns.map fun i => i != 0).getD i false) s := hq
  rw [hg] at hq'
  exact PyProof.Rows.truthy_int hq'
theorem cr_anyI {X : Cx} (hc : X.calm = true) : CallR X (.builtin "any") (rAny0 X.K) := by
  intro pins s σ H vs us Q I r h
  obtain ⟨a, ns, rfl, hs, q⟩ := h
  obtain ⟨its, rv, hl, _⟩ := I.list hs
  rw [Vals.ref1 r]
  refine call_any_walk (iter_any hl.isList fun s₂ e2 st hne => ?_)
  subst e2
  refine ⟨_, _, _, _, _, _, _, rfl, Walks.list (A := X.A.in1) (I.ok.hd hc) _ a hne its.toArray, st, truth_ints rv, fun h' tk hk => ?_⟩
  refine ⟨.bl _, H, I.kept fun b o eo => hk b o (fun hmem => ?_) (Heap.get?_push_of_some _ eo), ?_, q⟩
  · rcases List.mem_cons.mp hmem with e1 | hmem
    · exact absurd (e1 ▸ Heap.lt_size eo) (Nat.lt_irrefl _)
    · cases hmem
  · show Value.bool _ = Value.bool _
    have h1 := any_range (ns.map fun i => i != 0)
    rw [List.length_map, List.any_map] at h1
    have hlen : its.toArray.size = ns.length := by rw [List.size_toArray, ← rv.length, List.length_map]
    rw [hlen, h1]
    rfl
end Wc

set_option Elab.async false
set_option linter.all false
set_option maxRecDepth 100000
/-! The members of groups, collected place by place in a dict of lists. -/
namespace Wc
open PySem PySem.Spec PyProof.Rows L2
def kvG (st : List Nat) (G : List (Nat × Addr)) : List (Key × V) := G.map fun g => ((Sum.inl ((st.getD g.1 0 : Nat) : Int) : Key), V.ref g.2)
theorem valV_G_some {st : List Nat} {G : List (Nat × Addr)} {g : Nat × Addr} (hg : g ∈ G) (hu : ∀ g' ∈ G, st.getD g'.1 0 = st.getD g.1 0 → g' = g) : valV (kvG st G) (.inl ((st.getD g.1 0 : Nat) : Int)) = some (.ref g.2) := by
  induction G with
  | nil => exact absurd hg List.not_mem_nil
  | cons x G ih =>
    by_cases e : st.getD x.1 0 = st.getD g.1 0
    · have ex := hu x List.mem_cons_self e
      subst ex
      exact valV_pos (p := ((Sum.inl ((st.getD x.1 0 : Nat) : Int) : Key), V.ref x.2)) rfl
    · have hne : ¬ (Sum.inl ((st.getD x.1 0 : Nat) : Int) : Key) = Sum.inl ((st.getD g.1 0 : Nat) : Int) := fun z => e (by have := Sum.inl.inj z; omega)
      show valV (((Sum.inl ((st.getD x.1 0 : Nat) : Int) : Key), V.ref x.2) :: kvG st G) _ = _
      rw [valV_neg (p := ((Sum.inl ((st.getD x.1 0 : Nat) : Int) : Key), V.ref x.2)) hne]
      refine ih ?_ fun g' h' => hu g' (List.mem_cons_of_mem _ h')
      rcases List.mem_cons.mp hg with z | z
      · exact absurd (by rw [z]) e
      · exact z
theorem valV_G_none {st : List Nat} {G : List (Nat × Addr)} {s : Nat} (h : ∀ g ∈ G, st.getD g.1 0 ≠ s) : valV (kvG st G) (.inl (s : Int)) = none := by
  induction G with
  | nil => rfl
  | cons x G ih =>
    have hne : ¬ (Sum.inl ((st.getD x.1 0 : Nat) : Int) : Key) = Sum.inl (s : Int) := fun z => h x List.mem_cons_self (by have := Sum.inl.inj z; omega)
    show valV (((Sum.inl ((st.getD x.1 0 : Nat) : Int) : Key), V.ref x.2) :: kvG st G) _ = _
    rw [valV_neg (p := ((Sum.inl ((st.getD x.1 0 : Nat) : Int) : Key), V.ref x.2)) hne]
    exact ih fun g hg => h g (List.mem_cons_of_mem _ hg)
open Classical in
theorem compf_step {E : Nat → Nat → Prop} {n f i : Nat} (hi : i < n) :
    (comp E n f).filter (fun x => decide (x < i + 1)) = (comp E n f).filter (fun x => decide (x < i)) ++ (if Conn E f i then [i] else []) := by
  refine sorted_ext (List.Pairwise.filter _ (comp_sorted E n f)) ?_ fun x => ?_
  · refine List.pairwise_append.mpr ⟨List.Pairwise.filter _ (comp_sorted E n f), ?_, fun a ha b hb => ?_⟩
    · split <;> simp
    · rw [List.mem_filter] at ha
      have := of_decide_eq_true ha.2
      split at hb
      · have : b = i := by simpa using hb
        omega
      · exact absurd hb List.not_mem_nil
  · rw [List.mem_filter, List.mem_append, List.mem_filter, mem_comp]
    simp only [decide_eq_true_eq]
    constructor
    · rintro ⟨h1, h2⟩
      by_cases e : x = i
      · subst e
        exact .inr (by rw [if_pos h1.2]; simp)
      · exact .inl ⟨h1, by omega⟩
    · rintro (⟨h1, h2⟩ | h)
      · exact ⟨h1, by omega⟩
      · split at h
        · have e : x = i := by simpa using h
          subst e
          exact ⟨⟨hi, by assumption⟩, by omega⟩
        · exact absurd h List.not_mem_nil
structure GAt (n : Nat) (E : Nat → Nat → Prop) (H0 H : Hp) (sd dd : Addr) (i : Nat) (G : List (Nat × Addr)) : Prop where
  fs : G.map (·.1) = (firsts E n).filter (fun x => decide (x < i))
  nd : (G.map (·.2)).Nodup
  at_ : ∀ g ∈ G, H g.2 = some (.lst (((comp E n g.1).filter (fun x => decide (x < i))).map natV)) ∧ H0 g.2 = none ∧ g.2 ≠ sd ∧ g.2 ≠ dd
section
variable {n i : Nat} {E : Nat → Nat → Prop} {H0 H H' : Hp} {sd dd : Addr} {G : List (Nat × Addr)} {st : List Nat}
theorem GAt.mem (h : GAt n E H0 H sd dd i G) {g : Nat × Addr} (hg : g ∈ G) : g.1 ∈ firsts E n ∧ g.1 < i ∧ g.1 < n := by
  have : g.1 ∈ (firsts E n).filter (fun x => decide (x < i)) := h.fs ▸ List.mem_map.mpr ⟨g, hg, rfl⟩
  rw [List.mem_filter, decide_eq_true_eq] at this
  exact ⟨this.1, this.2, (mem_firsts.mp this.1).1⟩
theorem nodup_map_inj {α β : Type} {f : α → β} : ∀ {l : List α}, (l.map f).Nodup → ∀ {x y : α}, x ∈ l → y ∈ l → f x = f y → x = y
  | [], _, _, _, hx, _, _ => absurd hx List.not_mem_nil
  | a :: l, h, x, y, hx, hy, e => by
    rw [List.map_cons] at h
    have h2 := List.nodup_cons.mp h
    rcases List.mem_cons.mp hx with ex | hx <;> rcases List.mem_cons.mp hy with ey | hy
    · rw [ex, ey]
    · exact absurd (List.mem_map.mpr ⟨y, hy, by rw [← e, ex]⟩) h2.1
    · exact absurd (List.mem_map.mpr ⟨x, hx, by rw [e, ey]⟩) h2.1
    · exact nodup_map_inj h2.2 hx hy e
theorem GAt.uniq (h : GAt n E H0 H sd dd i G) (hs : ∀ x y, x < n → y < n → (Conn E x y ↔ st.getD x 0 = st.getD y 0)) {g g' : Nat × Addr} (hg : g ∈ G) (hg' : g' ∈ G) (e : st.getD g'.1 0 = st.getD g.1 0) : g' = g := by
  have m := h.mem hg
  have m' := h.mem hg'
  have c := (hs g'.1 g.1 m'.2.2 m.2.2).mpr e
  have e1 : g'.1 = g.1 := by
    have a := (mem_firsts.mp m.1).2
    have b := (mem_firsts.mp m'.1).2
    by_cases z : g'.1 < g.1
    · exact absurd c.symm (a _ z)
    · by_cases z2 : g.1 < g'.1
      · exact absurd c (b _ z2)
      · omega
  have nd : (G.map (·.1)).Nodup := by
    rw [h.fs]
    exact ((firsts_sorted E n).filter _).imp fun h => Nat.ne_of_lt h
  exact nodup_map_inj nd hg' hg e1
theorem GAt.len (h : GAt n E H0 H sd dd i G) : G.length ≤ n := by
  have e := congrArg List.length h.fs
  rw [List.length_map] at e
  have h1 := List.length_filter_le (fun x => decide (x < i)) (firsts E n)
  have h2 : (firsts E n).length ≤ (List.range n).length := List.length_filter_le _ _
  rw [List.length_range] at h2
  omega
theorem GAt.old (h : GAt n E H0 H sd dd i G) (hs : ∀ x y, x < n → y < n → (Conn E x y ↔ st.getD x 0 = st.getD y 0)) (hi : i < n) {g : Nat × Addr} (hg : g ∈ G) (e : st.getD g.1 0 = st.getD i 0)
    (h1 : H' g.2 = some (.lst (((comp E n g.1).filter (fun x => decide (x < i))).map natV ++ [natV i]))) (h2 : ∀ a xs, a ≠ g.2 → a ≠ sd → a ≠ dd → H0 a = none → H a = some (.lst xs) → H' a = some (.lst xs)) : GAt n E H0 H' sd dd (i + 1) G := by
  have m := h.mem hg
  have c := (hs g.1 i m.2.2 hi).mpr e
  refine ⟨?_, h.nd, fun g' hg' => ?_⟩
  · rw [firsts_step hi, if_neg (fun z => (mem_firsts.mp z).2 _ m.2.1 c.symm), List.append_nil]
    exact h.fs
  · obtain ⟨a1, a2, a3, a4⟩ := h.at_ g' hg'
    refine ⟨?_, a2, a3, a4⟩
    rw [compf_step hi]
    by_cases z : g' = g
    · subst z
      rw [if_pos c, h1, List.map_append]
      rfl
    · have nc : ¬ Conn E g'.1 i := fun c' => z (h.uniq hs hg hg' (((hs _ _ (h.mem hg').2.2 hi).mp c').trans e.symm))
      rw [if_neg nc, List.append_nil]
      exact h2 _ _ (fun q => z (nodup_map_inj h.nd hg' hg q)) a3 a4 a2 a1
theorem GAt.first (h : GAt n E H0 H sd dd i G) (hE : ∀ x y, E x y → x < n ∧ y < n) (hs : ∀ x y, x < n → y < n → (Conn E x y ↔ st.getD x 0 = st.getD y 0)) (hi : i < n) (hnone : ∀ g ∈ G, st.getD g.1 0 ≠ st.getD i 0) : i ∈ firsts E n := by
  refine mem_firsts.mpr ⟨hi, fun y hy c => ?_⟩
  obtain ⟨f, h1, h2, h3⟩ := exists_first (E := E) y
  have hf : f ∈ (firsts E n).filter (fun x => decide (x < i)) := by
    rw [List.mem_filter, decide_eq_true_eq]
    exact ⟨mem_firsts.mpr ⟨by omega, h3⟩, by omega⟩
  rw [← h.fs] at hf
  obtain ⟨g, hg, rfl⟩ := List.mem_map.mp hf
  exact hnone g hg ((hs _ _ (h.mem hg).2.2 hi).mp (c.trans h2).symm)
theorem GAt.new (h : GAt n E H0 H sd dd i G) (hi : i < n) (hf : i ∈ firsts E n) {p : Addr} (hp : H0 p = none) (n1 : p ≠ sd) (n2 : p ≠ dd) (n3 : H p = none)
    (h1 : H' p = some (.lst [natV i])) (h2 : ∀ a xs, a ≠ p → a ≠ sd → a ≠ dd → H0 a = none → H a = some (.lst xs) → H' a = some (.lst xs)) : GAt n E H0 H' sd dd (i + 1) (G ++ [(i, p)]) := by
  have np : ∀ g ∈ G, g.2 ≠ p := fun g hg z => by
    have := (h.at_ g hg).1
    rw [z, n3] at this
    cases this
  refine ⟨?_, ?_, fun g' hg' => ?_⟩
  · rw [firsts_step hi, if_pos hf, List.map_append, h.fs]
    rfl
  · rw [List.map_append]
    refine List.nodup_append.mpr ⟨h.nd, by simp, fun a ha b hb => ?_⟩
    obtain ⟨g, hg, rfl⟩ := List.mem_map.mp ha
    have : b = p := by simpa using hb
    rw [this]
    exact np g hg
  · rcases List.mem_append.mp hg' with z | z
    · obtain ⟨a1, a2, a3, a4⟩ := h.at_ g' z
      refine ⟨?_, a2, a3, a4⟩
      have nc : ¬ Conn E g'.1 i := fun c => (mem_firsts.mp hf).2 _ (h.mem z).2.1 c.symm
      rw [compf_step hi, if_neg nc, List.append_nil]
      exact h2 _ _ (np g' z) a3 a4 a2 a1
    · have e : g' = (i, p) := by simpa using z
      subst e
      refine ⟨?_, hp, n1, n2⟩
      have e0 : (comp E n i).filter (fun x => decide (x < i)) = [] := List.filter_eq_nil_iff.mpr fun x hx z => (mem_firsts.mp hf).2 x (of_decide_eq_true z) (mem_comp.mp hx).2
      show H' p = some (.lst (((comp E n i).filter (fun x => decide (x < i + 1))).map natV))
      rw [compf_step hi, e0, if_pos .refl]
      exact h1
end
end Wc

set_option Elab.async false
set_option linter.all false
set_option maxRecDepth 100000
namespace Wc
open PySem PySem.Spec PyProof.Rows L2
def top (i : Nat) : Stmt := PySem.Challenge.pw_wrapcount_k05_bounds_and_excess.main.body.getD i (.Pass ⟨0, 0, 0, 0⟩)
theorem ty_bool {K : PySem.W.Frag} {H : Hp} {v : V} (h : TyX K H v (.type "bool")) : ∃ b, v = .bl b := by
  generalize e : Value.type "bool" = t at h
  cases h with
  | base b => cases b <;> first | exact ⟨_, rfl⟩ | (injection e with e; exact absurd e (by decide)) | cases e
  | _ => injection e with e; exact absurd e (by decide)
section
variable {P : Program} {w : World} {K : PySem.W.Frag} {mg : Str → Option Value} {base : Heap}
abbrev s_is_integer : Stmt := top 12
theorem sc_is_integer : FnScope ["value"] ["value"] (defScope s_is_integer) := ⟨rfl, rfl, rfl, by decide +kernel, rfl, by decide +kernel, by decide +kernel⟩
def sp_is_integer (K : PySem.W.Frag) : Sp := fun vs H Q _ => ∃ (v : V), vs = [v] ∧ ((∃ i : Int, v = .int i ∧ Q (.bl true) H) ∨ (NotInt K H v ∧ (∀ i : Int, v ≠ .int i) ∧ Q (.bl false) H))
theorem has_is_integer (D : DefAt K mg "is_integer" s_is_integer ["value"]) (T : Blt mg) : Has P w K mg base "is_integer" 1 ["value"] (sp_is_integer K) := by
  refine D.ok sc_is_integer (fun vs H Q E h => ?_) (fun f cdv A outer s H vs Q E hr h => ?_)
  · obtain ⟨v, rfl, _⟩ := h
    rfl
  · obtain ⟨v, rfl, h⟩ := h
    refine ⟨_, (pss_one (ps_ret (pe_and (pe_callB call_isi (by rfl) T.b_isinstance (by decide +kernel) (pa_cons (pv 0) (pa_cons (pe_bltn (v := .ty "int") (by rfl) T.b_int (by decide +kernel) rfl) pa_nil))) (pe_and (pe_cmpR op_notT (pv 0) pe_bl (nomark _)) (pe_one (pe_cmpR op_notT (pv 0) pe_bl (nomark _))))))), ?_⟩
    rcases h with ⟨i, rfl, q⟩ | ⟨⟨t, ty, ht⟩, hni, q⟩
    · refine ⟨_, rfl, _, _, .type "int", _, true, rfl, .ty _, .base (.int i), kit_ty (by decide +kernel), true, rfl, iteT ?_⟩
      refine ⟨_, rfl, true, rfl, true, rfl, iteT ?_⟩
      exact ⟨_, rfl, false, rfl, q⟩
    · by_cases hb : t = "bool"
      · subst hb
        obtain ⟨b, rfl⟩ := ty_bool ty
        refine ⟨_, rfl, _, _, .type "bool", _, true, rfl, .ty _, ty, kit_ty (by decide +kernel), true, rfl, iteT ?_⟩
        cases b with
        | true => exact ⟨_, rfl, true, rfl, false, rfl, iteF q⟩
        | false =>
          refine ⟨_, rfl, true, rfl, true, rfl, iteT ?_⟩
          exact ⟨_, rfl, false, rfl, q⟩
      · refine ⟨_, rfl, _, _, .type t, _, false, rfl, .ty _, ty, ?_, false, rfl, iteF q⟩
        rcases ht with rfl | rfl | rfl | rfl | rfl | rfl <;> first | exact kit_ty (by decide +kernel) | exact absurd rfl hb
abbrev s_is_between : Stmt := top 13
theorem sc_is_between : FnScope ["value", "low", "high"] ["value", "low", "high"] (defScope s_is_between) := ⟨rfl, rfl, rfl, by decide +kernel, rfl, by decide +kernel, by decide +kernel⟩
def sp_is_between (K : PySem.W.Frag) : Sp := fun vs H Q _ => ∃ (v : V) (lo hi : Int), vs = [v, .int lo, .int hi] ∧ ((∃ i : Int, v = .int i ∧ Q (.bl (decide (lo ≤ i) && decide (i ≤ hi))) H) ∨ (NotInt K H v ∧ (∀ i : Int, v ≠ .int i) ∧ Q (.bl false) H))
theorem has_is_between (D : DefAt K mg "is_between" s_is_between ["value", "low", "high"]) (T : Blt mg) (h_is_integer : Has P w K mg base "is_integer" 1 ["value"] (sp_is_integer K)) : Has P w K mg base "is_between" 2 ["value", "low", "high"] (sp_is_between K) := by
  refine D.ok sc_is_between (fun vs H Q E h => ?_) (fun f cdv A outer s H vs Q E hr h => ?_)
  · obtain ⟨v, lo, hi, rfl, _⟩ := h
    rfl
  · obtain ⟨v, lo, hi, rfl, h⟩ := h
    refine ⟨_, (pss_one (ps_ret (pe_and (pe_own h_is_integer (hr.mono (by decide)) (by rfl) (pa_cons (pv 0) pa_nil)) (pe_one (pe_chain op_le op_le (pv 1) (pv 0) (pv 2)))))), ?_⟩
    rcases h with ⟨i, rfl, q⟩ | ⟨ni, hni, q⟩
    · refine ⟨_, rfl, _, rfl, .inl ⟨i, rfl, true, rfl, iteT ?_⟩⟩
      refine ⟨_, rfl, _, rfl, _, _, rfl, rfl, _, rfl, ite2 (fun e => ?_) (fun e => ?_)⟩
      · refine ⟨_, rfl, _, _, rfl, rfl, ?_⟩
        rw [e, Bool.true_and] at q
        exact q
      · rw [Bool.not_eq_true] at e
        rw [e, Bool.false_and] at q
        exact q
    · exact ⟨_, rfl, _, rfl, .inr ⟨ni, hni, false, rfl, iteF q⟩⟩
def sp_is_open_pipe (K : PySem.W.Frag) : Sp := fun vs H Q _ => ∃ (v : V) (p : Tube), vs = [v] ∧ TubeAt K H v p ∧ Q (.bl p.wide) H
theorem optV_non (o : Option Int) : decide (optV o = V.non) = o.isNone := by
  cases o with
  | none => rfl
  | some i => rfl
abbrev s_is_pipe : Stmt := top 14
theorem sc_is_pipe : FnScope ["value", "modulus", "places", "source", "target", "low", "high", "meter"] ["value", "modulus", "places"] (defScope s_is_pipe) := ⟨rfl, rfl, rfl, by decide +kernel, rfl, by decide +kernel, by decide +kernel⟩
def sp_is_pipe (K : PySem.W.Frag) : Sp := fun vs H Q _ => ∃ (v : V) (b : Int) (n : Nat) (p : Tube), vs = [v, .int b, .int n] ∧ TubeAt K H v p ∧ TubeOk b n p ∧ Q (.bl true) H
theorem has_is_pipe (D : DefAt K mg "is_pipe" s_is_pipe ["value", "modulus", "places"]) (T : Blt mg) (C : Cst mg) :
    Has P w K mg base "is_pipe" 1 ["value", "modulus", "places"] (sp_is_pipe K) := by
  refine D.ok sc_is_pipe (fun vs H Q E h => ?_) (fun f cdv A outer s H vs Q E hr h => ?_)
  · obtain ⟨v, b, n, p, rfl, _⟩ := h
    rfl
  · obtain ⟨v, b, n, p, rfl, ⟨a, rfl, hp⟩, ok, q⟩ := h
    refine ⟨_, (pss_cons (ps_if (PW.pt (pw_or (pt_not (pt_val (pe_callB call_isi (by rfl) T.b_isinstance (by decide +kernel) (pa_cons (pv 0) (pa_cons (pe_bltn (v := .ty "tuple") (by rfl) T.b_tuple (by decide +kernel) rfl) pa_nil))))) (pw_or1 (pt_cmpR op_ne (pe_callB call_len_seq (by rfl) T.b_len (by decide +kernel) (pa_cons (pv 0) pa_nil)) pe_int (nomark _))))) (pss_one (ps_ret pe_bl)) pss_nil)
      (pss_cons (ps_asg (pv 0) (pg_tup rfl (pgs_cons (pg_name (i := 3) sc_is_pipe.nd rfl (.inl rfl)) (pgs_cons (pg_name (i := 4) sc_is_pipe.nd rfl (.inl rfl)) (pgs_cons (pg_name (i := 5) sc_is_pipe.nd rfl (.inl rfl)) (pgs_cons (pg_name (i := 6) sc_is_pipe.nd rfl (.inl rfl)) (pgs_cons (pg_name (i := 7) sc_is_pipe.nd rfl (.inl rfl)) pgs_nil)))))))
      (pss_one (ps_ret (pe_and (pe_callB call_isi (by rfl) T.b_isinstance (by decide +kernel) (pa_cons (pv 3) (pa_cons (pe_bltn (v := .ty "int") (by rfl) T.b_int (by decide +kernel) rfl) pa_nil))) (pe_and (pe_cmpR op_notT (pv 3) pe_bl (nomark _)) (pe_and (pe_cmpR op_notT (pv 3) pe_bl (nomark _)) (pe_and (pe_callB call_isi (by rfl) T.b_isinstance (by decide +kernel) (pa_cons (pv 4) (pa_cons (pe_bltn (v := .ty "int") (by rfl) T.b_int (by decide +kernel) rfl) pa_nil))) (pe_and (pe_cmpR op_notT (pv 4) pe_bl (nomark _)) (pe_and (pe_cmpR op_notT (pv 4) pe_bl (nomark _)) (pe_and (pe_callB call_isi (by rfl) T.b_isinstance (by decide +kernel) (pa_cons (pv 5) (pa_cons (pe_bltn (v := .ty "int") (by rfl) T.b_int (by decide +kernel) rfl) pa_nil))) (pe_and (pe_cmpR op_notT (pv 5) pe_bl (nomark _)) (pe_and (pe_cmpR op_notT (pv 5) pe_bl (nomark _)) (pe_and (pe_callB call_isi (by rfl) T.b_isinstance (by decide +kernel) (pa_cons (pv 6) (pa_cons (pe_bltn (v := .ty "int") (by rfl) T.b_int (by decide +kernel) rfl) pa_nil))) (pe_and (pe_cmpR op_notT (pv 6) pe_bl (nomark _)) (pe_and (pe_cmpR op_notT (pv 6) pe_bl (nomark _)) (pe_and (pe_chain op_le op_lt pe_int (pv 3) (pv 2)) (pe_and (pe_chain op_le op_lt pe_int (pv 4) (pv 2)) (pe_and (pe_cmpR op_ne (pv 3) (pv 4) (nomark _)) (pe_and (pe_chain3 op_le op_le op_le pe_int (pv 5) (pv 6) (pe_const (by rfl) C.m_MAX_COUNT)) (pe_one (pe_or (pe_cmpR op_isN (pv 7) pe_non (nomark _)) (pe_one (pe_and (pe_callB call_isi (by rfl) T.b_isinstance (by decide +kernel) (pa_cons (pv 7) (pa_cons (pe_bltn (v := .ty "int") (by rfl) T.b_int (by decide +kernel) rfl) pa_nil))) (pe_and (pe_cmpR op_notT (pv 7) pe_bl (nomark _)) (pe_and (pe_cmpR op_notT (pv 7) pe_bl (nomark _)) (pe_one (pe_chain op_le op_lt pe_int (pv 7) (pv 1))))))))))))))))))))))))))))), ?_⟩
    refine ⟨_, rfl, _, _, .type "tuple", _, true, rfl, .ty _, ty_tup hp, kit_ty (by decide +kernel), true, rfl, iteF ?_⟩
    refine ⟨_, rfl, a, _, rfl, .inr hp, rfl, _, rfl, iteF ?_⟩
    refine ⟨_, rfl, a, _, rfl, hp, rfl, _, _, rfl, _, _, rfl, _, _, rfl, _, _, rfl, _, _, rfl, rfl, ?_⟩
    have o1 := ok.s
    have o2 := ok.t
    refine ⟨_, rfl, _, _, .type "int", _, true, rfl, .ty _, .base (.int _), kit_ty (by decide +kernel), true, rfl, iteT ?_⟩
    refine ⟨_, rfl, true, rfl, true, rfl, iteT ⟨_, rfl, false, rfl, true, rfl, iteT ?_⟩⟩
    refine ⟨_, rfl, _, _, .type "int", _, true, rfl, .ty _, .base (.int _), kit_ty (by decide +kernel), true, rfl, iteT ?_⟩
    refine ⟨_, rfl, true, rfl, true, rfl, iteT ⟨_, rfl, false, rfl, true, rfl, iteT ?_⟩⟩
    refine ⟨_, rfl, _, _, .type "int", _, true, rfl, .ty _, .base (.int _), kit_ty (by decide +kernel), true, rfl, iteT ?_⟩
    refine ⟨_, rfl, true, rfl, true, rfl, iteT ⟨_, rfl, false, rfl, true, rfl, iteT ?_⟩⟩
    refine ⟨_, rfl, _, _, .type "int", _, true, rfl, .ty _, .base (.int _), kit_ty (by decide +kernel), true, rfl, iteT ?_⟩
    refine ⟨_, rfl, true, rfl, true, rfl, iteT ⟨_, rfl, false, rfl, true, rfl, iteT ?_⟩⟩
    refine ⟨_, rfl, _, _, rfl, rfl, _, rfl, iteB (decide_eq_true (by omega)) ⟨_, rfl, _, _, rfl, rfl, _, rfl, iteB (decide_eq_true (by omega)) ?_⟩⟩
    refine ⟨_, rfl, _, _, rfl, rfl, _, rfl, iteB (decide_eq_true (by omega)) ⟨_, rfl, _, _, rfl, rfl, _, rfl, iteB (decide_eq_true (by omega)) ?_⟩⟩
    refine ⟨_, rfl, _, rfl, rfl, _, rfl, iteB ?_ ?_⟩
    · have : ¬ V.int (p.s : Int) = V.int (p.t : Int) := fun z => ok.st (by have := V.int.inj z; omega)
      rw [decide_eq_false this]
      rfl
    refine ⟨_, rfl, _, _, rfl, rfl, _, rfl, iteB (decide_eq_true ok.lo) ⟨_, rfl, _, _, rfl, rfl, _, rfl, iteB (decide_eq_true ok.lh) ⟨_, _, rfl, rfl, _, rfl, iteB (decide_eq_true (Int.le_trans ok.hi (by decide))) ?_⟩⟩⟩
    cases hm : p.me with
    | none => exact ⟨_, rfl, rfl, true, rfl, iteT q⟩
    | some i =>
      have om := ok.me i hm
      refine ⟨_, rfl, rfl, false, rfl, iteF ?_⟩
      refine ⟨_, rfl, _, _, .type "int", _, true, rfl, .ty _, .base (.int _), kit_ty (by decide +kernel), true, rfl, iteT ?_⟩
      refine ⟨_, rfl, true, rfl, true, rfl, iteT ⟨_, rfl, false, rfl, true, rfl, iteT ?_⟩⟩
      refine ⟨_, rfl, _, _, rfl, rfl, _, rfl, iteB (decide_eq_true om.1) ⟨_, rfl, _, _, rfl, rfl, ?_⟩⟩
      have e : decide (i < b) = true := decide_eq_true om.2
      rw [← e] at q
      exact q
end
end Wc

set_option Elab.async false
set_option linter.all false
set_option maxRecDepth 100000
namespace Wc
open PySem PySem.Spec PyProof.Rows L2
section
variable {P : Program} {w : World} {K : PySem.W.Frag} {mg : Str → Option Value} {base : Heap}
abbrev s_law_mixed : Stmt := top 32
theorem sc_law_mixed : FnScope ["cell", "n", "turned"] ["cell", "n"] (defScope s_law_mixed) := ⟨rfl, rfl, rfl, by decide +kernel, rfl, by decide +kernel, by decide +kernel⟩
def sp_law_mixed : Sp := fun vs H Q _ => ∃ (x : Int) (n : Nat), vs = [.int x, .int n] ∧ 0 ≤ x ∧ x < 2 ^ 64 ∧ n ≤ 2 ^ 41 ∧ ∀ y : Int, 0 ≤ y → y < 2 ^ 32 → Q (.int y) H
theorem has_law_mixed (D : DefAt K mg "_law_mixed" s_law_mixed ["cell", "n"]) : Has P w K mg base "_law_mixed" 1 ["cell", "n"] sp_law_mixed := by
  refine D.ok sc_law_mixed (fun vs H Q E h => ?_) (fun f cdv A outer s H vs Q E hr h => ?_)
  · obtain ⟨x, n, rfl, _⟩ := h
    rfl
  · obtain ⟨x, n, rfl, h0, h1, hn, q⟩ := h
    refine ⟨_, (pss_cons (ps_set (i := 2) sc_law_mixed.nd rfl (.inl rfl) (pe_op op_add (pe_op op_add (pe_op op_mod (pe_op op_mul (pe_op op_mul (pv 0) (pe_op op_add pe_int (pe_op op_mul pe_int (pv 1)))) pe_int) pe_int) (pe_op op_mul (pe_op op_mul pe_int (pv 1)) (pv 1))) (pe_op op_mul pe_int (pv 1))))
      (pss_one (ps_ret (pe_op op_fdiv (pe_op op_mod (pe_op op_mul (pv 2) pe_int) pe_int) pe_int)))), ?_⟩
    refine ⟨_, rfl, _, rfl, _, _, rfl, rfl, .inl ⟨by decide, by decide⟩, _, _, rfl, rfl, _, _, rfl, rfl, .inl ⟨by omega, by omega⟩, _, _, rfl, rfl, .inr ⟨by decide, by decide⟩, _, _, rfl, rfl, (by show (0 : Int) < _; decide), ?_⟩
    refine ⟨_, rfl, _, _, rfl, rfl, .inl ⟨by decide, by decide⟩, _, rfl, _, _, rfl, rfl, .inr ⟨by omega, by omega⟩, _, _, rfl, rfl, ?_⟩
    refine ⟨_, rfl, _, _, rfl, rfl, .inl ⟨by decide, by decide⟩, _, _, rfl, rfl, ?_⟩
    refine ⟨_, rfl, _, _, rfl, rfl, .inr ⟨by decide, by decide⟩, _, _, rfl, rfl, (by show (0 : Int) < _; decide), _, _, rfl, rfl, ⟨by decide, by decide⟩, ?_⟩
    refine q _ ?_ ?_
    · refine Int.ediv_nonneg (Int.emod_nonneg _ (by decide)) (by decide)
    · have := Int.emod_lt_of_pos (((x * (1 + 2 * (n : Int)) * 48271) % 2147483647 + 7919 * (n : Int) * (n : Int) + 104729 * (n : Int)) * 69621) (show (0 : Int) < 2147483629 by decide)
      omega
abbrev s_law_draw : Stmt := top 34
theorem sc_law_draw : FnScope ["m", "top", "n", "at", "cell"] ["m", "top"] (defScope s_law_draw) := ⟨rfl, rfl, rfl, by decide +kernel, rfl, by decide +kernel, by decide +kernel⟩
def sp_law_draw : Sp := fun vs H Q _ => ∃ (a c g : Addr) (r : Nat) (top : Int), vs = [.ref a, .int top] ∧ MS H a c g (r + 1) ∧ 0 < top ∧ top < 1073741824 ∧ ∀ H' x, Dr a g H H' → MS H' a c g r → 0 ≤ x → x < top → Q (.int x) H'
theorem has_law_draw (D : DefAt K mg "_law_draw" s_law_draw ["m", "top"]) (T : Blt mg) (h_law_mixed : Has P w K mg base "_law_mixed" 1 ["cell", "n"] sp_law_mixed) : Has P w K mg base "_law_draw" 2 ["m", "top"] sp_law_draw := by
  refine D.ok sc_law_draw (fun vs H Q E h => ?_) (fun f cdv A outer s H vs Q E hr h => ?_)
  · obtain ⟨a, c, g, r, top, rfl, _⟩ := h
    rfl
  · obtain ⟨a, c, g, r, top, rfl, ⟨⟨n, cells, gs, e1, e2, e3, e4, e5, e6, e7⟩, ncg⟩, ht0, ht1, q⟩ := h
    have hu := hu_of hr
    have hu64 := hr.b64
    refine ⟨_, (pss_cons (ps_set (i := 2) sc_law_draw.nd rfl (.inl rfl) (pe_dget hu (pv 0) pe_str (fun _ _ => rfl)))
      (pss_cons (ps_asg (pe_op op_add (pv 2) pe_int) (pg_sub (pv 0) pe_str (set_dict hu)))
      (pss_cons (ps_if (pt_cmpR (op_neD hu64) (pe_dget hu (pv 0) pe_str (fun _ _ => rfl)) (pe_lst pa_nil) (nomark _)) (pss_cons (ps_set (i := 3) sc_law_draw.nd rfl (.inl rfl) (pe_op op_mod (pv 2) (pe_callB call_len_seq (by rfl) T.b_len (by decide +kernel) (pa_cons (pe_dget hu (pv 0) pe_str (fun _ _ => rfl)) pa_nil))))
      (pss_cons (ps_set (i := 4) sc_law_draw.nd rfl (.inl rfl) (pe_ix ix_list (pe_dget hu (pv 0) pe_str (fun _ _ => rfl)) (pv 3) (fun _ _ => rfl)))
      (pss_one (ps_if (pt_cmpR op_gt (pv 4) pe_int (nomark _)) (pss_cons (ps_asg (pe_op op_fdiv (pv 4) (pv 1)) (pg_sub (pe_dget hu (pv 0) pe_str (fun _ _ => rfl)) (pv 3) set_list))
      (pss_one (ps_ret (pe_op op_mod (pv 4) (pv 1))))) pss_nil)))) pss_nil)
      (pss_one (ps_ret (pe_op op_mod (pe_own h_law_mixed (hr.mono (by decide)) (by rfl) (pa_cons (pe_own h_law_mixed (hr.mono (by decide)) (by rfl) (pa_cons (pe_op op_add (pe_ix ix_list (pe_dget hu (pv 0) pe_str (fun _ _ => rfl)) (pe_op op_mod (pv 2) pe_int) (fun _ _ => rfl)) (pe_op op_mul pe_int (pe_op op_fdiv (pv 2) pe_int))) (pa_cons (pv 2) pa_nil))) (pa_cons (pe_op op_add (pv 2) pe_int) pa_nil))) (pv 1))))))), ?_⟩
    have nac : a ≠ c := ne_of e1 e2 (by intro z; cases z)
    have nag : a ≠ g := ne_of e1 e3 (by intro z; cases z)
    -- n = m['spot']; m['spot'] = n + 1
    have get1 : DGet H a (.str "spot") (some (.int n)) := by
      have z := DGet.k (k := Sum.inr "spot") e1
      rw [kM_spot] at z
      exact z
    refine ⟨_, rfl, a, _, rfl, get1, ?_⟩
    have put1 : DPut H a (.str "spot") (.int ((n : Int) + 1)) (upd H a (.dK (kM c g ((n + 1 : Nat) : Int)))) := by
      have z := DPut.k (k := Sum.inr "spot") (v := V.int ((n : Int) + 1)) e1 (by show 3 < sizeLine; decide)
      rw [kM_put_spot] at z
      exact z
    refine ⟨_, rfl, _, _, rfl, rfl, _, rfl, a, _, rfl, put1, ?_⟩
    generalize hH1 : upd H a (.dK (kM c g ((n + 1 : Nat) : Int))) = H1
    have d1 : Dr a g H H1 := fun b o h1 _ e => by rw [← hH1, upd_ne h1]; exact e
    have f1 : H1 a = some (.dK (kM c g ((n + 1 : Nat) : Int))) := by rw [← hH1, upd_same]
    have f2 : H1 c = some (.lst (cells.map V.int)) := by rw [← hH1, upd_ne nac.symm]; exact e2
    have f3 : H1 g = some (.lst (gs.map V.int)) := by rw [← hH1, upd_ne nag.symm]; exact e3
    have getG : ∀ H', H' a = some (.dK (kM c g ((n + 1 : Nat) : Int))) → DGet H' a (.str "great") (some (.ref g)) := fun H' e => by
      have z := DGet.k (k := Sum.inr "great") e
      rw [kM_great] at z
      exact z
    have getC : ∀ H', H' a = some (.dK (kM c g ((n + 1 : Nat) : Int))) → DGet H' a (.str "cells") (some (.ref c)) := fun H' e => by
      have z := DGet.k (k := Sum.inr "cells") e
      rw [kM_cells] at z
      exact z
    refine ⟨_, rfl, a, _, rfl, getG _ f1, Nat.zero_le _, fun l hl => ?_⟩
    have sL : Same H1 (upd H1 l (.lst [])) := same_upd hl
    generalize hH2 : upd H1 l (.lst []) = H2 at sL
    have g1 := sL _ _ f1
    have g2 := sL _ _ f2
    have g3 := sL _ _ f3
    have d2 : Dr a g H H2 := d1.trans (Dr.same sL)
    refine ⟨.list (gs.map .int), .list [], .lst (SqL.of g3) (dpAll_map gs fun x _ => .int x), .lst (SqL.of (by rw [← hH2]; exact upd_same)) .nil, ?_, ?_, _, rfl, ?_⟩
    · unfold SeqAt.shaped
      have z : (PyData.list (gs.map .int)).depth ≤ 1 := by
        simp only [PyData.depth]
        have := depthAll_le (n := 0) (ds := gs.map .int) fun d hd => by
          obtain ⟨i, _, rfl⟩ := List.mem_map.mp hd
          simp only [PyData.depth]
          exact Nat.le_refl _
        omega
      have z2 : (PyData.list (gs.map .int)).canLay0 = true := by
        simp only [PyData.canLay0]
        exact canLayAll_of fun d hd => by
          obtain ⟨i, _, rfl⟩ := List.mem_map.mp hd
          simp only [PyData.canLay0]
      rw [z2, decide_eq_true (Nat.le_trans z (by decide))]
      rfl
    · exact (plain_list (n := 0) (ds := []) fun d hd => absurd hd List.not_mem_nil).shaped
    rw [eqv_nil]
    -- no cell of the script is left
    have tail : ∀ H', Dr a g H H' → H' a = some (.dK (kM c g ((n + 1 : Nat) : Int))) → H' c = some (.lst (cells.map V.int)) → (∃ gs' : List Int, H' g = some (.lst (gs'.map V.int)) ∧ gs'.length ≤ 63) →
        ∃ (x : Int), cells[n % 64]? = some x ∧ MS H' a c g r := fun H' d h1 h2 ⟨gs', h3, h4⟩ => by
      refine ⟨cells[n % 64]'(by omega), List.getElem?_eq_getElem (by omega), ⟨⟨n + 1, cells, gs', h1, h2, h3, e4, e5, h4, by omega⟩, ncg⟩⟩
    cases hgs : gs with
    | nil =>
      refine iteF ?_
      obtain ⟨x, hx, ms⟩ := tail H2 d2 g1 g2 ⟨gs, g3, e6⟩
      have bx := e5 x (List.mem_of_getElem? hx)
      have en : ((n : Int) % 64) = ((n % 64 : Nat) : Int) := by omega
      have hx' : atI (cells.map V.int) ((n : Int) % 64) = some (.int x) := by
        rw [en]
        exact atI_nat (by rw [List.getElem?_map, hx]; rfl)
      refine ⟨_, rfl, a, _, rfl, getC _ g1, _, rfl, _, _, rfl, rfl, (by show (0 : Int) < _; decide), c, _, _, _, rfl, rfl, SqL.of g2, hx', _, rfl, _, _, rfl, rfl, ⟨by decide, by decide⟩, _, _, rfl, rfl, .inl ⟨by decide, by decide⟩, _, _, rfl, rfl, ?_⟩
      refine ⟨_, rfl, _, n, rfl, by omega, by omega, by omega, fun y hy0 hy1 => ?_⟩
      refine ⟨_, rfl, _, _, rfl, rfl, _, n + 7, rfl, hy0, by omega, by omega, fun z hz0 hz1 => ?_⟩
      refine ⟨_, rfl, _, _, rfl, rfl, ht0, ?_⟩
      exact q _ _ d2 ms (Int.emod_nonneg _ (by omega)) (Int.emod_lt_of_pos _ ht0)
    | cons g0 gr =>
      rw [← hgs]
      refine iteB (by rw [hgs]; rfl) ?_
      have hlen : 0 < gs.length := by rw [hgs]; exact Nat.succ_pos _
      -- at = n % len(great); cell = great[at]
      have en : ((n : Int) % (((gs.map V.int).length : Nat) : Int)) = ((n % gs.length : Nat) : Int) := by
        rw [List.length_map]
        omega
      refine ⟨_, rfl, _, rfl, a, _, rfl, getG _ g1, g, _, rfl, .inl (SqL.of g3), _, _, rfl, rfl, by rw [List.length_map]; omega, ?_⟩
      have hat : n % gs.length < gs.length := Nat.mod_lt _ hlen
      have hcell : gs[n % gs.length]? = some (gs[n % gs.length]) := List.getElem?_eq_getElem hat
      generalize hcl : gs[n % gs.length] = cl at hcell
      generalize hatn : n % gs.length = at_ at hat hcell hcl en
      have hcell' : (gs.map V.int)[at_]? = some (.int cl) := by rw [List.getElem?_map, hcell]; rfl
      have hcellI : atI (gs.map V.int) ((n : Int) % (((gs.map V.int).length : Nat) : Int)) = some (.int cl) := by
        rw [en]
        exact atI_nat hcell'
      refine ⟨_, rfl, a, _, rfl, getG _ g1, _, rfl, g, _, _, _, rfl, rfl, SqL.of g3, hcellI, ?_⟩
      refine ⟨_, rfl, _, _, rfl, rfl, _, rfl, ite2 (fun hp => ?_) (fun hp => ?_)⟩
      · -- m['great'][at] = cell // top; return cell % top
        refine ⟨_, rfl, _, rfl, _, _, rfl, rfl, ⟨ht0, ht1⟩, _, rfl, a, _, rfl, getG _ g1, _, rfl, g, _, _, at_, rfl, rfl, g3, ?_, ?_⟩
        · rw [en, List.length_map]
          unfold ixN
          rw [if_pos (by omega), if_pos (by omega)]
          congr 1
        · have nga : g ≠ a := nag.symm
          have nl : ∀ b o, b ≠ a → b ≠ g → H b = some o → (upd H2 g (.lst ((gs.map V.int).set at_ (.int (cl / top))))) b = some o := fun b o h1 h2 e => by
            rw [upd_ne h2]
            exact d2 b o h1 h2 e
          refine ⟨_, rfl, _, rfl, _, _, rfl, rfl, ht0, ?_⟩
          refine q _ _ nl ⟨⟨n + 1, cells, gs.set at_ (cl / top), by rw [upd_ne nag]; exact g1, by rw [upd_ne ncg]; exact g2, by rw [upd_same, List.map_set], e4, e5, by rw [List.length_set]; exact e6, by omega⟩, ncg⟩ (Int.emod_nonneg _ (by omega)) (Int.emod_lt_of_pos _ ht0)
      · obtain ⟨x, hx, ms⟩ := tail H2 d2 g1 g2 ⟨gs, g3, e6⟩
        have bx := e5 x (List.mem_of_getElem? hx)
        have en : ((n : Int) % 64) = ((n % 64 : Nat) : Int) := by omega
        have hx' : atI (cells.map V.int) ((n : Int) % 64) = some (.int x) := by
          rw [en]
          exact atI_nat (by rw [List.getElem?_map, hx]; rfl)
        refine ⟨_, rfl, a, _, rfl, getC _ g1, _, rfl, _, _, rfl, rfl, (by show (0 : Int) < _; decide), c, _, _, _, rfl, rfl, SqL.of g2, hx', _, rfl, _, _, rfl, rfl, ⟨by decide, by decide⟩, _, _, rfl, rfl, .inl ⟨by decide, by decide⟩, _, _, rfl, rfl, ?_⟩
        refine ⟨_, rfl, _, n, rfl, by omega, by omega, by omega, fun y hy0 hy1 => ?_⟩
        refine ⟨_, rfl, _, _, rfl, rfl, _, n + 7, rfl, hy0, by omega, by omega, fun z hz0 hz1 => ?_⟩
        refine ⟨_, rfl, _, _, rfl, rfl, ht0, ?_⟩
        exact q _ _ d2 ms (Int.emod_nonneg _ (by omega)) (Int.emod_lt_of_pos _ ht0)
end
end Wc

set_option Elab.async false
set_option linter.all false
set_option maxRecDepth 100000
namespace Wc
open PySem PySem.Spec PyProof.Rows L2
/-- an index within bounds -/
theorem atI_in {xs : List V} {x : Int} (h0 : 0 ≤ x) (h1 : x < xs.length) : ∃ v, atI xs x = some v ∧ v ∈ xs ∧ xs[x.toNat]? = some v := by
  have h2 : x.toNat < xs.length := by omega
  have e : ((x.toNat : Nat) : Int) = x := by omega
  refine ⟨xs[x.toNat], ?_, List.getElem_mem h2, List.getElem?_eq_getElem h2⟩
  have z := atI_nat (xs := xs) (List.getElem?_eq_getElem h2)
  rw [e] at z
  exact z
theorem ixN_in {n : Nat} {x : Int} (h0 : 0 ≤ x) (h1 : x < n) : ixN n x = some x.toNat := by
  unfold ixN
  rw [if_pos h0, if_pos h1]
theorem perm_take {α : Type} : ∀ {l : List α} {i : Nat} (h : i < l.length), ([l[i]] ++ l.eraseIdx i).Perm l
  | x :: l, 0, _ => List.Perm.refl _
  | x :: l, i + 1, h => by
    have hi : i < l.length := by simpa using h
    have ih := perm_take hi
    exact (List.Perm.swap x l[i] (l.eraseIdx i)).trans (List.Perm.cons x ih)
theorem toNat_add {a : Int} {n : Nat} : (0 : Int) + (n : Int) = (n : Int) := by omega
section
variable {P : Program} {w : World} {K : PySem.W.Frag} {mg : Str → Option Value} {base : Heap}
abbrev s_law_folded : Stmt := top 33
theorem sc_law_folded : FnScope ["script", "found", "n", "cell"] ["script"] (defScope s_law_folded) := ⟨rfl, rfl, rfl, by decide +kernel, rfl, by decide +kernel, by decide +kernel⟩
def sp_law_folded (K : PySem.W.Frag) : Sp := fun vs H Q _ => ∃ (s : Addr) (ns : List Int), vs = [.ref s] ∧ SqL K H s (ns.map V.int) ∧ ns.length ≤ 63 ∧
  ∀ (H' : Hp) (p : Addr) (cells : List Int), Same H H' → H p = none → H' p = some (.lst (cells.map V.int)) → cells.length = 64 → (∀ x ∈ cells, 0 ≤ x ∧ x < 2147483647) → Q (.ref p) H'
/-- a list of 64 numbers below the great prime stands at p, all else as in H -/
structure Cells (H H' : Hp) (p : Addr) (cells : List Int) : Prop where
  sm : Same H H'
  pn : H p = none
  at_ : H' p = some (.lst (cells.map V.int))
  len : cells.length = 64
  bnd : ∀ x ∈ cells, 0 ≤ x ∧ x < 2147483647
theorem Cells.put {H H' : Hp} {p : Addr} {cells : List Int} (C : Cells H H' p cells) (k : Nat) (y : Int) : Cells H (upd H' p (.lst ((cells.map V.int).set k (.int (y % 2147483647))))) p (cells.set k (y % 2147483647)) := by
  refine ⟨fun b o e => ?_, C.pn, ?_, by rw [List.length_set]; exact C.len, fun x hx => ?_⟩
  · rw [upd_ne (ne_of_none e C.pn)]
    exact C.sm _ _ e
  · rw [upd_same, List.map_set]
  · rcases List.mem_or_eq_of_mem_set hx with z | rfl
    · exact C.bnd x z
    · exact ⟨Int.emod_nonneg _ (by decide), Int.emod_lt_of_pos _ (by decide)⟩
theorem Cells.get {H H' : Hp} {p : Addr} {cells : List Int} (C : Cells H H' p cells) {k : Int} (h0 : 0 ≤ k) (h1 : k < 64) : ∃ x, atI (cells.map V.int) k = some (.int x) ∧ 0 ≤ x ∧ x < 2147483647 := by
  obtain ⟨v, e, hm, _⟩ := atI_in (xs := cells.map V.int) h0 (by rw [List.length_map, C.len]; exact h1)
  obtain ⟨x, hx, rfl⟩ := List.mem_map.mp hm
  exact ⟨x, e, C.bnd x hx⟩
theorem has_law_folded (D : DefAt K mg "_law_folded" s_law_folded ["script"]) (T : Blt mg) : Has P w K mg base "_law_folded" 1 ["script"] (sp_law_folded K) := by
  refine D.ok sc_law_folded (fun vs H Q E h => ?_) (fun f cdv A outer s H vs Q E hr h => ?_)
  · obtain ⟨a, ns, rfl, _⟩ := h
    rfl
  · obtain ⟨a, ns, rfl, ha, hl, q⟩ := h
    refine ⟨_, (pss_cons (ps_setLc (i := 1) (own := [("n", 2)]) (g := gName 2) (tt := tYes) rfl sc_law_folded.nd rfl rfl (sw_true rfl rfl rfl (by decide +kernel)) (pi_range1 (by rfl) T.b_range (pa_cons pe_int pa_nil)) (blkOk_by (N := ["script", "found", "n", "cell"]) (sc := defScope s_law_folded) (by decide +kernel)) (fun _ _ _ _ _ => (pg_name (i := 2) sc_law_folded.nd rfl (Or.inl rfl))) (fun _ _ _ _ _ => pts_nil) (fun _ _ _ _ _ => (pe_op op_add pe_int (pv 2))))
      (pss_cons (ps_for PassesOwn.never rfl (pi_enum (by rfl) T.b_enumerate (pa_cons (pv 0) pa_nil)) (pg_tup rfl (pgs_cons (pg_name (i := 2) sc_law_folded.nd rfl (.inl rfl)) (pgs_cons (pg_name (i := 3) sc_law_folded.nd rfl (.inl rfl)) pgs_nil))) (pss_one (ps_asg (pe_op op_mod (pe_op op_add (pe_op op_mul (pe_ix ix_list (pv 1) (pe_op op_mod (pv 2) pe_int) (fun _ _ => rfl)) pe_int) (pv 3)) pe_int) (pg_sub (pv 1) (pe_op op_mod (pv 2) pe_int) set_list))))
      (pss_cons (ps_for PassesOwn.never rfl (pi_range2 (by rfl) T.b_range (pa_cons pe_int (pa_cons pe_int pa_nil))) (pg_name (i := 2) sc_law_folded.nd rfl (.inl rfl)) (pss_one (ps_asg (pe_op op_mod (pe_op op_add (pe_ix ix_list (pv 1) (pv 2) (fun _ _ => rfl)) (pe_op op_mul (pe_ix ix_list (pv 1) (pe_op op_sub (pv 2) pe_int) (fun _ _ => rfl)) pe_int)) pe_int) (pg_sub (pv 1) (pv 2) set_list))))
      (pss_one (ps_ret (pv 1)))))), ?_⟩
    refine ⟨64, rfl, by decide, by decide, fun p hp => ?_⟩
    refine lc_range (lo := 0) (n := (64 : Int).toNat) (fun i H' => Same H H' ∧ ∃ cs : List Int, H' p = some (.lst (cs.map V.int)) ∧ cs.length = i ∧ ∀ x ∈ cs, 0 ≤ x ∧ x < 2147483647) ⟨same_upd hp, [], upd_same, rfl, fun x hx => absurd hx List.not_mem_nil⟩ (fun i H' hi ⟨s1, cs, h1, h2, h3⟩ => ?_) (fun H1 ⟨s1, cs, h1, h2, h3⟩ => ?_)
    · have hi2 : i < 64 := hi
      refine ⟨rfl, _, rfl, _, _, rfl, rfl, _, h1, small1000 (by rw [List.length_map]; omega), fun b o e => ?_, cs ++ [17 + (0 + (i : Int))], by rw [upd_same, List.map_append]; rfl, by rw [List.length_append, h2]; rfl, fun x hx => ?_⟩
      · rw [upd_ne (ne_of_none e hp)]
        exact s1 _ _ e
      · rcases List.mem_append.mp hx with z | z
        · exact h3 x z
        · have : x = 17 + (0 + (i : Int)) := by simpa using z
          omega
    · have C0 : Cells H H1 p cs := ⟨s1, hp, h1, h2, h3⟩
      refine ⟨_, rfl, a, _, rfl, s1.seq ha, ?_⟩
      refine for_it walk_enum (fun i σ H' => ∃ cs y2 y3, σ = [some (.ref a), some (.ref p), y2, y3] ∧ Cells H H' p cs) ⟨cs, _, _, rfl, C0⟩ (fun i σ H' _ ⟨_, _, _, _, C⟩ => C.sm.seq ha) ?_ ?_
      · rintro i x σ H2 H3 hi ⟨cs, y2, y3, rfl, C⟩ ⟨T0, x1, x2, rfl, hT0, rfl, e1, e2⟩
        cases e1
        obtain ⟨z, hz, rfl⟩ := List.mem_map.mp (List.mem_of_getElem? e2)
        have hin : ((i : Int) % 64) = ((i % 64 : Nat) : Int) := by omega
        have C3 : Cells H (upd H2 T0 (.tup [.int (i : Nat), .int z])) p cs := ⟨C.sm.trans (same_upd hT0), C.pn, by rw [upd_ne (ne_of_none C.at_ hT0)]; exact C.at_, C.len, C.bnd⟩
        obtain ⟨x0, g0, b0, b1⟩ := C3.get (k := (i : Int) % 64) (by omega) (by omega)
        refine ⟨T0, _, rfl, SqT.of upd_same, rfl, _, _, rfl, _, _, rfl, rfl, ?_⟩
        refine ⟨_, rfl, _, rfl, _, _, rfl, rfl, (by show (0 : Int) < _; decide), p, _, _, _, rfl, rfl, SqL.of C3.at_, g0, _, _, rfl, rfl, .inr ⟨by decide, by decide⟩, _, rfl, _, _, rfl, rfl, _, _, rfl, rfl, (by show (0 : Int) < _; decide), ?_⟩
        refine ⟨_, rfl, _, rfl, _, _, rfl, rfl, (by show (0 : Int) < _; decide), p, _, _, _, rfl, rfl, C3.at_, ixN_in (Int.emod_nonneg _ (by decide)) (by rw [List.length_map, C3.len]; exact Int.emod_lt_of_pos _ (by decide)), ?_⟩
        exact ⟨_, _, _, rfl, C3.put _ _⟩
      · rintro σ H2 ⟨cs, y2, y3, rfl, C⟩
        refine ⟨1, 64, rfl, ⟨by decide, by decide, by decide, by decide⟩, ?_⟩
        refine for_range (lo := 1) (n := ((64 : Int) - 1).toNat) (fun i σ H' => ∃ cs y2 y3, σ = [some (.ref a), some (.ref p), y2, y3] ∧ Cells H H' p cs) ⟨cs, _, _, rfl, C⟩ ?_ ?_
        · rintro i σ H3 hi ⟨cs, y2, y3, rfl, C⟩
          have hi2 : i < 63 := hi
          obtain ⟨x0, g0, b0, b1⟩ := C.get (k := 1 + (i : Int)) (by omega) (by omega)
          obtain ⟨x1, g1, b2, b3⟩ := C.get (k := 1 + (i : Int) - 1) (by omega) (by omega)
          show (tAsg _ _ : TS) _ _ _
          refine ⟨_, rfl, _, rfl, p, _, _, _, rfl, rfl, SqL.of C.at_, g0, _, rfl, _, rfl, _, _, rfl, rfl, p, _, _, _, rfl, rfl, SqL.of C.at_, g1, _, _, rfl, rfl, .inr ⟨by decide, by decide⟩, _, _, rfl, rfl, _, _, rfl, rfl, (by show (0 : Int) < _; decide), ?_⟩
          refine ⟨_, rfl, _, rfl, p, _, _, _, rfl, rfl, C.at_, ixN_in (by omega) (by rw [List.length_map, C.len]; omega), ?_⟩
          exact ⟨_, _, _, rfl, C.put _ _⟩
        · rintro σ H3 ⟨cs, y2, y3, rfl, C⟩
          exact ⟨_, rfl, q _ p cs C.sm C.pn C.at_ C.len C.bnd⟩
abbrev s_law_begun : Stmt := top 35
theorem sc_law_begun : FnScope ["script", "m", "cell"] ["script"] (defScope s_law_begun) := ⟨rfl, rfl, rfl, by decide +kernel, rfl, by decide +kernel, by decide +kernel⟩
def sp_law_begun (K : PySem.W.Frag) : Sp := fun vs H Q _ => ∃ (s : Addr) (ns : List Int), vs = [.ref s] ∧ SqL K H s (ns.map V.int) ∧ ns.length ≤ 63 ∧
  ∀ H' a c g, Same H H' → MS H' a c g (2 ^ 40) → Q (.ref a) H'
theorem has_law_begun (D : DefAt K mg "_law_begun" s_law_begun ["script"]) (T : Blt mg) (h_law_folded : Has P w K mg base "_law_folded" 1 ["script"] (sp_law_folded K)) : Has P w K mg base "_law_begun" 2 ["script"] (sp_law_begun K) := by
  refine D.ok sc_law_begun (fun vs H Q E h => ?_) (fun f cdv A outer s H vs Q E hr h => ?_)
  · obtain ⟨a, ns, rfl, _⟩ := h
    rfl
  · obtain ⟨sa, ns, rfl, ha, hl, q⟩ := h
    have hu := hu_of hr
    refine ⟨_, (pss_cons (ps_set (i := 1) sc_law_begun.nd rfl (.inl rfl) (pe_disp (pps_cons pe_str (pe_own h_law_folded (hr.mono (by decide)) (by rfl) (pa_cons (pv 0) pa_nil)) (pps_cons pe_str (pe_lst pa_nil) (pps_cons pe_str pe_int pps_nil))) (by rfl) (by rfl) (fun z => by cases z) (by decide)))
      (pss_cons (ps_asg (pe_lc (own := [("cell", 2)]) (g := gName 2) (tt := tYes) rfl sc_law_begun.nd (pi_list (pv 0)) (blkOk_by (N := ["script", "m", "cell"]) (sc := defScope s_law_begun) (by decide +kernel)) (fun _ _ _ _ _ => (pg_name (i := 2) sc_law_begun.nd rfl (Or.inl rfl))) (fun _ _ _ _ _ => pts_nil) (fun _ _ _ _ _ => (pe_ifExp (pt_cmpR op_ge (pv 2) (pe_op op_pow pe_int pe_int) (nomark _)) (pv 2) pe_int))) (pg_sub (pv 1) pe_str (set_dict hu)))
      (pss_one (ps_ret (pv 1))))), ?_⟩
    refine fun a hna => ⟨_, rfl, sa, ns, rfl, (same_upd hna).seq ha, hl, fun H1 c cells s1 hc0 hc hlen hb => ?_⟩
    have e1 : H1 a = some (.dK []) := s1 _ _ upd_same
    refine ⟨Nat.zero_le _, fun g0 hg0 => ?_⟩
    have nag : a ≠ g0 := ne_of_none e1 hg0
    have ncg : c ≠ g0 := ne_of_none hc hg0
    have nac : a ≠ c := ne_of e1 hc (by intro z; cases z)
    refine ⟨by rw [upd_ne nag]; exact e1, [((Sum.inr "cells" : Key), V.ref c), (Sum.inr "great", V.ref g0), (Sum.inr "spot", V.int 0)], rfl, (by show 3 ≤ 15; decide), ?_⟩
    have em : mergeK [] [((Sum.inr "cells" : Key), V.ref c), (Sum.inr "great", V.ref g0), (Sum.inr "spot", V.int 0)] = kM c g0 0 := by
      have p1 : putK ([] : List (Key × V)) (Sum.inr "cells") (V.ref c) = [((Sum.inr "cells" : Key), V.ref c)] := rfl
      have p2 : putK [((Sum.inr "cells" : Key), V.ref c)] (Sum.inr "great") (V.ref g0) = [((Sum.inr "cells" : Key), V.ref c), (Sum.inr "great", V.ref g0)] :=
        putK_new _ ((valV_neg (p := ((Sum.inr "cells" : Key), V.ref c)) (k_ne s_cg)).trans rfl)
      have p3 : putK [((Sum.inr "cells" : Key), V.ref c), (Sum.inr "great", V.ref g0)] (Sum.inr "spot") (V.int 0) = kM c g0 0 :=
        putK_new _ ((valV_neg (p := ((Sum.inr "cells" : Key), V.ref c)) (k_ne s_cs)).trans ((valV_neg (p := ((Sum.inr "great" : Key), V.ref g0)) (k_ne s_gs)).trans rfl))
      show putK (putK (putK ([] : List (Key × V)) (Sum.inr "cells") (V.ref c)) (Sum.inr "great") (V.ref g0)) (Sum.inr "spot") (V.int 0) = kM c g0 0
      rw [p1, p2, p3]
    rw [em]
    generalize hH2 : upd (upd H1 g0 (.lst [])) a (.dK (kM c g0 0)) = H2
    have f1 : H2 a = some (.dK (kM c g0 0)) := by rw [← hH2, upd_same]
    have f2 : H2 c = some (.lst (cells.map V.int)) := by rw [← hH2, upd_ne nac.symm, upd_ne ncg]; exact hc
    have s2 : Same H H2 := fun b o e => by
      have h1 := s1 _ _ (same_upd hna _ _ e)
      rw [← hH2, upd_ne (ne_of_none e hna), upd_ne (ne_of_none h1 hg0)]
      exact h1
    -- m['great'] = the great cells
    refine ⟨_, rfl, sa, rfl, ⟨_, s2.seq ha⟩, fun g hg => ?_⟩
    have nag2 : a ≠ g := ne_of_none f1 hg
    have ncg2 : c ≠ g := ne_of_none f2 hg
    refine lc_it (walk_list (xs := ns.map V.int)) (fun i H' => Same H2 H' ∧ ∃ gs : List Int, H' g = some (.lst (gs.map V.int)) ∧ gs.length ≤ i) ⟨same_upd hg, [], upd_same, Nat.le_refl _⟩ (fun i H' _ ⟨s3, _⟩ => s3.seq (s2.seq ha)) ?_ ?_
    · rintro i v H3 H4 hi ⟨s3, gs, h1, h2⟩ ⟨rfl, hv⟩
      obtain ⟨z, hz, rfl⟩ := List.mem_map.mp (List.mem_of_getElem? hv)
      have hi2 : i < ns.length := by rw [List.length_map] at hi; exact hi
      have fin : ∀ y : Int, ∃ acc, H4 g = some (.lst acc) ∧ acc.length < sizeLine ∧ Same H2 (upd H4 g (.lst (acc ++ [V.int y]))) ∧ ∃ gs : List Int, (upd H4 g (.lst (acc ++ [V.int y]))) g = some (.lst (gs.map V.int)) ∧ gs.length ≤ i + 1 := fun y => by
        refine ⟨_, h1, small1000 (by rw [List.length_map]; omega), fun b o e => ?_, gs ++ [y], by rw [upd_same, List.map_append]; rfl, by rw [List.length_append, List.length_singleton]; omega⟩
        rw [upd_ne (ne_of_none e hg)]
        exact s3 _ _ e
      refine ⟨rfl, _, rfl, _, _, rfl, rfl, ⟨by decide, by decide, by decide⟩, _, _, rfl, rfl, _, rfl, ite2 (fun _ => ?_) (fun _ => ?_)⟩
      · exact ⟨_, rfl, fin _⟩
      · exact fin _
    · rintro H3 ⟨s3, gs, h1, h2⟩
      rw [List.length_map] at h2
      have f3 := s3 _ _ f1
      have put : DPut H3 a (.str "great") (.ref g) (upd H3 a (.dK (kM c g 0))) := by
        have z := DPut.k (k := Sum.inr "great") (v := V.ref g) f3 (by show 3 < sizeLine; decide)
        rw [kM_put_great] at z
        exact z
      refine ⟨_, rfl, a, _, rfl, put, _, rfl, ?_⟩
      refine q _ a c g (fun b o e => ?_) ⟨⟨0, cells, gs, upd_same, ?_, ?_, hlen, hb, by omega, by omega⟩, ncg2⟩
      · rw [upd_ne (ne_of_none e hna)]
        exact s3 _ _ (s2 _ _ e)
      · rw [upd_ne nac.symm]
        exact s3 _ _ f2
      · rw [upd_ne nag2.symm]
        exact h1
abbrev s_law_mixed_up : Stmt := top 36
theorem sc_law_mixed_up : FnScope ["m", "things", "stock", "found", "n"] ["m", "things"] (defScope s_law_mixed_up) := ⟨rfl, rfl, rfl, by decide +kernel, rfl, by decide +kernel, by decide +kernel⟩
def sp_law_mixed_up (K : PySem.W.Frag) : Sp := fun vs H Q _ => ∃ (a c g t : Addr) (r : Nat) (xs : List V), vs = [.ref a, .ref t] ∧ MS H a c g (r + xs.length) ∧ SqL K H t xs ∧ xs.length ≤ 1000 ∧
  ∀ H' p ys, Dr a g H H' → MS H' a c g r → H p = none → H' p = some (.lst ys) → ys.Perm xs → Q (.ref p) H'
theorem has_law_mixed_up (D : DefAt K mg "_law_mixed_up" s_law_mixed_up ["m", "things"]) (T : Blt mg) (h_law_draw : Has P w K mg base "_law_draw" 2 ["m", "top"] sp_law_draw) : Has P w K mg base "_law_mixed_up" 3 ["m", "things"] (sp_law_mixed_up K) := by
  refine D.ok sc_law_mixed_up (fun vs H Q E h => ?_) (fun f cdv A outer s H vs Q E hr h => ?_)
  · obtain ⟨a, c, g, t, r, xs, rfl, _⟩ := h
    rfl
  · obtain ⟨a, c, g, t, r, xs, rfl, ms, ht, hl, q⟩ := h
    refine ⟨_, (pss_cons (ps_par (i := 2) (j := 3) (by rfl) sc_law_mixed_up.nd rfl rfl (by decide) rfl rfl (pa_cons (pe_callTy call_list_of (by rfl) T.b_list (by decide +kernel) (pa_cons (pv 1) pa_nil)) (pa_cons (pe_lst pa_nil) pa_nil)) (by rfl))
      (pss_cons (ps_for PassesOwn.never rfl (pi_range1 (by rfl) T.b_range (pa_cons (pe_callB call_len_seq (by rfl) T.b_len (by decide +kernel) (pa_cons (pv 2) pa_nil)) pa_nil)) (pg_name (i := 4) sc_law_mixed_up.nd rfl (.inl rfl)) (pss_one (ps_expr (pe_bm PySem.F.plainAttrs_list PySem.F.slot_list_append PySem.F.type_list_append mt_append (pv 3) (pa_cons (pe_bm PySem.F.plainAttrs_list PySem.F.slot_list_pop PySem.F.type_list_pop mt_popAt (pv 2) (pa_cons (pe_own h_law_draw (hr.mono (by decide)) (by rfl) (pa_cons (pv 0) (pa_cons (pe_callB call_len_seq (by rfl) T.b_len (by decide +kernel) (pa_cons (pv 2) pa_nil)) pa_nil))) pa_nil)) pa_nil)))))
      (pss_one (ps_ret (pv 3))))), ?_⟩
    refine ⟨_, rfl, t, xs, rfl, .inl ht, fun sd hsd => ⟨Nat.zero_le _, fun fd hfd => ⟨_, _, rfl, ?_⟩⟩⟩
    have nsf : sd ≠ fd := fun z => by rw [← z, upd_same] at hfd; cases hfd
    have hfd0 : H fd = none := by
      rw [upd_ne nsf.symm] at hfd
      exact hfd
    have s1 : Same H (upd (upd H sd (.lst xs)) fd (.lst [])) := fun b o e => by
      rw [upd_ne (ne_of_none e hfd0), upd_ne (ne_of_none e hsd)]
      exact e
    refine ⟨_, rfl, sd, xs, rfl, .inl (SqL.of (by rw [upd_ne nsf, upd_same])), ((xs.length : Nat) : Int), rfl, by omega, by omega, ?_⟩
    refine for_range (lo := 0) (n := ((xs.length : Nat) : Int).toNat) (fun i σ H' => ∃ S F y4, σ = [some (.ref a), some (.ref t), some (.ref sd), some (.ref fd), y4] ∧ Dr a g H H' ∧ MS H' a c g (r + S.length) ∧ H' sd = some (.lst S) ∧ H' fd = some (.lst F) ∧ S.length + i = xs.length ∧ (F ++ S).Perm xs ∧ F.length = i)
      ⟨xs, [], none, rfl, Dr.same s1, ms.same s1, by rw [upd_ne nsf, upd_same], upd_same, rfl, List.Perm.refl _, rfl⟩ ?_ ?_
    · rintro i σ H2 hi ⟨S, F, y4, rfl, d2, ms2, hS, hF, hlen, hperm, hfl⟩
      have hS0 : 0 < S.length := by omega
      show (tDrop _ : TS) _ _ _
      refine ⟨_, rfl, .inl ⟨rfl, _, SqL.of hF⟩, _, rfl, .inl ⟨rfl, _, SqL.of hS⟩, _, rfl, _, rfl, sd, S, rfl, .inl (SqL.of hS), a, c, g, r + (S.length - 1), ((S.length : Nat) : Int), rfl, ?_, by omega, by omega, fun H3 x d3 ms3 hx0 hx1 => ?_⟩
      · have e : r + (S.length - 1) + 1 = r + S.length := by omega
        rw [e]
        exact ms2
      · have na1 : sd ≠ a := ms2.na hS (fun n z => by cases z)
        have na2 : fd ≠ a := ms2.na hF (fun n z => by cases z)
        have ng1 : sd ≠ g := ms.fg hsd
        have ng2 : fd ≠ g := ms.fg hfd0
        have hS3 := d3 _ _ na1 ng1 hS
        have hF3 := d3 _ _ na2 ng2 hF
        have hxl : x.toNat < S.length := by omega
        have hgx : S[x.toNat]? = some (S[x.toNat]) := List.getElem?_eq_getElem hxl
        refine ⟨sd, S, x, x.toNat, _, rfl, rfl, hS3, by omega, by omega, seqIndex_of hx0 (by omega), hgx, ?_⟩
        refine ⟨fd, F, _, rfl, rfl, by rw [upd_ne nsf.symm]; exact hF3, small1000 (by omega), ?_⟩
        have ms4 : MS (upd (upd H3 sd (.lst (S.eraseIdx x.toNat))) fd (.lst (F ++ [S[x.toNat]]))) a c g (r + (S.length - 1)) := by
          have nc1 : sd ≠ c := fun z => by
            obtain ⟨⟨n, cells, gs, h1, h2, h3, _⟩, _⟩ := ms
            rw [z, h2] at hsd
            cases hsd
          have nc2 : fd ≠ c := fun z => by
            obtain ⟨⟨n, cells, gs, h1, h2, h3, _⟩, _⟩ := ms
            rw [z, h2] at hfd0
            cases hfd0
          exact (ms3.upd_new na1 nc1 ng1).upd_new na2 nc2 ng2
        have el : (S.eraseIdx x.toNat).length = S.length - 1 := List.length_eraseIdx_of_lt hxl
        refine ⟨S.eraseIdx x.toNat, F ++ [S[x.toNat]], _, rfl, ?_, ?_, by rw [upd_ne nsf, upd_same], upd_same, by omega, ?_, ?_⟩
        · intro b o h1 h2 e
          rw [upd_ne (ne_of_none e hfd0), upd_ne (ne_of_none e hsd)]
          exact d3 _ _ h1 h2 (d2 _ _ h1 h2 e)
        · rw [el]
          exact ms4
        · refine List.Perm.trans ?_ hperm
          rw [List.append_assoc]
          refine List.Perm.append_left F ?_
          exact perm_take hxl
        · rw [List.length_append, hfl]
          rfl
    · rintro σ H2 ⟨S, F, y4, rfl, d2, ms2, hS, hF, hlen, hperm, hfl⟩
      have eS : S = [] := List.length_eq_zero_iff.mp (by omega)
      subst eS
      rw [List.append_nil] at hperm
      exact ⟨_, rfl, q _ fd F d2 ms2 hfd0 hF hperm⟩
abbrev s_law_base : Stmt := top 37
theorem sc_law_base : FnScope ["m"] ["m"] (defScope s_law_base) := ⟨rfl, rfl, rfl, by decide +kernel, rfl, by decide +kernel, by decide +kernel⟩
def sp_law_base : Sp := fun vs H Q _ => ∃ (a c g : Addr) (r : Nat), vs = [.ref a] ∧ MS H a c g (r + 1) ∧ ∀ H' (b : Int), Dr a g H H' → MS H' a c g r → 2 ≤ b → b ≤ 1000000 → Q (.int b) H'
theorem has_law_base (D : DefAt K mg "_law_base" s_law_base ["m"]) (T : Blt mg) (h_law_draw : Has P w K mg base "_law_draw" 2 ["m", "top"] sp_law_draw) : Has P w K mg base "_law_base" 3 ["m"] sp_law_base := by
  refine D.ok sc_law_base (fun vs H Q E h => ?_) (fun f cdv A outer s H vs Q E hr h => ?_)
  · obtain ⟨a, c, g, r, rfl, _⟩ := h
    rfl
  · obtain ⟨a, c, g, r, rfl, ms, q⟩ := h
    refine ⟨_, (pss_one (ps_ret (pe_ix ix_list (pe_lst (pa_cons pe_int (pa_cons pe_int (pa_cons pe_int (pa_cons pe_int (pa_cons pe_int (pa_cons pe_int (pa_cons pe_int (pa_cons (pe_op op_pow pe_int pe_int) pa_nil))))))))) (pe_own h_law_draw (hr.mono (by decide)) (by rfl) (pa_cons (pv 0) (pa_cons pe_int pa_nil))) (fun _ _ => rfl)))), ?_⟩
    refine ⟨_, _, rfl, rfl, ⟨by decide, by decide, by decide⟩, (by show 8 ≤ sizeLine; decide), fun l hl => ?_⟩
    refine ⟨_, rfl, a, c, g, r, 8, rfl, ms.same (same_upd hl), by decide, by decide, fun H1 x d1 ms1 hx0 hx1 => ?_⟩
    have hl1 := d1 l _ (ms.fa hl) (ms.fg hl) upd_same
    obtain ⟨v, hv, hm, _⟩ := atI_in (xs := [V.int 2, .int 3, .int 5, .int 10, .int 10, .int 97, .int 1000, .int (10 ^ (6 : Int).toNat)]) hx0 hx1
    refine ⟨l, _, x, v, rfl, rfl, SqL.of hl1, hv, ?_⟩
    have d : Dr a g H H1 := (Dr.same (same_upd hl)).trans d1
    simp only [List.mem_cons, List.not_mem_nil, or_false] at hm
    rcases hm with rfl | rfl | rfl | rfl | rfl | rfl | rfl | rfl <;> exact q _ _ d ms1 (by decide) (by decide)
abbrev s_law_amount : Stmt := top 38
theorem sc_law_amount : FnScope ["m", "base", "some"] ["m", "base"] (defScope s_law_amount) := ⟨rfl, rfl, rfl, by decide +kernel, rfl, by decide +kernel, by decide +kernel⟩
def sp_law_amount : Sp := fun vs H Q _ => ∃ (a c g : Addr) (r : Nat) (b : Int), vs = [.ref a, .int b] ∧ MS H a c g (r + 4) ∧ 2 ≤ b ∧ b ≤ 1000000 ∧ ∀ H' (x : Int), Dr a g H H' → MS H' a c g r → 0 ≤ x → x < 10000000 → Q (.int x) H'
theorem has_law_amount (D : DefAt K mg "_law_amount" s_law_amount ["m", "base"]) (T : Blt mg) (h_law_draw : Has P w K mg base "_law_draw" 2 ["m", "top"] sp_law_draw) : Has P w K mg base "_law_amount" 3 ["m", "base"] sp_law_amount := by
  refine D.ok sc_law_amount (fun vs H Q E h => ?_) (fun f cdv A outer s H vs Q E hr h => ?_)
  · obtain ⟨a, c, g, r, b, rfl, _⟩ := h
    rfl
  · obtain ⟨a, c, g, r, b, rfl, ms, hb0, hb1, q⟩ := h
    refine ⟨_, (pss_cons (ps_set (i := 2) sc_law_amount.nd rfl (.inl rfl) (pe_lst (pa_cons pe_int (pa_cons pe_int (pa_cons (pe_op op_sub (pv 1) pe_int) (pa_cons (pv 1) (pa_cons (pe_op op_add (pv 1) pe_int) (pa_cons (pe_own h_law_draw (hr.mono (by decide)) (by rfl) (pa_cons (pv 0) (pa_cons (pe_op op_mul pe_int (pv 1)) pa_nil))) (pa_cons (pe_own h_law_draw (hr.mono (by decide)) (by rfl) (pa_cons (pv 0) (pa_cons (pe_op op_mul pe_int (pv 1)) pa_nil))) (pa_cons (pe_own h_law_draw (hr.mono (by decide)) (by rfl) (pa_cons (pv 0) (pa_cons (pe_op op_pow pe_int pe_int) pa_nil))) pa_nil))))))))))
      (pss_one (ps_ret (pe_ix ix_list (pv 2) (pe_own h_law_draw (hr.mono (by decide)) (by rfl) (pa_cons (pv 0) (pa_cons pe_int pa_nil))) (fun _ _ => rfl))))), ?_⟩
    refine ⟨_, rfl, _, _, rfl, rfl, _, rfl, _, rfl, _, _, rfl, rfl, _, rfl, _, rfl, _, _, rfl, rfl, .inl ⟨by decide, by decide⟩, a, c, g, r + 3, 2 * b, rfl, ms, by omega, by omega, fun H1 x1 d1 ms1 h10 h11 => ?_⟩
    refine ⟨_, rfl, _, rfl, _, _, rfl, rfl, .inl ⟨by decide, by decide⟩, a, c, g, r + 2, 9 * b, rfl, ms1, by omega, by omega, fun H2 x2 d2 ms2 h20 h21 => ?_⟩
    refine ⟨_, rfl, _, _, rfl, rfl, ⟨by decide, by decide, by decide⟩, a, c, g, r + 1, 10 ^ (6 : Int).toNat, rfl, ms2, by decide, by decide, fun H3 x3 d3 ms3 h30 h31 => ?_⟩
    have h31' : x3 < 1000000 := h31
    refine ⟨(by show 8 ≤ sizeLine; decide), fun l hl => ?_⟩
    have d0 : Dr a g H H3 := (d1.trans d2).trans d3
    refine ⟨_, rfl, _, rfl, a, c, g, r, 8, rfl, ms3.same (same_upd hl), by decide, by decide, fun H4 x d4 ms4 hx0 hx1 => ?_⟩
    have hl1 := d4 l _ (ms3.fa hl) (ms3.fg hl) upd_same
    obtain ⟨v, hv, hm, _⟩ := atI_in (xs := [V.int 0, .int 1, .int (b - 1), .int b, .int (b + 1), .int x1, .int x2, .int x3]) hx0 hx1
    refine ⟨l, _, x, v, rfl, rfl, SqL.of hl1, hv, ?_⟩
    have d : Dr a g H H4 := (d0.trans (Dr.same (same_upd hl))).trans d4
    simp only [List.mem_cons, List.not_mem_nil, or_false] at hm
    rcases hm with rfl | rfl | rfl | rfl | rfl | rfl | rfl | rfl <;> exact q _ _ d ms4 (by omega) (by omega)
end
end Wc

set_option Elab.async false
set_option linter.all false
set_option maxRecDepth 100000
namespace Wc
open PySem PySem.Spec PyProof.Rows L2
theorem paired_at {α β : Type} {F : α → β → Prop} {l : List α} {m : List β} (h : Paired F l m) {i : Nat} {x : α} (e : l[i]? = some x) : ∃ y, m[i]? = some y ∧ F x y := by
  induction h generalizing i with
  | nil => rw [List.getElem?_nil] at e; cases e
  | @cons a b l m r _ ih =>
    cases i with
    | zero =>
      have ea : a = x := Option.some.inj e
      exact ⟨b, rfl, ea ▸ r⟩
    | succ i => exact ih e
theorem dp_leg {K : PySem.W.Frag} {H : Hp} {p : Addr} {f : Leg} (e : H p = some (.lst (legV f))) : Dp K H (.ref p) (.list [.int f.1, .int f.2.1, .int f.2.2]) :=
  .lst (SqL.of e) (.cons (.int _) (.cons (.int _) (.cons (.int _) .nil)))
theorem leg_can (f : Leg) : (PyData.list [.int f.1, .int f.2.1, .int f.2.2]).canLay0 = true ∧ (PyData.list [.int f.1, .int f.2.1, .int f.2.2]).depth ≤ 1 := by
  refine ⟨?_, ?_⟩
  · simp only [PyData.canLay0]
    exact canLayAll_of fun d hd => by
      simp only [List.mem_cons, List.not_mem_nil, or_false] at hd
      rcases hd with rfl | rfl | rfl <;> simp only [PyData.canLay0]
  · simp only [PyData.depth]
    have := depthAll_le (n := 0) (ds := [.int f.1, .int f.2.1, .int f.2.2]) fun d hd => by
      simp only [List.mem_cons, List.not_mem_nil, or_false] at hd
      rcases hd with rfl | rfl | rfl <;> (simp only [PyData.depth]; exact Nat.le_refl _)
    omega
theorem shaped_of {d : PyData} (h1 : d.canLay0 = true) (h2 : d.depth ≤ 64) : SeqAt.shaped d = true := by
  unfold SeqAt.shaped
  rw [h1, decide_eq_true h2]
  rfl
theorem shaped_listOf {ds : List PyData} (h : ∀ d ∈ ds, d.canLay0 = true ∧ d.depth ≤ 60) : SeqAt.shaped (.list ds) = true := by
  refine shaped_of (by simp only [PyData.canLay0]; exact canLayAll_of fun d hd => (h d hd).1) ?_
  simp only [PyData.depth]
  have := depthAll_le (n := 60) (ds := ds) fun d hd => (h d hd).2
  omega
theorem can_int (i : Int) : (PyData.int i).canLay0 = true ∧ (PyData.int i).depth ≤ 60 := ⟨by simp only [PyData.canLay0], by simp only [PyData.depth]; exact Nat.zero_le _⟩
/-- the legs that lead from s to t, by their places -/
theorem sel_find {rs : List Addr} {fs : List Leg} (hl : rs.length = fs.length) {m : Leg → Bool} {p : Addr × Leg} {l : List (Addr × Leg)} (h : ((rs.zip fs).filter fun q => m q.2) = p :: l) : ∃ j : Nat, rs[j]? = some p.1 ∧ fs[j]? = some p.2 ∧ m p.2 = true := by
  have hm : p ∈ (rs.zip fs).filter fun q => m q.2 := by rw [h]; exact List.mem_cons_self
  obtain ⟨h1, h2⟩ := List.mem_filter.mp hm
  obtain ⟨j, hj⟩ := List.getElem?_of_mem h1
  refine ⟨j, ?_, ?_, h2⟩
  · rw [List.getElem?_zip_eq_some] at hj
    exact hj.1
  · rw [List.getElem?_zip_eq_some] at hj
    exact hj.2
section
variable {P : Program} {w : World} {K : PySem.W.Frag} {mg : Str → Option Value} {base : Heap}
abbrev s_law_tubes : Stmt := top 39
theorem sc_law_tubes : FnScope ["m", "many", "base", "rings", "more", "found", "n", "road", "amount", "source", "target", "same", "tube", "pair"] ["m", "many", "base", "rings", "more"] (defScope s_law_tubes) := ⟨rfl, rfl, rfl, by decide +kernel, rfl, by decide +kernel, by decide +kernel⟩
def LegOk (many : Nat) (f : Leg) : Prop := f.1 < many ∧ f.2.1 < many ∧ f.1 ≠ f.2.1 ∧ 0 ≤ f.2.2 ∧ f.2.2 ≤ 1000000000
def sp_law_tubes (K : PySem.W.Frag) : Sp := fun vs H Q _ => ∃ (a c g : Addr) (r many rings more : Nat) (b : Int), vs = [.ref a, .int many, .int b, .int rings, .int more] ∧ MS H a c g (r + 2000) ∧ 1 ≤ many ∧ many ≤ 24 ∧ 2 ≤ b ∧ b ≤ 1000000 ∧ rings ≤ 15 ∧ more ≤ 20 ∧
  ∀ H' p rs fs, Dr a g H H' → MS H' a c g r → H p = none → H' p = some (.lst (rs.map V.ref)) → Paired (fun r f => H' r = some (.lst (legV f))) rs fs → fs.length ≤ 4 * rings + more → (∀ f ∈ fs, LegOk many f) → (∀ v, bal fs v = 0) → (∀ r ∈ rs, H r = none) → Q (.ref p) H'
theorem has_law_tubes (D : DefAt K mg "_law_tubes" s_law_tubes ["m", "many", "base", "rings", "more"]) (T : Blt mg) (h_law_draw : Has P w K mg base "_law_draw" 2 ["m", "top"] sp_law_draw)
    (h_law_mixed_up : Has P w K mg base "_law_mixed_up" 3 ["m", "things"] (sp_law_mixed_up K)) (h_law_amount : Has P w K mg base "_law_amount" 3 ["m", "base"] sp_law_amount) :
    Has P w K mg base "_law_tubes" 4 ["m", "many", "base", "rings", "more"] (sp_law_tubes K) := by
  refine D.ok sc_law_tubes (fun vs H Q E h => ?_) (fun f cdv A outer s H vs Q E hr h => ?_)
  · obtain ⟨a, c, g, r, many, rings, more, b, rfl, _⟩ := h
    rfl
  · obtain ⟨a, c, g, r, many, rings, more, b, rfl, ms, hm1, hm24, hb2, hb6, hri, hmo, q⟩ := h
    have hu := hu_of hr
    have hu64 := hr.b64
    have a0 : H a ≠ none := by
      obtain ⟨⟨n, cells, gs, e1, _⟩, _⟩ := ms
      rw [e1]
      exact Option.some_ne_none _
    have c0 : H c ≠ none := by
      obtain ⟨⟨n, cells, gs, e1, e2, _⟩, _⟩ := ms
      rw [e2]
      exact Option.some_ne_none _
    have g0 : H g ≠ none := by
      obtain ⟨⟨n, cells, gs, e1, e2, e3, _⟩, _⟩ := ms
      rw [e3]
      exact Option.some_ne_none _
    refine ⟨_, (pss_cons (ps_set (i := 5) sc_law_tubes.nd rfl (.inl rfl) (pe_lst pa_nil))
      (pss_cons (ps_for PassesOwn.never rfl (pi_range1 (by rfl) T.b_range (pa_cons (pe_ifExp (pt_cmpR op_gt (pv 1) pe_int (nomark _)) (pv 3) pe_int) pa_nil)) (pg_name (i := 6) sc_law_tubes.nd rfl (.inl rfl)) (pss_cons (ps_set (i := 7) sc_law_tubes.nd rfl (.inl rfl) (pe_slice sl_list (pe_own h_law_mixed_up (hr.mono (by decide)) (by rfl) (pa_cons (pv 0) (pa_cons (pe_listRg rfl (by rfl) T.b_list (prg_1 (by rfl) T.b_range (pv 1))) pa_nil))) po_none (po_some (pe_op op_add pe_int (pe_own h_law_draw (hr.mono (by decide)) (by rfl) (pa_cons (pv 0) (pa_cons (pe_callB (call_min2 rfl) (by rfl) T.b_min (by decide +kernel) (pa_cons pe_int (pa_cons (pe_op op_sub (pv 1) pe_int) pa_nil))) pa_nil)))))))
      (pss_cons (ps_set (i := 8) sc_law_tubes.nd rfl (.inl rfl) (pe_own h_law_amount (hr.mono (by decide)) (by rfl) (pa_cons (pv 0) (pa_cons (pv 2) pa_nil))))
      (pss_one (ps_for PassesOwn.never rfl (pi_zip (by rfl) T.b_zip (pa_cons (pv 7) (pa_cons (pe_op op_cat (pe_slice sl_list (pv 7) (po_some pe_int) po_none) (pe_slice sl_list (pv 7) po_none (po_some pe_int))) pa_nil))) (pg_tup rfl (pgs_cons (pg_name (i := 9) sc_law_tubes.nd rfl (.inr rfl)) (pgs_cons (pg_name (i := 10) sc_law_tubes.nd rfl (.inr rfl)) pgs_nil))) (pss_cons (ps_setLc (i := 11) (own := [("tube", 12)]) (g := gName 12) rfl sc_law_tubes.nd rfl rfl (sw_true rfl rfl rfl (by decide +kernel)) (pi_list (pv 5)) (blkOk_by (N := ["m", "many", "base", "rings", "more", "found", "n", "road", "amount", "source", "target", "same", "tube", "pair"]) (sc := defScope s_law_tubes) (by decide +kernel)) (fun _ _ _ _ _ => (pg_name (i := 12) sc_law_tubes.nd rfl (Or.inl rfl))) (fun _ _ _ _ _ => (pts_one (pt_cmpR (op_eqDK K hu64) (pe_slice (sl_listK K) (pv 12) po_none (po_some pe_int)) (pe_lst (pa_cons (pv 9) (pa_cons (pv 10) pa_nil))) (nomark _)))) (fun _ _ _ _ _ => (pv 12)))
      (pss_one (ps_if (PW.pt (pw_and (pt_cmpR (op_neD hu64) (pv 11) (pe_lst pa_nil) (nomark _)) (pw_and1 (pt_cmpR op_gt (pe_own h_law_draw (hr.mono (by decide)) (by rfl) (pa_cons (pv 0) (pa_cons pe_int pa_nil))) pe_int (nomark _))))) (pss_one (ps_asg (pe_op op_add (pe_ix ix_list (pe_ix ix_list (pv 11) pe_int (fun _ _ => rfl)) pe_int (fun _ _ => rfl)) (pv 8)) (pg_sub (pe_ix ix_list (pv 11) pe_int (fun _ _ => rfl)) pe_int set_list))) (pss_one (ps_expr (pe_bm PySem.F.plainAttrs_list PySem.F.slot_list_append PySem.F.type_list_append mt_append (pv 5) (pa_cons (pe_lst (pa_cons (pv 9) (pa_cons (pv 10) (pa_cons (pv 8) pa_nil)))) pa_nil))))))))))))
      (pss_cons (ps_for PassesOwn.never rfl (pi_range1 (by rfl) T.b_range (pa_cons (pe_ifExp (pt_cmpR op_gt (pv 1) pe_int (nomark _)) (pv 4) pe_int) pa_nil)) (pg_name (i := 6) sc_law_tubes.nd rfl (.inl rfl)) (pss_cons (ps_set (i := 13) sc_law_tubes.nd rfl (.inl rfl) (pe_slice sl_list (pe_own h_law_mixed_up (hr.mono (by decide)) (by rfl) (pa_cons (pv 0) (pa_cons (pe_listRg rfl (by rfl) T.b_list (prg_1 (by rfl) T.b_range (pv 1))) pa_nil))) po_none (po_some pe_int)))
      (pss_one (ps_expr (pe_bm PySem.F.plainAttrs_list PySem.F.slot_list_append PySem.F.type_list_append mt_append (pv 5) (pa_cons (pe_op op_cat (pv 13) (pe_lst (pa_cons pe_int pa_nil))) pa_nil))))))
      (pss_one (ps_ret (pe_own h_law_mixed_up (hr.mono (by decide)) (by rfl) (pa_cons (pv 0) (pa_cons (pv 5) pa_nil)))))))), ?_⟩
    refine ⟨Nat.zero_le _, fun fd hfd => ?_⟩
    have T0 : TubSt H (upd H fd (.lst [])) a c g fd [] [] many 0 (r + 2000) :=
      ⟨a0, g0, c0, Dr.same (same_upd hfd), ms.same (same_upd hfd), ⟨hfd, upd_same, .nil, List.nodup_nil, fun x hx => absurd hx List.not_mem_nil⟩, Nat.le_refl _, fun x hx => absurd hx List.not_mem_nil⟩
    -- the end: the pipes in another order
    have fin : ∀ (H2 : Hp) (rs : List Addr) (fs : List Leg) (k : Nat), TubSt H H2 a c g fd rs fs many k (r + 200) → k ≤ 4 * rings + more → (∀ v, bal fs v = 0) →
        sp_law_mixed_up K [.ref a, .ref fd] H2 Q E0 := fun H2 rs fs k T2 hk hbal => by
      have hlen := T2.len
      have hrl : rs.length = fs.length := T2.fnd.len
      refine ⟨a, c, g, fd, r, rs.map V.ref, rfl, T2.ms.le (by rw [List.length_map]; omega), SqL.of T2.fnd.at_, by rw [List.length_map]; omega, fun H3 p ys d3 ms3 hp hys hperm => ?_⟩
      -- the pairs of address and leg go along
      have hz : rs.map V.ref = (rs.zip fs).map fun q => V.ref q.1 := by
        have e : (rs.zip fs).map Prod.fst = rs := List.map_fst_zip (by omega)
        have e2 : (rs.zip fs).map (fun q => V.ref q.1) = ((rs.zip fs).map Prod.fst).map V.ref := by rw [List.map_map]; rfl
        rw [e2, e]
      obtain ⟨zs, hzp, rfl⟩ := perm_map_ex hperm hz
      have e1 : (zs.map fun q => V.ref q.1) = (zs.map Prod.fst).map V.ref := by rw [List.map_map]; rfl
      have hpf : (zs.map Prod.snd).Perm fs := by
        have := hzp.map Prod.snd
        rwa [List.map_snd_zip (by omega)] at this
      have hall : ∀ q ∈ zs, H2 q.1 = some (.lst (legV q.2)) ∧ H q.1 = none := fun q hq => by
        have hq2 := hzp.mem_iff.mp hq
        obtain ⟨j, hj⟩ := List.getElem?_of_mem hq2
        rw [List.getElem?_zip_eq_some] at hj
        obtain ⟨f', hf', ef⟩ := paired_at T2.fnd.pr hj.1
        have : f' = q.2 := Option.some.inj (hf'.symm.trans hj.2)
        subst this
        exact ⟨ef, T2.fnd.rn _ (List.mem_of_getElem? hj.1)⟩
      refine q H3 p (zs.map Prod.fst) (zs.map Prod.snd) (T2.dr.trans d3) ms3 (T2.fresh hp) (by rw [hys, e1]) ?_ ?_ (fun f hf => ?_) (fun v => ?_) (fun x hx => ?_)
      · have key : ∀ l : List (Addr × Leg), (∀ q ∈ l, H3 q.1 = some (.lst (legV q.2))) → Paired (fun r f => H3 r = some (.lst (legV f))) (l.map Prod.fst) (l.map Prod.snd) := by
          intro l
          induction l with
          | nil => exact fun _ => .nil
          | cons z l ih => exact fun h => .cons (h z List.mem_cons_self) (ih fun y hy => h y (List.mem_cons_of_mem _ hy))
        refine key zs fun q hq => ?_
        have h1 := hall q hq
        have ap := T2.apart h1.2
        exact d3 _ _ ap.1 ap.2.2 h1.1
      · rw [hpf.length_eq]
        omega
      · have h1 := T2.ok f (hpf.mem_iff.mp hf)
        refine ⟨h1.1, h1.2.1, h1.2.2.1, h1.2.2.2.1, ?_⟩
        have := h1.2.2.2.2
        omega
      · rw [bal_perm hpf]
        exact hbal v
      · obtain ⟨y, hy, rfl⟩ := List.mem_map.mp hx
        exact (hall y hy).2
    by_cases hmm : (1 : Int) < (many : Int)
    · refine ⟨_, rfl, _, _, rfl, rfl, _, rfl, iteB (decide_eq_true hmm) ?_⟩
      refine ⟨_, rfl, (rings : Int), rfl, by omega, by omega, ?_⟩
      refine for_range (lo := 0) (n := ((rings : Nat) : Int).toNat) (fun i σ H' => ∃ rs fs y6 y7 y8 y9 y10 y11 y12 y13, σ = [some (.ref a), some (.int many), some (.int b), some (.int rings), some (.int more), some (.ref fd), y6, y7, y8, y9, y10, y11, y12, y13] ∧
          TubSt H H' a c g fd rs fs many (4 * i) (r + 1000 + 40 * (rings - i)) ∧ ∀ v, bal fs v = 0) ⟨[], [], none, none, none, none, none, none, none, none, rfl, T0.le (by omega) (by omega), fun v => rfl⟩ ?_ ?_
      · rintro i σ H2 hi ⟨rs, fs, y6, y7, y8, y9, y10, y11, y12, y13, rfl, T2, hbal⟩
        have hi2 : i < rings := by omega
        have ecost : r + 1000 + 40 * (rings - i) = r + 1000 + 40 * (rings - (i + 1)) + 40 := by omega
        rw [ecost] at T2
        generalize r + 1000 + 40 * (rings - (i + 1)) = r1 at T2
        have hlr0 : (rgV 0 (many : Int)).length = many := by rw [rgV_nat, List.length_map, List.length_range]
        -- road = mixed_up(range(many))[:2 + draw]
        refine ⟨_, rfl, _, rfl, _, rfl, RgOk.of_le (by omega) (by omega) (by omega) (by omega), fun lr hlr => ⟨a, c, g, lr, r1 + 16, rgV 0 (many : Int), rfl, (T2.ms.same (same_upd hlr)).le (by rw [hlr0]; omega), SqL.of upd_same, by rw [hlr0]; omega, fun H3 p1 ys d3 ms3 hp1 hys hperm => ?_⟩⟩
        have T3 := (T2.same (same_upd hlr)).draw d3 ms3
        obtain ⟨R, hRp, rfl⟩ := perm_map_ex hperm (rgV_nat many)
        have hRl : R.length = many := by rw [hRp.length_eq, List.length_range]
        have hRn : R.Nodup := hRp.nodup_iff.mpr List.nodup_range
        have hRlt : ∀ x ∈ R, x < many := fun x hx => List.mem_range.mp (hRp.mem_iff.mp hx)
        refine ⟨_, rfl, _, rfl, _, _, rfl, rfl, _, _, rfl, a, c, g, r1 + 15, _, rfl, T3.ms, (by split <;> omega), (by split <;> omega), fun H4 x d4 ms4 hx0 hx1 => ⟨_, _, rfl, rfl, _, rfl, p1, R.map natV, rfl, ?_, fun rd hrd => ?_⟩⟩
        · have hf := T3.apart ((T2.same (same_upd hlr)).fresh hp1)
          exact SqL.of (d4 _ _ hf.1 hf.2.2 hys)
        · have T4 := T3.draw d4 ms4
          have hxk : ((2 + x : Int)) = ((2 + x.toNat : Nat) : Int) := by omega
          have hkm : 2 + x.toNat ≤ many := by
            have : x < (many : Int) - 1 := by
              split at hx1 <;> omega
            omega
          have hk4 : 2 + x.toNat ≤ 4 := by
            have : x < 3 := by
              split at hx1 <;> omega
            omega
          generalize hk : 2 + x.toNat = k at hxk hkm hk4
          have hk2 : 2 ≤ k := by omega
          have T5 := T4.same (same_upd (o := .lst (cutV (R.map natV) none (some (2 + x)))) hrd)
          have hroad : (upd H4 rd (.lst (cutV (R.map natV) none (some (2 + x))))) rd = some (.lst ((R.take k).map natV)) := by
            rw [upd_same, hxk, cut_take, List.map_take]
          have hrd0 := T4.fresh hrd
          have hrdr : ∀ y ∈ rs, y ≠ rd := fun y hy z => by
            obtain ⟨f', _, e⟩ := paired_mem T4.fnd.pr y hy
            rw [z, hrd] at e
            cases e
          have hrdf : rd ≠ fd := fun z => by
            have := T4.fnd.at_
            rw [← z, hrd] at this
            cases this
          generalize upd H4 rd (.lst (cutV (R.map natV) none (some (2 + x)))) = H5 at T5 hroad
          -- amount
          refine ⟨_, rfl, _, rfl, a, c, g, r1 + 11, b, rfl, T5.ms, hb2, hb6, fun H6 am d6 ms6 ham0 ham1 => ?_⟩
          have T6 := T5.draw d6 ms6
          have aprd := T5.apart hrd0
          have hroad6 := d6 _ _ aprd.1 aprd.2.2 hroad
          -- zip(road, road[1:] + road[:1])
          refine ⟨_, rfl, _, rfl, 1, rfl, rd, _, rfl, SqL.of hroad6, fun q1 hq1 => ⟨_, rfl, 1, rfl, rd, _, rfl, SqL.of (same_upd hq1 _ _ hroad6), fun q2 hq2 => ?_⟩⟩
          have n12 : q1 ≠ q2 := fun z => by rw [z, upd_same] at hq2; cases hq2
          refine ⟨q1, q2, _, _, rfl, rfl, by rw [upd_ne n12, upd_same], upd_same, ?_, fun q3 hq3 => ?_⟩
          · rw [show ((1 : Int)) = ((1 : Nat) : Int) from rfl, cut_take, cut_drop, List.length_drop, List.length_take, List.length_map, List.length_take]
            exact Nat.le_of_lt (small1000 (by omega))
          have hq2' : H6 q2 = none := by
            rw [upd_ne n12.symm] at hq2
            exact hq2
          have s6 : ∀ b o, H6 b = some o → (upd (upd (upd H6 q1 (.lst (cutV ((R.take k).map natV) (some 1) none))) q2 (.lst (cutV ((R.take k).map natV) none (some 1)))) q3 (.lst (cutV ((R.take k).map natV) (some 1) none ++ cutV ((R.take k).map natV) none (some 1)))) b = some o := fun b o e => by
            have e1 : (upd H6 q1 (.lst (cutV ((R.take k).map natV) (some 1) none))) b = some o := same_upd hq1 _ _ e
            have e2 := same_upd (o := .lst (cutV ((R.take k).map natV) none (some 1))) hq2 _ _ e1
            exact same_upd hq3 _ _ e2
          have hlist3 : (upd (upd (upd H6 q1 (.lst (cutV ((R.take k).map natV) (some 1) none))) q2 (.lst (cutV ((R.take k).map natV) none (some 1)))) q3 (.lst (cutV ((R.take k).map natV) (some 1) none ++ cutV ((R.take k).map natV) none (some 1)))) q3 = some (.lst (((R.take k).drop 1 ++ (R.take k).take 1).map natV)) := by
            rw [upd_same, show ((1 : Int)) = ((1 : Nat) : Int) from rfl, cut_take, cut_drop]
            simp only [List.map_append, List.map_drop, List.map_take]
          have hq3' : H6 q3 = none := by
            cases e : H6 q3 with
            | none => rfl
            | some o =>
              have e1 : (upd H6 q1 (.lst (cutV ((R.take k).map natV) (some 1) none))) q3 = some o := same_upd hq1 _ _ e
              have e2 := same_upd (o := .lst (cutV ((R.take k).map natV) none (some 1))) hq2 _ _ e1
              rw [e2] at hq3
              cases hq3
          generalize upd (upd (upd H6 q1 (.lst (cutV ((R.take k).map natV) (some 1) none))) q2 (.lst (cutV ((R.take k).map natV) none (some 1)))) q3 (.lst (cutV ((R.take k).map natV) (some 1) none ++ cutV ((R.take k).map natV) none (some 1))) = H7 at s6 hlist3
          have T7 := T6.same s6
          have hroad7 := s6 _ _ hroad6
          have hq30 := T6.fresh hq3'
          have hq3r : ∀ y ∈ rs, y ≠ q3 := fun y hy z => by
            obtain ⟨f', _, e⟩ := paired_mem T6.fnd.pr y hy
            rw [z, hq3'] at e
            cases e
          have hq3f : q3 ≠ fd := fun z => by
            have := T6.fnd.at_
            rw [← z, hq3'] at this
            cases this
          generalize hRk : R.take k = Rk at hroad7 hlist3
          have hRkl : Rk.length = k := by rw [← hRk, List.length_take, hRl]; omega
          have hRkn : Rk.Nodup := by rw [← hRk]; exact hRn.sublist (List.take_sublist _ _)
          have hRklt : ∀ x ∈ Rk, x < many := fun x hx => hRlt x (List.take_subset k R (hRk ▸ hx))
          have hl2 : (Rk.drop 1 ++ Rk.take 1).length = k := by rw [List.length_append, List.length_drop, List.length_take, hRkl]; omega
          refine ⟨rd, q3, _, _, rfl, SqL.of hroad7, SqL.of hlist3, ?_⟩
          refine for_it (walk_zip (xs := Rk.map natV) (ys := (Rk.drop 1 ++ Rk.take 1).map natV) (n := k) (by rw [List.length_map, List.length_map, hRkl, hl2, Nat.min_self]))
            (fun j σ H' => ∃ rs fs y9 y10 y11 y12, σ = [some (.ref a), some (.int many), some (.int b), some (.int rings), some (.int more), some (.ref fd), some (.int (0 + (i : Nat))), some (.ref rd), some (.int am), y9, y10, y11, y12, y13] ∧
              TubSt H H' a c g fd rs fs many (4 * i + j) (r1 + (k - j)) ∧ (∀ v, bal fs v = am * turn ((Rk.zip (Rk.drop 1 ++ Rk.take 1)).take j) v) ∧ H' rd = some (.lst (Rk.map natV)) ∧ H' q3 = some (.lst ((Rk.drop 1 ++ Rk.take 1).map natV)) ∧ (∀ y ∈ rs, y ≠ rd ∧ y ≠ q3))
            ⟨rs, fs, _, _, _, _, rfl, T7.le (by omega) (by omega), fun v => by rw [hbal v]; simp [turn], hroad7, hlist3, fun y hy => ⟨hrdr y hy, hq3r y hy⟩⟩ (fun j σ H' _ ⟨_, _, _, _, _, _, _, _, _, h1, h2, _⟩ => ⟨SqL.of h1, SqL.of h2⟩) ?_ ?_
          · rintro j x0 σ H8 H9 hj ⟨rs, fs, y9, y10, y11, y12, rfl, T8, hb8, hr8, hq8, hn8⟩ ⟨T0', x1, x2, rfl, hT0, rfl, e1, e2⟩
            have e1 : (Rk.map natV)[j]? = some x1 := e1
            have e2 : ((Rk.drop 1 ++ Rk.take 1).map natV)[j]? = some x2 := e2
            rw [List.getElem?_map] at e1 e2
            have hjs : Rk[j]? = some (Rk[j]'(by omega)) := List.getElem?_eq_getElem (by omega)
            have hjt : (Rk.drop 1 ++ Rk.take 1)[j]? = some ((Rk.drop 1 ++ Rk.take 1)[j]'(by omega)) := List.getElem?_eq_getElem (by omega)
            generalize hsv : Rk[j]'(by omega) = sv at hjs
            generalize htv : (Rk.drop 1 ++ Rk.take 1)[j]'(by omega) = tv at hjt
            rw [hjs] at e1
            rw [hjt] at e2
            have ex1 : natV sv = x1 := Option.some.inj e1
            have ex2 : natV tv = x2 := Option.some.inj e2
            subst ex1 ex2
            have hst : sv ≠ tv := by
              rintro rfl
              by_cases z : j + 1 < Rk.length
              · rw [List.getElem?_append_left (by rw [List.length_drop]; omega), List.getElem?_drop] at hjt
                have := (List.getElem?_inj (by omega) hRkn).mp (hjs.trans hjt.symm)
                omega
              · rw [List.getElem?_append_right (by rw [List.length_drop]; omega), List.length_drop, List.getElem?_take_of_lt (by omega)] at hjt
                have := (List.getElem?_inj (by omega) hRkn).mp (hjs.trans hjt.symm)
                omega
            have hsm : sv < many := hRklt sv (List.mem_of_getElem? hjs)
            have htm : tv < many := by
              have hm := List.mem_of_getElem? hjt
              rcases List.mem_append.mp hm with z | z
              · exact hRklt tv (List.drop_subset 1 Rk z)
              · exact hRklt tv (List.take_subset 1 Rk z)
            have hturn : ∀ v, turn ((Rk.zip (Rk.drop 1 ++ Rk.take 1)).take (j + 1)) v = turn ((Rk.zip (Rk.drop 1 ++ Rk.take 1)).take j) v + sgn v sv tv := fun v => by
              have hz : (Rk.zip (Rk.drop 1 ++ Rk.take 1))[j]? = some (sv, tv) := List.getElem?_zip_eq_some.mpr ⟨hjs, hjt⟩
              rw [List.take_add_one, hz]
              exact turn_snoc _ _ v
            have s9 : Same H8 (upd H8 T0' (.tup [natV sv, natV tv])) := same_upd hT0
            have T9 := T8.same s9
            have hr9 := s9 _ _ hr8
            have hq9 := s9 _ _ hq8
            refine ⟨T0', _, rfl, SqT.of upd_same, rfl, _, _, rfl, _, _, rfl, rfl, ?_⟩
            generalize upd H8 T0' (.tup [natV sv, natV tv]) = H9 at T9 hr9 hq9
            -- same = the legs with these ends
            refine ⟨_, rfl, fd, rfl, ⟨_, SqL.of T9.fnd.at_⟩, fun sd hsd => ?_⟩
            have hrl : rs.length = fs.length := T9.fnd.len
            refine lc_it (walk_list (xs := rs.map V.ref)) (fun z H' => Same H9 H' ∧ H' sd = some (.lst ((((rs.zip fs).take z).filter fun q => decide (q.2.1 = sv) && decide (q.2.2.1 = tv)).map fun q => V.ref q.1))) ⟨same_upd hsd, upd_same⟩ (fun z H' _ ⟨s10, _⟩ => SqL.of (s10 _ _ T9.fnd.at_)) ?_ ?_
            · rintro z v H10 H11 hz ⟨s10, hsd10⟩ ⟨rfl, hv⟩
              rw [List.getElem?_map] at hv
              have hz2 : z < rs.length := by rw [List.length_map] at hz; exact hz
              have hgr : rs[z]? = some (rs[z]) := List.getElem?_eq_getElem hz2
              generalize rs[z] = rz at hgr
              rw [hgr] at hv
              have ev : V.ref rz = v := Option.some.inj hv
              subst ev
              obtain ⟨fz, hfz, efz⟩ := paired_at T9.fnd.pr hgr
              have efz10 := s10 _ _ efz
              have htake : (rs.zip fs).take (z + 1) = (rs.zip fs).take z ++ [(rz, fz)] := by
                have : (rs.zip fs)[z]? = some (rz, fz) := List.getElem?_zip_eq_some.mpr ⟨hgr, hfz⟩
                rw [List.take_add_one, this]
                rfl
              refine ⟨rfl, _, rfl, 2, rfl, rz, _, rfl, SqL.of efz10, fun z1 hz1 => ⟨_, rfl, _, rfl, (by show 2 ≤ sizeLine; decide), fun z2 hz2' => ?_⟩⟩
              have nz : z1 ≠ z2 := fun e => by rw [e, upd_same] at hz2'; cases hz2'
              refine ⟨.list [.int fz.1, .int fz.2.1], .list [.int sv, .int tv], .lst (SqL.of (by rw [upd_ne nz]; exact upd_same)) (.cons (.int _) (.cons (.int _) .nil)), .lst (SqL.of upd_same) (.cons (.int _) (.cons (.int _) .nil)), ?_, ?_, _, rfl, ?_⟩
              · exact shaped_listOf fun d hd => by
                  simp only [List.mem_cons, List.not_mem_nil, or_false] at hd
                  rcases hd with rfl | rfl <;> exact can_int _
              · exact shaped_listOf fun d hd => by
                  simp only [List.mem_cons, List.not_mem_nil, or_false] at hd
                  rcases hd with rfl | rfl <;> exact can_int _
              have hz20 : H11 z2 = none := by
                rw [upd_ne nz.symm] at hz2'
                exact hz2'
              have nsd1 : sd ≠ z1 := ne_of_none hsd10 hz1
              have nsd2 : sd ≠ z2 := ne_of_none hsd10 hz20
              have eqe : PyData.eqv (.list [.int fz.1, .int fz.2.1]) (.list [.int sv, .int tv]) = (decide (fz.1 = sv) && decide (fz.2.1 = tv)) := by
                have := eqvAll_ints [(fz.1 : Int), (fz.2.1 : Int)] [(sv : Int), (tv : Int)]
                simp only [PyData.eqv]
                have e2 : PyData.eqvAll [.int fz.1, .int fz.2.1] [.int sv, .int tv] = decide ([(fz.1 : Int), (fz.2.1 : Int)] = [(sv : Int), (tv : Int)]) := this
                rw [e2]
                have : ([(fz.1 : Int), (fz.2.1 : Int)] = [(sv : Int), (tv : Int)]) ↔ (fz.1 = sv ∧ fz.2.1 = tv) := by
                  simp only [List.cons.injEq, and_true]
                  omega
                rw [decide_eq_decide.mpr this, Bool.decide_and]
              rw [eqe]
              refine ite2 (fun hmt => ?_) (fun hmt => ?_)
              · refine ⟨_, rfl, _, by rw [upd_ne nsd2, upd_ne nsd1]; exact hsd10, small1000 ?_, fun b o e => ?_, ?_⟩
                · rw [List.length_map]
                  have h1 := List.length_filter_le (fun q : Addr × Leg => decide (q.2.1 = sv) && decide (q.2.2.1 = tv)) ((rs.zip fs).take z)
                  have h2 : ((rs.zip fs).take z).length ≤ rs.length := by rw [List.length_take, List.length_zip]; omega
                  have h3 := T9.len
                  omega
                · rw [upd_ne (ne_of_none e hsd), upd_ne (ne_of_none (s10 _ _ e) hz20), upd_ne (ne_of_none (s10 _ _ e) hz1)]
                  exact s10 _ _ e
                · rw [upd_same, htake, List.filter_append, List.filter_cons, if_pos hmt, List.map_append]
                  rfl
              · refine ⟨fun b o e => ?_, ?_⟩
                · rw [upd_ne (ne_of_none (s10 _ _ e) hz20), upd_ne (ne_of_none (s10 _ _ e) hz1)]
                  exact s10 _ _ e
                · rw [upd_ne nsd2, upd_ne nsd1, htake, List.filter_append, List.filter_cons, if_neg hmt, List.filter_nil, List.append_nil]
                  exact hsd10
            · rintro H10 ⟨s10, hsd10⟩
              have hlz : (rs.map V.ref).length = (rs.zip fs).length := by rw [List.length_map, List.length_zip, hrl, Nat.min_self]
              rw [hlz, List.take_length] at hsd10
              have T10 := T9.same s10
              have hr10 := s10 _ _ hr9
              have hq10 := s10 _ _ hq9
              generalize hsel : ((rs.zip fs).filter fun q => decide (q.2.1 = sv) && decide (q.2.2.1 = tv)) = sel at hsd10
              have hselm : ∀ q ∈ sel, H10 q.1 = some (.lst (legV q.2)) := fun q hq => by
                rw [← hsel] at hq
                have hq2 := (List.mem_filter.mp hq).1
                obtain ⟨j', hj'⟩ := List.getElem?_of_mem hq2
                rw [List.getElem?_zip_eq_some] at hj'
                obtain ⟨f', hf', ef⟩ := paired_at T10.fnd.pr hj'.1
                have : f' = q.2 := Option.some.inj (hf'.symm.trans hj'.2)
                subst this
                exact ef
              -- what an appended leg leads to
              have nextA : ∀ H11 r', TubSt H H11 a c g fd rs fs many (4 * i + j) r' → H11 rd = some (.lst (Rk.map natV)) → H11 q3 = some (.lst ((Rk.drop 1 ++ Rk.take 1).map natV)) → r1 + (k - (j + 1)) ≤ r' → ∀ lg, H11 lg = none →
                  TubSt H (upd (upd H11 lg (.lst (legV (sv, tv, am)))) fd (.lst (rs.map V.ref ++ [.ref lg]))) a c g fd (rs ++ [lg]) (fs ++ [(sv, tv, am)]) many (4 * i + (j + 1)) (r1 + (k - (j + 1))) ∧
                  (∀ v, bal (fs ++ [(sv, tv, am)]) v = am * turn ((Rk.zip (Rk.drop 1 ++ Rk.take 1)).take (j + 1)) v) ∧
                  (upd (upd H11 lg (.lst (legV (sv, tv, am)))) fd (.lst (rs.map V.ref ++ [.ref lg]))) rd = some (.lst (Rk.map natV)) ∧
                  (upd (upd H11 lg (.lst (legV (sv, tv, am)))) fd (.lst (rs.map V.ref ++ [.ref lg]))) q3 = some (.lst ((Rk.drop 1 ++ Rk.take 1).map natV)) ∧ ∀ y ∈ rs ++ [lg], y ≠ rd ∧ y ≠ q3 := by
                intro H11 r' T11 hr11 hq11 hle lg hlg
                refine ⟨(T11.snoc hlg hsm htm hst ham0 (Int.le_of_lt ham1)).le (by omega) hle, fun v => ?_, ?_, ?_, fun y hy => ?_⟩
                · rw [bal_snoc, hb8 v, hturn, Int.mul_add]
                · rw [upd_ne hrdf, upd_ne (ne_of_none hr11 hlg)]
                  exact hr11
                · rw [upd_ne hq3f, upd_ne (ne_of_none hq11 hlg)]
                  exact hq11
                · rcases List.mem_append.mp hy with z | z
                  · exact hn8 y z
                  · have ey : y = lg := by simpa using z
                    rw [ey]
                    exact ⟨(ne_of_none hr11 hlg).symm, (ne_of_none hq11 hlg).symm⟩
              have hkj : r1 + (k - j) = r1 + (k - (j + 1)) + 1 := by omega
              -- if same != [] and draw > 0
              refine ⟨_, rfl, Nat.zero_le _, fun e0 he0 => ?_⟩
              have s11 : Same H10 (upd H10 e0 (.lst [])) := same_upd he0
              refine ⟨.list (sel.map fun q => .list [.int q.2.1, .int q.2.2.1, .int q.2.2.2]), .list [], .lst (SqL.of (s11 _ _ hsd10)) (dpAll_map sel fun q hq => dp_leg (s11 _ _ (hselm q hq))), .lst (SqL.of upd_same) .nil, ?_, ?_, _, rfl, ?_⟩
              · exact shaped_listOf fun d hd => by
                  obtain ⟨q, _, rfl⟩ := List.mem_map.mp hd
                  exact ⟨(leg_can q.2).1, Nat.le_trans (leg_can q.2).2 (by decide)⟩
              · exact shaped_listOf fun d hd => absurd hd List.not_mem_nil
              rw [eqv_nil]
              have T11 := T10.same s11
              have hr11 := s11 _ _ hr10
              have hq11 := s11 _ _ hq10
              have hsd11 := s11 _ _ hsd10
              generalize upd H10 e0 (.lst []) = H11 at T11 hr11 hq11 hsd11
              cases hse : sel with
              | nil =>
                refine iteF ?_
                refine ⟨_, rfl, .inl ⟨rfl, _, SqL.of T11.fnd.at_⟩, _, rfl, _, rfl, _, rfl, (by show 3 ≤ sizeLine; decide), fun lg hlg => ?_⟩
                obtain ⟨A1, A2, A3, A4, A5⟩ := nextA H11 _ T11 hr11 hq11 (by omega) lg hlg
                have hl11 := T11.len
                exact ⟨fd, _, _, rfl, rfl, by rw [upd_ne (ne_of_none T11.fnd.at_ hlg)]; exact T11.fnd.at_, small1000 (by rw [List.length_map]; omega), rs ++ [lg], _, _, _, _, _, rfl, A1, A2, A3, A4, A5⟩
              | cons p0 sr =>
                rw [← hse]
                refine iteB (by rw [hse]; rfl) ?_
                obtain ⟨j0, hj1, hj2, hj3⟩ := sel_find (m := fun f => decide (f.1 = sv) && decide (f.2.1 = tv)) hrl (hsel.trans hse)
                have hj3' : p0.2.1 = sv ∧ p0.2.2.1 = tv := by
                  have := Bool.and_eq_true_iff.mp hj3
                  exact ⟨of_decide_eq_true this.1, of_decide_eq_true this.2⟩
                rw [hkj] at T11
                refine ⟨_, rfl, a, c, g, _, 3, rfl, T11.ms, by decide, by decide, fun H12 x d12 ms12 hx0 hx1 => ⟨_, _, rfl, rfl, _, rfl, ?_⟩⟩
                have T12 := T11.draw d12 ms12
                have hsd0 := T9.fresh hsd
                have apsd := T9.apart hsd0
                have apr := T9.apart hrd0
                have apq := T9.apart hq30
                have hr12 := d12 _ _ apr.1 apr.2.2 hr11
                have hq12 := d12 _ _ apq.1 apq.2.2 hq11
                have hsd12 := d12 _ _ apsd.1 apsd.2.2 hsd11
                refine ite2 (fun _ => ?_) (fun _ => ?_)
                · -- same[0][2] = same[0][2] + amount
                  have hp0 : H12 p0.1 = some (.lst (legV p0.2)) := by
                    obtain ⟨f', hf', ef⟩ := paired_at T12.fnd.pr hj1
                    have : f' = p0.2 := Option.some.inj (hf'.symm.trans hj2)
                    subst this
                    exact ef
                  have hat : (sel.map fun q => V.ref q.1)[0]? = some (.ref p0.1) := by rw [hse]; rfl
                  refine ⟨_, rfl, sd, _, 0, _, rfl, rfl, SqL.of hsd12, atI_nat (j := 0) hat, p0.1, _, 2, _, rfl, rfl, SqL.of hp0, atI_nat (j := 2) rfl, _, rfl, _, _, rfl, rfl, ?_⟩
                  refine ⟨_, rfl, sd, _, 0, _, rfl, rfl, SqL.of hsd12, atI_nat (j := 0) hat, p0.1, _, 2, 2, rfl, rfl, hp0, rfl, ?_⟩
                  have T13 := T12.put hj1 hj2 (d := am) ham0 (Int.le_of_lt ham1)
                  have np := hn8 p0.1 (List.mem_of_getElem? hj1)
                  refine ⟨rs, fs.set j0 (p0.2.1, p0.2.2.1, p0.2.2.2 + am), _, _, _, _, rfl, T13.le (by omega) (Nat.le_refl _), fun v => ?_, ?_, ?_, hn8⟩
                  · rw [bal_set hj2, hb8 v, hturn, hj3'.1, hj3'.2, Int.mul_add]
                  · rw [upd_ne np.1.symm]
                    exact hr12
                  · rw [upd_ne np.2.symm]
                    exact hq12
                · refine ⟨_, rfl, .inl ⟨rfl, _, SqL.of T12.fnd.at_⟩, _, rfl, _, rfl, _, rfl, (by show 3 ≤ sizeLine; decide), fun lg hlg => ?_⟩
                  obtain ⟨A1, A2, A3, A4, A5⟩ := nextA H12 _ T12 hr12 hq12 (Nat.le_refl _) lg hlg
                  have hl12 := T12.len
                  exact ⟨fd, _, _, rfl, rfl, by rw [upd_ne (ne_of_none T12.fnd.at_ hlg)]; exact T12.fnd.at_, small1000 (by rw [List.length_map]; omega), rs ++ [lg], _, _, _, _, _, rfl, A1, A2, A3, A4, A5⟩
          · -- a ring is drawn
            rintro σ H8 ⟨rs, fs, y9, y10, y11, y12, rfl, T8, hb8, hr8, hq8, hn8⟩
            refine ⟨rs, fs, _, _, _, _, _, _, _, _, rfl, T8.le (by omega) (by omega), fun v => ?_⟩
            have hz : (Rk.zip (Rk.drop 1 ++ Rk.take 1)).length = k := by rw [List.length_zip, hRkl, hl2, Nat.min_self]
            rw [hb8 v, List.take_of_length_le (by omega), turn_ring, Int.mul_zero]
      · -- pipes with the count 0
        rintro σ H2 ⟨rs, fs, y6, y7, y8, y9, y10, y11, y12, y13, rfl, T2, hbal⟩
        have eri : (((rings : Nat) : Int)).toNat = rings := by omega
        rw [eri, Nat.sub_self, Nat.mul_zero, Nat.add_zero] at T2
        refine ⟨_, rfl, _, _, rfl, rfl, _, rfl, iteB (decide_eq_true hmm) ?_⟩
        refine ⟨_, rfl, (more : Int), rfl, by omega, by omega, ?_⟩
        refine for_range (lo := 0) (n := ((more : Nat) : Int).toNat) (fun i σ H' => ∃ rs fs y6 y7 y8 y9 y10 y11 y12 y13, σ = [some (.ref a), some (.int many), some (.int b), some (.int rings), some (.int more), some (.ref fd), y6, y7, y8, y9, y10, y11, y12, y13] ∧
            TubSt H H' a c g fd rs fs many (4 * rings + i) (r + 200 + 40 * (more - i)) ∧ ∀ v, bal fs v = 0) ⟨rs, fs, _, _, _, _, _, _, _, _, rfl, T2.le (by omega) (by omega), hbal⟩ ?_ ?_
        · rintro i σ H3 hi ⟨rs, fs, y6, y7, y8, y9, y10, y11, y12, y13, rfl, T3, hbal⟩
          have hi2 : i < more := by omega
          have ecost : r + 200 + 40 * (more - i) = r + 200 + 40 * (more - (i + 1)) + 40 := by omega
          rw [ecost] at T3
          generalize r + 200 + 40 * (more - (i + 1)) = r1 at T3
          have hlr0 : (rgV 0 (many : Int)).length = many := by rw [rgV_nat, List.length_map, List.length_range]
          show (tSeq _ _ : TS) _ _ _
          refine ⟨_, rfl, _, rfl, _, rfl, RgOk.of_le (by omega) (by omega) (by omega) (by omega), fun lr hlr => ⟨a, c, g, lr, r1 + 16, rgV 0 (many : Int), rfl, (T3.ms.same (same_upd hlr)).le (by rw [hlr0]; omega), SqL.of upd_same, by rw [hlr0]; omega, fun H4 p1 ys d4 ms4 hp1 hys hperm => ?_⟩⟩
          have T4 := (T3.same (same_upd hlr)).draw d4 ms4
          obtain ⟨R, hRp, rfl⟩ := perm_map_ex hperm (rgV_nat many)
          have hRl : R.length = many := by rw [hRp.length_eq, List.length_range]
          have hRn : R.Nodup := hRp.nodup_iff.mpr List.nodup_range
          have hRlt : ∀ x ∈ R, x < many := fun x hx => List.mem_range.mp (hRp.mem_iff.mp hx)
          obtain ⟨x, y, R', rfl⟩ : ∃ x y R', R = x :: y :: R' := by
            match R, hRl with
            | [], h => exact absurd h (by simp; omega)
            | [_], h => exact absurd h (by simp; omega)
            | x :: y :: R', _ => exact ⟨x, y, R', rfl⟩
          have hxy : x ≠ y := fun z => (List.nodup_cons.mp hRn).1 (z ▸ List.mem_cons_self)
          refine ⟨2, rfl, p1, _, rfl, SqL.of hys, fun pd hpd => ?_⟩
          have T5 := T4.same (same_upd (o := .lst (cutV ((x :: y :: R').map natV) none (some 2))) hpd)
          have hpair : (upd H4 pd (.lst (cutV ((x :: y :: R').map natV) none (some 2)))) pd = some (.lst [natV x, natV y]) := by
            rw [upd_same, show ((2 : Int)) = ((2 : Nat) : Int) from rfl, cut_take]
            rfl
          generalize upd H4 pd (.lst (cutV ((x :: y :: R').map natV) none (some 2))) = H5 at T5 hpair
          refine ⟨_, rfl, .inl ⟨rfl, _, SqL.of T5.fnd.at_⟩, _, rfl, (by show 1 ≤ sizeLine; decide), fun z0 hz0 => ?_⟩
          have hpair6 := same_upd (o := .lst [.int 0]) hz0 _ _ hpair
          refine ⟨pd, z0, _, _, rfl, rfl, hpair6, upd_same, (by show 3 ≤ sizeLine; decide), fun lg hlg => ?_⟩
          have T6 := T5.same (same_upd (o := .lst [.int 0]) hz0)
          have hlen6 := T6.len
          have hrl6 := T6.fnd.len
          refine ⟨fd, _, _, rfl, rfl, by rw [upd_ne (ne_of_none T6.fnd.at_ hlg)]; exact T6.fnd.at_, small1000 (by rw [List.length_map]; omega), rs ++ [lg], fs ++ [(x, y, 0)], _, _, _, _, _, _, _, _, rfl, (T6.snoc (f := (x, y, 0)) hlg (hRlt x (by simp)) (hRlt y (by simp)) hxy (Int.le_refl 0) (by show (0 : Int) ≤ 10000000; decide)).le (by omega) (by omega), fun v => ?_⟩
          rw [bal_snoc, hbal v]
          show 0 + 0 * _ = _
          omega
        · rintro σ H3 ⟨rs, fs, y6, y7, y8, y9, y10, y11, y12, y13, rfl, T3, hbal⟩
          exact ⟨_, rfl, _, rfl, fin H3 rs fs _ (T3.le (Nat.le_refl _) (by omega)) (by omega) hbal⟩
    · refine ⟨_, rfl, _, _, rfl, rfl, _, rfl, iteN (decide_eq_false hmm) ?_⟩
      refine ⟨0, rfl, by decide, by decide, ?_⟩
      refine for_range (lo := 0) (n := (0 : Int).toNat) (fun i σ H' => σ = [some (.ref a), some (.int many), some (.int b), some (.int rings), some (.int more), some (.ref fd), none, none, none, none, none, none, none, none] ∧ H' = upd H fd (.lst [])) ⟨rfl, rfl⟩ (fun i σ H' hi => absurd hi (Nat.not_lt_zero i)) ?_
      rintro σ H2 ⟨rfl, rfl⟩
      refine ⟨_, rfl, _, _, rfl, rfl, _, rfl, iteN (decide_eq_false hmm) ?_⟩
      refine ⟨0, rfl, by decide, by decide, ?_⟩
      refine for_range (lo := 0) (n := (0 : Int).toNat) (fun i σ H' => σ = [some (.ref a), some (.int many), some (.int b), some (.int rings), some (.int more), some (.ref fd), none, none, none, none, none, none, none, none] ∧ H' = upd H fd (.lst [])) ⟨rfl, rfl⟩ (fun i σ H' hi => absurd hi (Nat.not_lt_zero i)) ?_
      rintro σ H2 ⟨rfl, rfl⟩
      exact ⟨_, rfl, _, rfl, fin _ [] [] 0 (T0.le (Nat.le_refl _) (by omega)) (Nat.zero_le _) fun v => rfl⟩
abbrev s_law_root : Stmt := top 40
theorem sc_law_root : FnScope ["trees", "at", "n"] ["trees", "at"] (defScope s_law_root) := ⟨rfl, rfl, rfl, by decide +kernel, rfl, by decide +kernel, by decide +kernel⟩
def sp_law_root (K : PySem.W.Frag) : Sp := fun vs H Q _ => ∃ (t : Addr) (ts : List Nat) (x : Nat), vs = [.ref t, .int x] ∧ SqL K H t (ts.map natV) ∧ ts.length ≤ 1000 ∧ (∀ i y : Nat, ts[i]? = some y → y < ts.length) ∧ x < ts.length ∧ Q (natV (rootN ts ts.length x)) H
theorem rootN_lt {ts : List Nat} (h : ∀ i y : Nat, ts[i]? = some y → y < ts.length) {x : Nat} (hx : x < ts.length) : ∀ k, rootN ts k x < ts.length
  | 0 => hx
  | k + 1 => by
    have ih := rootN_lt h hx k
    show ts.getD (rootN ts k x) 0 < ts.length
    rw [List.getD_eq_getElem?_getD, List.getElem?_eq_getElem ih]
    exact h _ _ (List.getElem?_eq_getElem ih)
theorem has_law_root (D : DefAt K mg "_law_root" s_law_root ["trees", "at"]) (T : Blt mg) : Has P w K mg base "_law_root" 1 ["trees", "at"] (sp_law_root K) := by
  refine D.ok sc_law_root (fun vs H Q E h => ?_) (fun f cdv A outer s H vs Q E hr h => ?_)
  · obtain ⟨t, ts, x, rfl, _⟩ := h
    rfl
  · obtain ⟨t, ts, x, rfl, ht, hl, hb, hx, q⟩ := h
    refine ⟨_, (pss_cons (ps_for PassesOwn.never rfl (pi_range1 (by rfl) T.b_range (pa_cons (pe_callB call_len_seq (by rfl) T.b_len (by decide +kernel) (pa_cons (pv 0) pa_nil)) pa_nil)) (pg_name (i := 2) sc_law_root.nd rfl (.inl rfl)) (pss_one (ps_set (i := 1) sc_law_root.nd rfl (.inl rfl) (pe_ix ix_list (pv 0) (pv 1) (fun _ _ => rfl)))))
      (pss_one (ps_ret (pv 1)))), ?_⟩
    refine ⟨_, rfl, t, _, rfl, .inl ht, (((ts.map natV).length : Nat) : Int), rfl, by rw [List.length_map]; omega, by rw [List.length_map]; omega, ?_⟩
    refine for_range (lo := 0) (n := ((((ts.map natV).length : Nat) : Int)).toNat) (fun i σ H' => (∃ y2, σ = [some (.ref t), some (natV (rootN ts i x)), y2]) ∧ H' = H) ⟨⟨none, rfl⟩, rfl⟩ ?_ ?_
    · rintro i σ H' hi ⟨⟨y2, rfl⟩, rfl⟩
      have hlt := rootN_lt hb hx i
      show (tAsg _ _ : TS) _ _ _
      refine ⟨_, rfl, _, rfl, t, _, _, natV (rootN ts (i + 1) x), rfl, rfl, ht, atI_nat (j := rootN ts i x) ?_, ⟨_, rfl⟩, rfl⟩
      rw [List.getElem?_map, List.getElem?_eq_getElem hlt]
      show some (natV _) = some (natV (ts.getD (rootN ts i x) 0))
      rw [List.getD_eq_getElem?_getD, List.getElem?_eq_getElem hlt]
      rfl
    · rintro σ H' ⟨⟨y2, rfl⟩, rfl⟩
      have e : ((((ts.map natV).length : Nat) : Int)).toNat = ts.length := by rw [List.length_map]; omega
      refine ⟨_, rfl, ?_⟩
      rw [e]
      exact q
end
end Wc

set_option Elab.async false
set_option linter.all false
set_option maxRecDepth 100000
namespace Wc
open PySem PySem.Spec PyProof.Rows L2
/-- the second way is asked for first -/
theorem ite2r {c A B : Prop} [Decidable c] (h2 : B) (h1 : c → A) : if c then A else B := by
  by_cases h : c
  · rw [if_pos h]
    exact h1 h
  · rw [if_neg h]
    exact h2
/-- the count of a leg fits its pipe -/
def Fits (base : Int) (p : Tube) (f : Leg) : Prop := p.s = f.1 ∧ p.t = f.2.1 ∧ p.lo ≤ f.2.2 ∧ f.2.2 ≤ p.hi ∧ ∀ m, p.me = some m → f.2.2 % base = m
structure NetSt (K : PySem.W.Frag) (H H' : Hp) (a c g tr tb cd : Addr) (base : Int) (many : Nat) (fs : List Leg) (r : Nat) (ts : List Tube) (trs : List Nat) (vs : List V) : Prop where
  a0 : H a ≠ none
  g0 : H g ≠ none
  c0 : H c ≠ none
  dr : Dr a g H H'
  ms : MS H' a c g r
  trn : H tr = none
  tbn : H tb = none
  cdn : H cd = none
  rb : tr ≠ tb
  rc : tr ≠ cd
  bc : tb ≠ cd
  trA : H' tr = some (.lst (trs.map natV))
  tbA : H' tb = some (.lst vs)
  tbT : Paired (TubeAt K H') vs ts
  cdA : H' cd = some (.lst (fs.map fun f => V.int f.2.2))
  fl : Paired (Fits base) ts fs
  ok : ∀ p ∈ ts, TubeOk base many p
  forest : Forest ts
  uf : Trees trs many
  tells : Tells trs many ts
section
variable {K : PySem.W.Frag} {H H1 H2 : Hp} {a c g tr tb cd : Addr} {base : Int} {many r r' : Nat} {fs : List Leg} {ts : List Tube} {trs : List Nat} {vs : List V}
theorem NetSt.apart (N : NetSt K H H1 a c g tr tb cd base many fs r ts trs vs) {p : Addr} (hp : H p = none) : p ≠ a ∧ p ≠ c ∧ p ≠ g :=
  ⟨fun z => N.a0 (z ▸ hp), fun z => N.c0 (z ▸ hp), fun z => N.g0 (z ▸ hp)⟩
theorem NetSt.draw (N : NetSt K H H1 a c g tr tb cd base many fs r ts trs vs) (d : Dr a g H1 H2) (ms : MS H2 a c g r') : NetSt K H H2 a c g tr tb cd base many fs r' ts trs vs :=
  ⟨N.a0, N.g0, N.c0, N.dr.trans d, ms, N.trn, N.tbn, N.cdn, N.rb, N.rc, N.bc, d _ _ (N.apart N.trn).1 (N.apart N.trn).2.2 N.trA, d _ _ (N.apart N.tbn).1 (N.apart N.tbn).2.2 N.tbA,
    Paired.mapP N.tbT fun _ _ h => h.keep (d.keepT N.ms), d _ _ (N.apart N.cdn).1 (N.apart N.cdn).2.2 N.cdA, N.fl, N.ok, N.forest, N.uf, N.tells⟩
theorem NetSt.same (N : NetSt K H H1 a c g tr tb cd base many fs r ts trs vs) (s : Same H1 H2) : NetSt K H H2 a c g tr tb cd base many fs r ts trs vs := N.draw (Dr.same s) (N.ms.same s)
theorem NetSt.le (N : NetSt K H H1 a c g tr tb cd base many fs r ts trs vs) (h : r' ≤ r) : NetSt K H H1 a c g tr tb cd base many fs r' ts trs vs :=
  N.draw (Dr.refl _ _ _) (N.ms.le h)
theorem NetSt.fresh (N : NetSt K H H1 a c g tr tb cd base many fs r ts trs vs) {p : Addr} (hp : H1 p = none) : H p = none := by
  cases e : H p with
  | none => rfl
  | some o =>
    rw [N.dr _ _ (N.ms.fa hp) (N.ms.fg hp) e] at hp
    cases hp
theorem not_tup_lst {H : Hp} {b : Addr} {xs ys : List V} (h : H b = some (.lst ys)) : ¬ Rd H b (.tup xs) := by
  rintro (e | ⟨o, e⟩) <;> (rw [h] at e; cases e)
/-- a list of the drawing is stored: the tuples stay -/
theorem keepT_upd_lst {H : Hp} {b : Addr} {ys zs : List V} (h : H b = some (.lst ys)) : KeepT H (upd H b (.lst zs)) := fun x xs e => by
  have nb : x ≠ b := by
    rintro rfl
    exact not_tup_lst h e
  rcases e with e | ⟨o, e⟩
  · exact .inl (by rw [upd_ne nb]; exact e)
  · exact .inr ⟨o, by rw [upd_ne nb]; exact e⟩
/-- the trees change -/
theorem NetSt.hang (N : NetSt K H H1 a c g tr tb cd base many fs r ts trs vs) (xs : List V) :
    (upd H1 tr (.lst xs)) tb = some (.lst vs) ∧ (upd H1 tr (.lst xs)) cd = some (.lst (fs.map fun f => V.int f.2.2)) ∧ MS (upd H1 tr (.lst xs)) a c g r ∧ Dr a g H (upd H1 tr (.lst xs)) ∧ Paired (TubeAt K (upd H1 tr (.lst xs))) vs ts := by
  have ap := N.apart N.trn
  exact ⟨by rw [upd_ne N.rb.symm]; exact N.tbA, by rw [upd_ne N.rc.symm]; exact N.cdA, N.ms.upd_new ap.1 ap.2.1 ap.2.2, N.dr.upd_new N.trn, Paired.mapP N.tbT fun _ _ h => h.keep (keepT_upd_lst N.trA)⟩
/-- one more pipe, its tuple new at tp, and its count -/
theorem NetSt.grow (a0 : H a ≠ none) (g0 : H g ≠ none) (c0 : H c ≠ none) (dr : Dr a g H H1) (ms : MS H1 a c g r) (trn : H tr = none) (tbn : H tb = none) (cdn : H cd = none) (rb : tr ≠ tb) (rc : tr ≠ cd) (bc : tb ≠ cd)
    (trA : H1 tr = some (.lst (trs.map natV))) (tbA : H1 tb = some (.lst vs)) (tbT : Paired (TubeAt K H1) vs ts) (cdA : H1 cd = some (.lst (fs.map fun f => V.int f.2.2))) (fl : Paired (Fits base) ts fs) (ok : ∀ p ∈ ts, TubeOk base many p)
    {tp : Addr} {p : Tube} {f : Leg} (htp : H1 tp = none) (hf : Fits base p f) (hok : TubeOk base many p) (hforest : Forest (ts ++ [p])) (huf : Trees trs many) (htells : Tells trs many (ts ++ [p])) :
    NetSt K H (upd (upd (upd H1 tp (.tup p.vs)) tb (.lst (vs ++ [.ref tp]))) cd (.lst ((fs.map fun f => V.int f.2.2) ++ [.int f.2.2]))) a c g tr tb cd base many (fs ++ [f]) r (ts ++ [p]) trs (vs ++ [.ref tp]) := by
  have ap : ∀ {q : Addr}, H q = none → q ≠ a ∧ q ≠ c ∧ q ≠ g := fun hq => ⟨fun z => a0 (z ▸ hq), fun z => c0 (z ▸ hq), fun z => g0 (z ▸ hq)⟩
  have htp0 : H tp = none := by
    cases e : H tp with
    | none => rfl
    | some o =>
      rw [dr _ _ (ms.fa htp) (ms.fg htp) e] at htp
      cases htp
  have nb : tb ≠ tp := ne_of_none tbA htp
  have nc : cd ≠ tp := ne_of_none cdA htp
  have nr : tr ≠ tp := ne_of_none trA htp
  have cdA1 : (upd (upd H1 tp (.tup p.vs)) tb (.lst (vs ++ [.ref tp]))) cd = some (.lst (fs.map fun f => V.int f.2.2)) := by
    rw [upd_ne bc.symm, upd_ne nc]
    exact cdA
  have tbA1 : (upd H1 tp (.tup p.vs)) tb = some (.lst vs) := by
    rw [upd_ne nb]
    exact tbA
  have k1 : KeepT H1 (upd H1 tp (.tup p.vs)) := (same_upd htp).keepT
  have k2 : KeepT (upd H1 tp (.tup p.vs)) (upd (upd H1 tp (.tup p.vs)) tb (.lst (vs ++ [.ref tp]))) := keepT_upd_lst tbA1
  have k3 : KeepT (upd (upd H1 tp (.tup p.vs)) tb (.lst (vs ++ [.ref tp]))) (upd (upd (upd H1 tp (.tup p.vs)) tb (.lst (vs ++ [.ref tp]))) cd (.lst ((fs.map fun f => V.int f.2.2) ++ [.int f.2.2]))) := keepT_upd_lst cdA1
  have k : KeepT H1 _ := (k1.trans k2).trans k3
  have snoc : ∀ {α β : Type} {F : α → β → Prop} {x : α} {y : β} {l : List α} {m : List β}, Paired F l m → F x y → Paired F (l ++ [x]) (m ++ [y]) := by
    intro α β F x y l m h r
    induction h with
    | nil => exact .cons r .nil
    | cons q _ ih => exact .cons q ih
  refine ⟨a0, g0, c0, ((dr.upd_new htp0).upd_new tbn).upd_new cdn, ((ms.upd_new (ap htp0).1 (ap htp0).2.1 (ap htp0).2.2).upd_new (ap tbn).1 (ap tbn).2.1 (ap tbn).2.2).upd_new (ap cdn).1 (ap cdn).2.1 (ap cdn).2.2, trn, tbn, cdn, rb, rc, bc, ?_, ?_, ?_, ?_, snoc fl hf, fun q hq => ?_, hforest, huf, htells⟩
  · rw [upd_ne rc, upd_ne rb, upd_ne nr]
    exact trA
  · rw [upd_ne bc, upd_same]
  · refine snoc (Paired.mapP tbT fun _ _ h => h.keep k) ⟨tp, rfl, SqT.of ?_⟩
    rw [upd_ne nc.symm, upd_ne nb.symm, upd_same]
  · rw [upd_same, List.map_append]
    rfl
  · rcases List.mem_append.mp hq with z | z
    · exact ok q z
    · have e : q = p := by simpa using z
      rw [e]
      exact hok
end
section
variable {P : Program} {w : World} {K : PySem.W.Frag} {mg : Str → Option Value} {base : Heap}
abbrev s_law_net : Stmt := top 41
theorem sc_law_net : FnScope ["m", "many", "rings", "more", "base", "trees", "tubes", "counts", "source", "target", "count", "low", "high", "meter", "near", "far", "way"] ["m", "many", "rings", "more"] (defScope s_law_net) := ⟨rfl, rfl, rfl, by decide +kernel, rfl, by decide +kernel, by decide +kernel⟩
def sp_law_net (K : PySem.W.Frag) : Sp := fun vs H Q _ => ∃ (a c g : Addr) (r many rings more : Nat), vs = [.ref a, .int many, .int rings, .int more] ∧ MS H a c g (r + 3000) ∧ 1 ≤ many ∧ many ≤ 24 ∧ rings ≤ 15 ∧ more ≤ 20 ∧ 4 * rings + more ≤ 60 ∧
  ∀ H' p na ca N fs, Dr a g H H' → MS H' a c g r → H' p = some (.tup [.ref na, .ref ca]) → NetAt K H' na N → NetOk N → N.many = many → H' ca = some (.tup (fs.map fun f : Leg => V.int f.2.2)) → Paired (Fits N.base) N.tubes fs → (∀ v, bal fs v = 0) → Q (.ref p) H'
set_option maxHeartbeats 4000000 in
theorem has_law_net (D : DefAt K mg "_law_net" s_law_net ["m", "many", "rings", "more"]) (T : Blt mg) (h_law_draw : Has P w K mg base "_law_draw" 2 ["m", "top"] sp_law_draw) (h_law_base : Has P w K mg base "_law_base" 3 ["m"] sp_law_base)
    (h_law_amount : Has P w K mg base "_law_amount" 3 ["m", "base"] sp_law_amount) (h_law_tubes : Has P w K mg base "_law_tubes" 4 ["m", "many", "base", "rings", "more"] (sp_law_tubes K)) (h_law_root : Has P w K mg base "_law_root" 1 ["trees", "at"] (sp_law_root K)) :
    Has P w K mg base "_law_net" 5 ["m", "many", "rings", "more"] (sp_law_net K) := by
  refine D.ok sc_law_net (fun vs H Q E h => ?_) (fun f cdv A outer s H vs Q E hr h => ?_)
  · obtain ⟨a, c, g, r, many, rings, more, rfl, _⟩ := h
    rfl
  · obtain ⟨a, c, g, r, many, rings, more, rfl, ms, hm1, hm24, hri, hmo, hlen60, q⟩ := h
    have a0 : H a ≠ none := by
      obtain ⟨⟨n, cells, gs, e1, _⟩, _⟩ := ms
      rw [e1]
      exact Option.some_ne_none _
    have c0 : H c ≠ none := by
      obtain ⟨⟨n, cells, gs, e1, e2, _⟩, _⟩ := ms
      rw [e2]
      exact Option.some_ne_none _
    have g0 : H g ≠ none := by
      obtain ⟨⟨n, cells, gs, e1, e2, e3, _⟩, _⟩ := ms
      rw [e3]
      exact Option.some_ne_none _
    refine ⟨_, (pss_cons (ps_asg (pe_tup (pa_cons (pe_own h_law_base (hr.mono (by decide)) (by rfl) (pa_cons (pv 0) pa_nil)) (pa_cons (pe_listRg rfl (by rfl) T.b_list (prg_1 (by rfl) T.b_range (pv 1))) (pa_cons (pe_lst pa_nil) (pa_cons (pe_lst pa_nil) pa_nil))))) (pg_tup rfl (pgs_cons (pg_name (i := 4) sc_law_net.nd rfl (.inl rfl)) (pgs_cons (pg_name (i := 5) sc_law_net.nd rfl (.inl rfl)) (pgs_cons (pg_name (i := 6) sc_law_net.nd rfl (.inl rfl)) (pgs_cons (pg_name (i := 7) sc_law_net.nd rfl (.inl rfl)) pgs_nil))))))
      (pss_cons (ps_for PassesOwn.never rfl (pi_list (pe_own h_law_tubes (hr.mono (by decide)) (by rfl) (pa_cons (pv 0) (pa_cons (pv 1) (pa_cons (pv 4) (pa_cons (pv 2) (pa_cons (pv 3) pa_nil))))))) (pg_unl rfl (pgs_cons (pg_name (i := 8) sc_law_net.nd rfl (.inl rfl)) (pgs_cons (pg_name (i := 9) sc_law_net.nd rfl (.inl rfl)) (pgs_cons (pg_name (i := 10) sc_law_net.nd rfl (.inl rfl)) pgs_nil)))) (pss_cons (ps_par (i := 11) (j := 12) (by rfl) sc_law_net.nd rfl rfl (by decide) rfl rfl (pa_cons (pe_callB (call_max2 rfl) (by rfl) T.b_max (by decide +kernel) (pa_cons pe_int (pa_cons (pe_op op_sub (pv 10) (pe_own h_law_amount (hr.mono (by decide)) (by rfl) (pa_cons (pv 0) (pa_cons (pv 4) pa_nil)))) pa_nil))) (pa_cons (pe_op op_add (pv 10) (pe_own h_law_amount (hr.mono (by decide)) (by rfl) (pa_cons (pv 0) (pa_cons (pv 4) pa_nil)))) pa_nil)) (by rfl))
      (pss_cons (ps_set (i := 13) sc_law_net.nd rfl (.inl rfl) (pe_op op_mod (pv 10) (pv 4)))
      (pss_cons (ps_par (i := 14) (j := 15) (by rfl) sc_law_net.nd rfl rfl (by decide) rfl rfl (pa_cons (pe_own h_law_root (hr.mono (by decide)) (by rfl) (pa_cons (pv 5) (pa_cons (pv 8) pa_nil))) (pa_cons (pe_own h_law_root (hr.mono (by decide)) (by rfl) (pa_cons (pv 5) (pa_cons (pv 9) pa_nil))) pa_nil)) (by rfl))
      (pss_cons (ps_set (i := 16) sc_law_net.nd rfl (.inl rfl) (pe_own h_law_draw (hr.mono (by decide)) (by rfl) (pa_cons (pv 0) (pa_cons pe_int pa_nil))))
      (pss_cons (ps_if (PW.pt (pw_and (pt_cmpR op_lt (pv 16) pe_int (nomark _)) (pw_and (pt_cmpR op_ne (pv 14) (pv 15) (nomark _)) (pw_and1 (pt_cmpR op_lt (pv 11) (pv 12) (nomark _)))))) (pss_one (ps_asg (pe_tup (pa_cons pe_non (pa_cons (pe_callB (call_min2 rfl) (by rfl) T.b_min (by decide +kernel) (pa_cons (pv 14) (pa_cons (pv 15) pa_nil))) pa_nil))) (pg_tup rfl (pgs_cons (pg_name (i := 13) sc_law_net.nd rfl (.inl rfl)) (pgs_cons (pg_sub (pv 5) (pe_callB (call_max2 rfl) (by rfl) T.b_max (by decide +kernel) (pa_cons (pv 14) (pa_cons (pv 15) pa_nil))) set_list) pgs_nil))))) pss_nil)
      (pss_cons (ps_if (pt_cmpR op_eq (pv 16) pe_int (nomark _)) (pss_one (ps_par3 (i := 11) (j := 12) (l := 13) (by rfl) sc_law_net.nd rfl rfl rfl (by decide) (by decide) (by decide) rfl rfl rfl (pa_cons (pv 10) (pa_cons (pv 10) (pa_cons (pe_ix ix_list (pe_lst (pa_cons (pv 13) (pa_cons pe_non pa_nil))) (pe_own h_law_draw (hr.mono (by decide)) (by rfl) (pa_cons (pv 0) (pa_cons pe_int pa_nil))) (fun _ _ => rfl)) pa_nil))) (by rfl))) pss_nil)
      (pss_cons (ps_expr (pe_bm PySem.F.plainAttrs_list PySem.F.slot_list_append PySem.F.type_list_append mt_append (pv 6) (pa_cons (pe_tup (pa_cons (pv 8) (pa_cons (pv 9) (pa_cons (pv 11) (pa_cons (pv 12) (pa_cons (pv 13) pa_nil)))))) pa_nil)))
      (pss_one (ps_expr (pe_bm PySem.F.plainAttrs_list PySem.F.slot_list_append PySem.F.type_list_append mt_append (pv 7) (pa_cons (pv 10) pa_nil))))))))))))
      (pss_one (ps_ret (pe_tup (pa_cons (pe_tup (pa_cons (pv 4) (pa_cons (pv 1) (pa_cons (pe_callTy call_tuple_of (by rfl) T.b_tuple (by decide +kernel) (pa_cons (pv 6) pa_nil)) pa_nil)))) (pa_cons (pe_callTy call_tuple_of (by rfl) T.b_tuple (by decide +kernel) (pa_cons (pv 7) pa_nil)) pa_nil))))))), ?_⟩
    -- base, trees, tubes, counts
    refine ⟨_, rfl, a, c, g, r + 2999, rfl, ms, fun H1 b d1 ms1 hb2 hb6 => ?_⟩
    refine ⟨_, rfl, _, rfl, RgOk.of_le (by omega) (by omega) (by omega) (by omega), fun tr htr => ⟨Nat.zero_le _, fun tb htb => ⟨Nat.zero_le _, fun cd hcd => ⟨(by show 4 ≤ sizeLine; decide), fun tq htq => ?_⟩⟩⟩⟩
    have fr : ∀ {p : Addr}, H1 p = none → H p = none := fun {p} hp => by
      cases e : H p with
      | none => rfl
      | some o =>
        rw [d1 _ _ (ms1.fa hp) (ms1.fg hp) e] at hp
        cases hp
    have s1 := same_upd (o := .lst (rgV 0 (many : Int))) htr
    have s2 := same_upd (o := .lst []) htb
    have s3 := same_upd (o := .lst []) hcd
    have s4 := same_upd (o := .tup [.int b, .ref tr, .ref tb, .ref cd]) htq
    have nrb : tr ≠ tb := fun z => by rw [← z, upd_same] at htb; cases htb
    have nrc : tr ≠ cd := fun z => by rw [← z, upd_ne nrb, upd_same] at hcd; cases hcd
    have nbc : tb ≠ cd := fun z => by rw [← z, upd_same] at hcd; cases hcd
    have htb1 : H1 tb = none := s1.free htb
    have hcd1 : H1 cd = none := s1.free (s2.free hcd)
    have N0 : NetSt K H (upd (upd (upd (upd H1 tr (.lst (rgV 0 (many : Int)))) tb (.lst [])) cd (.lst [])) tq (.tup [.int b, .ref tr, .ref tb, .ref cd])) a c g tr tb cd b many [] (r + 2999) [] (List.range many) [] := by
      have sm := ((s1.trans s2).trans s3).trans s4
      refine ⟨a0, g0, c0, d1.trans (Dr.same sm), ms1.same sm, fr htr, fr htb1, fr hcd1, nrb, nrc, nbc, ?_, ?_, .nil, ?_, .nil, fun p hp => absurd hp List.not_mem_nil, forest_nil, trees_range many, tells_nil many⟩
      · refine s4 _ _ (s3 _ _ (s2 _ _ ?_))
        rw [upd_same, rgV_nat]
      · exact s4 _ _ (s3 _ _ upd_same)
      · exact s4 _ _ upd_same
    have htq2 : (upd (upd (upd (upd H1 tr (.lst (rgV 0 (many : Int)))) tb (.lst [])) cd (.lst [])) tq (.tup [.int b, .ref tr, .ref tb, .ref cd])) tq = some (.tup [.int b, .ref tr, .ref tb, .ref cd]) := upd_same
    refine ⟨tq, _, rfl, SqT.of htq2, rfl, _, _, rfl, _, _, rfl, _, _, rfl, _, _, rfl, rfl, ?_⟩
    generalize upd (upd (upd (upd H1 tr (.lst (rgV 0 (many : Int)))) tb (.lst [])) cd (.lst [])) tq (.tup [.int b, .ref tr, .ref tb, .ref cd]) = H2 at N0
    -- the drawn legs
    refine ⟨_, rfl, _, rfl, _, rfl, _, rfl, _, rfl, a, c, g, r + 900, many, rings, more, b, rfl, N0.ms.le (by omega), hm1, hm24, hb2, hb6, hri, hmo, fun H3 p rs fs d3 ms3 hp hpa hprs hfl hlegs hbal hrn => ?_⟩
    have N3 := (N0.draw d3 ms3)
    have hp0 : H p = none := N0.fresh hp
    have hrn0 : ∀ x ∈ rs, H x = none := fun x hx => N0.fresh (hrn x hx)
    -- p and the legs stand apart from what the drawing changes
    have npt : p ≠ tr ∧ p ≠ tb ∧ p ≠ cd := ⟨(fun z => by rw [z, N0.trA] at hp; cases hp), (fun z => by rw [z, N0.tbA] at hp; cases hp), (fun z => by rw [z, N0.cdA] at hp; cases hp)⟩
    have nrt : ∀ x ∈ rs, x ≠ tr ∧ x ≠ tb ∧ x ≠ cd := fun x hx => by
      have hx0 := hrn x hx
      exact ⟨(fun z => by rw [z, N0.trA] at hx0; cases hx0), (fun z => by rw [z, N0.tbA] at hx0; cases hx0), (fun z => by rw [z, N0.cdA] at hx0; cases hx0)⟩
    have hrl : rs.length = fs.length := Paired.length hprs
    refine ⟨p, rfl, ⟨_, SqL.of hpa⟩, ?_⟩
    refine for_it (walk_list (xs := rs.map V.ref)) (fun i σ H' => ∃ ts trs vs y9 y10 y11 y12 y13 y14 y15 y16 y17, σ = [some (.ref a), some (.int many), some (.int rings), some (.int more), some (.int b), some (.ref tr), some (.ref tb), some (.ref cd), y9, y10, y11, y12, y13, y14, y15, y16, y17] ∧
        NetSt K H H' a c g tr tb cd b many (fs.take i) (r + 100 + 12 * (fs.length - i)) ts trs vs ∧ H' p = some (.lst (rs.map V.ref)) ∧ Paired (fun r f => H' r = some (.lst (legV f))) rs fs)
      ⟨[], List.range many, [], none, none, none, none, none, none, none, none, none, rfl, N3.le (by omega), hpa, hprs⟩ (fun i σ H' _ ⟨_, _, _, _, _, _, _, _, _, _, _, _, _, _, h, _⟩ => SqL.of h) ?_ ?_
    · rintro i v σ H4 H4' hi ⟨ts, trs, vs, y9, y10, y11, y12, y13, y14, y15, y16, y17, rfl, N4, hp4, hprs4⟩ ⟨rfl, hv⟩
      have hil : i < rs.length := by rw [List.length_map] at hi; exact hi
      have hgr : rs[i]? = some (rs[i]) := List.getElem?_eq_getElem hil
      generalize rs[i] = ri at hgr
      have hv : (rs.map V.ref)[i]? = some v := hv
      rw [List.getElem?_map, hgr] at hv
      have ev : V.ref ri = v := Option.some.inj hv
      subst ev
      obtain ⟨f, hf, ef⟩ := paired_at hprs4 hgr
      have hleg := hlegs f (List.mem_of_getElem? hf)
      have htk : fs.take (i + 1) = fs.take i ++ [f] := by
        rw [List.take_add_one, hf]
        rfl
      have hcost : r + 100 + 12 * (fs.length - i) = r + 100 + 12 * (fs.length - (i + 1)) + 12 := by omega
      rw [hcost] at N4
      generalize hr1 : r + 100 + 12 * (fs.length - (i + 1)) = r1 at N4
      have htl : ts.length = i := by
        have := Paired.length N4.fl
        rw [List.length_take] at this
        omega
      have hvl : vs.length = i := by
        have := Paired.length N4.tbT
        omega
      -- what stays while numbers are drawn and new objects are laid
      have keepL : ∀ {G G' : Hp}, (∀ b o, H b = none → b ≠ tr → b ≠ tb → b ≠ cd → G b = some o → G' b = some o) → G p = some (.lst (rs.map V.ref)) → Paired (fun r f => G r = some (.lst (legV f))) rs fs → G' p = some (.lst (rs.map V.ref)) ∧ Paired (fun r f => G' r = some (.lst (legV f))) rs fs := by
        intro G G' k h1 h2
        exact ⟨k _ _ hp0 npt.1 npt.2.1 npt.2.2 h1, Paired.mapMem h2 fun x f hx e => k _ _ (hrn0 x hx) (nrt x hx).1 (nrt x hx).2.1 (nrt x hx).2.2 e⟩
      refine ⟨ri, _, rfl, SqL.of ef, rfl, _, _, rfl, _, _, rfl, _, _, rfl, rfl, ?_⟩
      -- low, high
      refine ⟨_, rfl, _, rfl, _, rfl, a, c, g, _, b, rfl, N4.ms.le (r' := r1 + 8 + 4) (by omega), hb2, hb6, fun H5 x1 d5 ms5 h10 h11 => ?_⟩
      have N5 := N4.draw d5 ms5
      refine ⟨_, _, rfl, rfl, _, _, rfl, _, rfl, _, rfl, _, rfl, a, c, g, _, b, rfl, ms5.le (r' := r1 + 4 + 4) (by omega), hb2, hb6, fun H6 x2 d6 ms6 h20 h21 => ?_⟩
      have N6 := N5.draw d6 ms6
      refine ⟨_, _, rfl, rfl, _, _, rfl, ?_⟩
      -- meter = count % base
      refine ⟨_, rfl, _, rfl, _, _, rfl, rfl, by omega, ?_⟩
      -- near, far
      have hbnd : ∀ j y : Nat, trs[j]? = some y → y < trs.length := fun j y h => by
        have h1 := N6.uf.le j y h
        have h2 := (List.getElem?_eq_some_iff.mp h).1
        omega
      have hsl : f.1 < trs.length := by rw [N6.uf.len]; exact hleg.1
      have htl2 : f.2.1 < trs.length := by rw [N6.uf.len]; exact hleg.2.1
      have htrl : trs.length ≤ 1000 := by rw [N6.uf.len]; omega
      refine ⟨_, rfl, _, rfl, tr, trs, f.1, rfl, SqL.of N6.trA, htrl, hbnd, hsl, _, rfl, _, rfl, tr, trs, f.2.1, rfl, SqL.of N6.trA, htrl, hbnd, htl2, _, _, rfl, ?_⟩
      -- way
      refine ⟨_, rfl, a, c, g, _, 5, rfl, ms6.le (r' := r1 + 3 + 1) (by omega), by decide, by decide, fun H7 wy d7 ms7 hw0 hw1 => ?_⟩
      have N7 := N6.draw d7 ms7
      have hlow : ∀ {lo : Int}, lo = (if f.2.2 - x1 > 0 then f.2.2 - x1 else 0) → 0 ≤ lo ∧ lo ≤ f.2.2 := fun {lo} e => by
        have := hleg.2.2.2.1
        split at e <;> omega
      have hlo := hlow rfl
      generalize hlod : (if f.2.2 - x1 > 0 then f.2.2 - x1 else 0) = lo at hlo
      have hmet : 0 ≤ f.2.2 % b ∧ f.2.2 % b < b := ⟨Int.emod_nonneg _ (by omega), Int.emod_lt_of_pos _ (by omega)⟩
      have hc9 : f.2.2 ≤ 1000000000 := hleg.2.2.2.2
      have hn1 : f.1 < many := hleg.1
      have hn2 : f.2.1 < many := hleg.2.1
      have tsl : ts.length ≤ 60 := by omega
      -- a pipe is stored, and its count
      have fin : ∀ (H8 : Hp) (trs8 : List Nat) (p8 : Tube), Dr a g H H8 → MS H8 a c g r1 → H8 tr = some (.lst (trs8.map natV)) → H8 tb = some (.lst vs) → Paired (TubeAt K H8) vs ts → H8 cd = some (.lst ((fs.take i).map fun f => V.int f.2.2)) →
          Fits b p8 f → TubeOk b many p8 → Forest (ts ++ [p8]) → Trees trs8 many → Tells trs8 many (ts ++ [p8]) → H8 p = some (.lst (rs.map V.ref)) → Paired (fun r f => H8 r = some (.lst (legV f))) rs fs → ∀ tp, H8 tp = none →
          NetSt K H (upd (upd (upd H8 tp (.tup p8.vs)) tb (.lst (vs ++ [.ref tp]))) cd (.lst (((fs.take i).map fun f => V.int f.2.2) ++ [.int f.2.2]))) a c g tr tb cd b many (fs.take (i + 1)) r1 (ts ++ [p8]) trs8 (vs ++ [.ref tp]) ∧
          (upd (upd (upd H8 tp (.tup p8.vs)) tb (.lst (vs ++ [.ref tp]))) cd (.lst (((fs.take i).map fun f => V.int f.2.2) ++ [.int f.2.2]))) p = some (.lst (rs.map V.ref)) ∧
          Paired (fun r' f' => (upd (upd (upd H8 tp (.tup p8.vs)) tb (.lst (vs ++ [.ref tp]))) cd (.lst (((fs.take i).map fun f => V.int f.2.2) ++ [.int f.2.2]))) r' = some (.lst (legV f'))) rs fs := by
        intro H8 trs8 p8 e1 e2 e3 e4 e5 e6 e7 e8 e9 e10 e11 e12 e13 tp htp
        have G := NetSt.grow (K := K) (f := f) N7.a0 N7.g0 N7.c0 e1 e2 N7.trn N7.tbn N7.cdn N7.rb N7.rc N7.bc e3 e4 e5 e6 N7.fl N7.ok htp e7 e8 e9 e10 e11
        rw [← htk] at G
        refine ⟨G, keepL (G := H8) (fun x o hx n1 n2 n3 e => ?_) e12 e13⟩
        rw [upd_ne n3, upd_ne n2, upd_ne (ne_of_none e htp)]
        exact e
      have stay7 := keepL (G := H4') (G' := H7) (fun x o hx n1 n2 n3 e => by
        have ap := N4.apart hx
        exact d7 _ _ ap.1 ap.2.2 (d6 _ _ ap.1 ap.2.2 (d5 _ _ ap.1 ap.2.2 e))) hp4 hprs4
      have small : ∀ {xs : List V}, xs.length = i → xs.length < sizeLine := fun h => small1000 (by omega)
      have hcdl : ((fs.take i).map fun f : Leg => V.int f.2.2).length = i := by rw [List.length_map, List.length_take]; omega
      have closedOk : ∀ {l h : Int} {m : Option Int}, 0 ≤ l → l ≤ h → h ≤ 1010000000 → (∀ x, m = some x → 0 ≤ x ∧ x < b) → TubeOk b many ⟨f.1, f.2.1, l, h, m⟩ := fun h1 h2 h3 h4 => ⟨hn1, hn2, hleg.2.2.1, h1, h2, h3, h4⟩
      -- the two appends
      refine ⟨_, rfl, _, _, rfl, rfl, _, rfl, ite2r (iteF ?no) fun hw2 => ⟨_, rfl, _, rfl, rfl, _, rfl, ite2r (iteF ?no) fun hnf => ⟨_, rfl, _, rfl, _, _, rfl, rfl, _, rfl, ite2r ?no fun hlh => ?yes⟩⟩⟩
      case no =>
        refine ⟨_, rfl, rfl, _, rfl, ite2 (fun h4 => ?_) (fun h4 => ?_)⟩
        · -- low, high, meter = count, count, [meter, None][draw]
          refine ⟨_, rfl, _, rfl, _, rfl, (by show 2 ≤ sizeLine; decide), fun l hl => ?_⟩
          have N8 := N7.same (same_upd (o := .lst [.int (f.2.2 % b), .non]) hl)
          have stay8 := keepL (G := H7) (G' := upd H7 l (.lst [.int (f.2.2 % b), .non])) (fun x o hx _ _ _ e => same_upd hl _ _ e) stay7.1 stay7.2
          refine ⟨_, rfl, a, c, g, _, 2, rfl, N8.ms.le (r' := r1 + 1 + 1) (by omega), by decide, by decide, fun H9 ix d9 ms9 hx0 hx1 => ?_⟩
          have N9 := N8.draw d9 ms9
          have stay9 := keepL (G' := H9) (fun x o hx _ _ _ e => d9 _ _ (N8.apart hx).1 (N8.apart hx).2.2 e) stay8.1 stay8.2
          have hl9 := d9 _ _ (N8.apart (N7.fresh hl)).1 (N8.apart (N7.fresh hl)).2.2 (show (upd H7 l (.lst [.int (f.2.2 % b), .non])) l = _ from upd_same)
          obtain ⟨mv, hmv, hmem, _⟩ := atI_in (xs := [V.int (f.2.2 % b), .non]) hx0 hx1
          obtain ⟨m, hm1', hm2'⟩ : ∃ m : Option Int, mv = optV m ∧ ∀ x, m = some x → x = f.2.2 % b := by
            simp only [List.mem_cons, List.not_mem_nil, or_false] at hmem
            rcases hmem with rfl | rfl
            · exact ⟨some (f.2.2 % b), rfl, fun x e => (Option.some.inj e).symm⟩
            · exact ⟨none, rfl, fun x e => by cases e⟩
          subst hm1'
          refine ⟨l, _, ix, _, rfl, rfl, SqL.of hl9, hmv, _, _, _, rfl, ?_⟩
          have hwide : (Tube.mk f.1 f.2.1 f.2.2 f.2.2 m).wide = false := by
            unfold Tube.wide
            rw [show decide (f.2.2 < f.2.2) = false from decide_eq_false (by omega), Bool.and_false]
          refine ⟨_, rfl, .inl ⟨rfl, _, SqL.of N9.tbA⟩, _, rfl, _, rfl, _, rfl, _, rfl, _, rfl, (by show 5 ≤ sizeLine; decide), fun tp htp => ?_⟩
          have F := fin H9 trs ⟨f.1, f.2.1, f.2.2, f.2.2, m⟩ N9.dr (N9.ms.le (by omega)) N9.trA N9.tbA N9.tbT N9.cdA ⟨rfl, rfl, Int.le_refl _, Int.le_refl _, fun x e => (hm2' x e).symm⟩
            (closedOk hleg.2.2.2.1 (Int.le_refl _) (by omega) fun x e => by rw [hm2' x e]; exact hmet) (forest_closed N9.forest hwide) N9.uf (fun x y hx hy => by rw [oedge_closed hwide]; exact N9.tells x y hx hy) stay9.1 stay9.2 tp htp
          refine ⟨tb, vs, _, rfl, rfl, by rw [upd_ne (ne_of_none N9.tbA htp)]; exact N9.tbA, small hvl, ?_⟩
          have hcd2 : (upd (upd H9 tp (.tup [natV f.1, natV f.2.1, .int f.2.2, .int f.2.2, optV m])) tb (.lst (vs ++ [.ref tp]))) cd = some (.lst ((fs.take i).map fun f => V.int f.2.2)) := by
            rw [upd_ne N7.bc.symm, upd_ne (ne_of_none N9.cdA htp)]
            exact N9.cdA
          refine ⟨_, rfl, .inl ⟨rfl, _, SqL.of hcd2⟩, _, rfl, cd, _, _, rfl, rfl, hcd2, small hcdl, ?_⟩
          exact ⟨_, _, _, _, _, _, _, _, _, _, _, _, rfl, F⟩
        · have hwide : (Tube.mk f.1 f.2.1 lo (f.2.2 + x2) (some (f.2.2 % b))).wide = false := rfl
          refine ⟨_, rfl, .inl ⟨rfl, _, SqL.of N7.tbA⟩, _, rfl, _, rfl, _, rfl, _, rfl, _, rfl, (by show 5 ≤ sizeLine; decide), fun tp htp => ?_⟩
          have F := fin H7 trs ⟨f.1, f.2.1, lo, f.2.2 + x2, some (f.2.2 % b)⟩ N7.dr (N7.ms.le (by omega)) N7.trA N7.tbA N7.tbT N7.cdA ⟨rfl, rfl, hlo.2, by show f.2.2 ≤ f.2.2 + x2; omega, fun x e => Option.some.inj e⟩
            (closedOk hlo.1 (by omega) (by omega) fun x e => by rw [← Option.some.inj e]; exact hmet) (forest_closed N7.forest hwide) N7.uf (fun x y hx hy => by rw [oedge_closed hwide]; exact N7.tells x y hx hy) stay7.1 stay7.2 tp htp
          subst hlod
          refine ⟨tb, vs, _, rfl, rfl, by rw [upd_ne (ne_of_none N7.tbA htp)]; exact N7.tbA, small hvl, ?_⟩
          refine ⟨_, rfl, .inl ⟨rfl, _, SqL.of (xs := (fs.take i).map fun f => V.int f.2.2) ?_⟩, _, rfl, cd, _, _, rfl, rfl, ?_, small hcdl, ?_⟩
          · rw [upd_ne N7.bc.symm, upd_ne (ne_of_none N7.cdA htp)]
            exact N7.cdA
          · rw [upd_ne N7.bc.symm, upd_ne (ne_of_none N7.cdA htp)]
            exact N7.cdA
          · exact ⟨_, _, _, _, _, _, _, _, _, _, _, _, rfl, F⟩
      case yes =>
        have hRs : rootN trs trs.length f.1 < many := N7.uf.rt_lt hn1
        have hRt : rootN trs trs.length f.2.1 < many := N7.uf.rt_lt hn2
        have hne : rootN trs trs.length f.1 ≠ rootN trs trs.length f.2.1 := fun z => by
          rw [z, decide_eq_true rfl] at hnf
          cases hnf
        have hnear : rootN trs trs.length f.1 = rt trs f.1 := rfl
        have hfar : rootN trs trs.length f.2.1 = rt trs f.2.1 := rfl
        generalize hRsd : rootN trs trs.length f.1 = R at hRs hne hnear
        generalize hRtd : rootN trs trs.length f.2.1 = S at hRt hne hfar
        obtain ⟨M, m, hMm, hMn, hmm, eM, em⟩ : ∃ M m : Nat, m < M ∧ M < many ∧ ((M = rt trs f.1 ∧ m = rt trs f.2.1) ∨ (M = rt trs f.2.1 ∧ m = rt trs f.1)) ∧ (if (S : Int) > (R : Int) then (S : Int) else (R : Int)) = (M : Int) ∧ (if (S : Int) < (R : Int) then (S : Int) else (R : Int)) = (m : Int) := by
          rw [← hnear, ← hfar]
          rcases Nat.lt_or_gt_of_ne hne with h | h
          · exact ⟨S, R, h, hRt, .inr ⟨rfl, rfl⟩, if_pos (by omega), if_neg (by omega)⟩
          · exact ⟨R, S, h, hRs, .inl ⟨rfl, rfl⟩, if_neg (by omega), if_pos (by omega)⟩
        have hwide : (Tube.mk f.1 f.2.1 lo (f.2.2 + x2) none).wide = true := by
          unfold Tube.wide
          rw [hlh]
          rfl
        obtain ⟨uf8, tells8, hnc⟩ := Tells.wide (p := ⟨f.1, f.2.1, lo, f.2.2 + x2, none⟩) N7.uf N7.tells hwide hn1 hn2 hMm hMn hmm
        have hlenM : M < (trs.map natV).length := by rw [List.length_map, N7.uf.len]; exact hMn
        have hixM : ixN (trs.map natV).length (M : Int) = some M := by
          unfold ixN
          rw [if_pos (by omega), if_pos (by omega)]
          rfl
        have hset : (trs.map natV).set M (.int (m : Int)) = (trs.set M m).map natV := by
          rw [List.map_set]
          rfl
        refine ⟨_, rfl, _, rfl, _, _, rfl, (by show 2 ≤ sizeLine; decide), fun mn hmn => ?_⟩
        have sm := same_upd (o := .tup [.non, .int (if (S : Int) < (R : Int) then (S : Int) else (R : Int))]) hmn
        have N8 := N7.same sm
        have hmn2 : (upd H7 mn (.tup [.non, .int (if (S : Int) < (R : Int) then (S : Int) else (R : Int))])) mn = some (.tup [.non, .int (if (S : Int) < (R : Int) then (S : Int) else (R : Int))]) := upd_same
        have stay8 := keepL (G := H7) (G' := upd H7 mn (.tup [.non, .int (if (S : Int) < (R : Int) then (S : Int) else (R : Int))])) (fun x o hx _ _ _ e => sm _ _ e) stay7.1 stay7.2
        refine ⟨mn, _, rfl, SqT.of hmn2, rfl, _, _, rfl, _, _, rfl, _, rfl, _, rfl, _, rfl, _, _, rfl, tr, _, _, M, rfl, rfl, N8.trA, ?_, rfl, ?_⟩
        · rw [eM]
          exact hixM
        generalize upd H7 mn (.tup [.non, .int (if (S : Int) < (R : Int) then (S : Int) else (R : Int))]) = H9 at N8 stay8
        obtain ⟨g1, g2, g3, g4, g5⟩ := N8.hang ((trs.map natV).set M (.int (if (S : Int) < (R : Int) then (S : Int) else (R : Int))))
        have stay9 := keepL (G := H9) (G' := upd H9 tr (.lst ((trs.map natV).set M (.int (if (S : Int) < (R : Int) then (S : Int) else (R : Int)))))) (fun x o hx n1 _ _ e => by rw [upd_ne n1]; exact e) stay8.1 stay8.2
        have htr9 : (upd H9 tr (.lst ((trs.map natV).set M (.int (if (S : Int) < (R : Int) then (S : Int) else (R : Int)))))) tr = some (.lst ((trs.set M m).map natV)) := by
          rw [em, hset]
          exact upd_same
        generalize upd H9 tr (.lst ((trs.map natV).set M (.int (if (S : Int) < (R : Int) then (S : Int) else (R : Int))))) = H10 at g1 g2 g3 g4 g5 stay9 htr9
        refine ⟨_, rfl, rfl, _, rfl, ite2 (fun h4 => absurd (V.int.inj (of_decide_eq_true h4)) (by have := of_decide_eq_true hw2; omega)) (fun _ => ?_)⟩
        refine ⟨_, rfl, .inl ⟨rfl, _, SqL.of g1⟩, _, rfl, _, rfl, _, rfl, _, rfl, _, rfl, (by show 5 ≤ sizeLine; decide), fun tp htp => ?_⟩
        have F := fin H10 (trs.set M m) ⟨f.1, f.2.1, lo, f.2.2 + x2, none⟩ g4 (g3.le (by omega)) htr9 g1 g5 g2 ⟨rfl, rfl, hlo.2, by show f.2.2 ≤ f.2.2 + x2; omega, fun x e => by cases e⟩
          (closedOk hlo.1 (by omega) (by omega) fun x e => by cases e) (forest_wide N7.forest hwide hnc) uf8 tells8 stay9.1 stay9.2 tp htp
        subst hlod
        refine ⟨tb, vs, _, rfl, rfl, by rw [upd_ne (ne_of_none g1 htp)]; exact g1, small hvl, ?_⟩
        refine ⟨_, rfl, .inl ⟨rfl, _, SqL.of (xs := (fs.take i).map fun f => V.int f.2.2) ?_⟩, _, rfl, cd, _, _, rfl, rfl, ?_, small hcdl, ?_⟩
        · rw [upd_ne N7.bc.symm, upd_ne (ne_of_none g2 htp)]
          exact g2
        · rw [upd_ne N7.bc.symm, upd_ne (ne_of_none g2 htp)]
          exact g2
        · exact ⟨_, _, _, _, _, _, _, _, _, _, _, _, rfl, F⟩
    · rintro σ H8 ⟨ts, trs, vs, y9, y10, y11, y12, y13, y14, y15, y16, y17, rfl, N8, hp8, hprs8⟩
      rw [List.length_map, hrl, List.take_length] at N8
      have htl : ts.length = fs.length := Paired.length N8.fl
      refine ⟨_, rfl, _, rfl, _, rfl, tb, vs, rfl, .inl ⟨SqL.of N8.tbA, fun t1 ht1 => ⟨(by show 3 ≤ sizeLine; decide), fun na hna => ?_⟩⟩⟩
      have u1 := same_upd (o := .tup vs) ht1
      have u2 := same_upd (o := .tup [.int b, .int many, .ref t1]) hna
      refine ⟨_, rfl, cd, _, rfl, .inl ⟨SqL.of (u2 _ _ (u1 _ _ N8.cdA)), fun ca hca => ⟨(by show 2 ≤ sizeLine; decide), fun pp hpp => ?_⟩⟩⟩
      have u3 := same_upd (o := .tup (fs.map fun f => V.int f.2.2)) hca
      have u4 := same_upd (o := .tup [.ref na, .ref ca]) hpp
      have sm := ((u1.trans u2).trans u3).trans u4
      exact q _ pp na ca ⟨b, many, ts⟩ fs (N8.dr.trans (Dr.same sm)) ((N8.ms.le (by omega)).same sm) upd_same ⟨t1, vs, SqT.of (u4 _ _ (u3 _ _ upd_same)), SqT.of (u4 _ _ (u3 _ _ (u2 _ _ upd_same))), Paired.mapP N8.tbT fun _ _ h => h.keep sm.keepT⟩
        ⟨hb2, hb6, hm1, hm24, by show ts.length ≤ 60; omega, N8.ok, N8.forest⟩ rfl (u4 _ _ upd_same) N8.fl hbal
end
end Wc

set_option Elab.async false
set_option linter.all false
set_option maxRecDepth 100000
namespace Wc
open PySem PySem.Spec PyProof.Rows L2
/-! What the drawing side asks of a network: which pipes enter and leave, what is shown, what is joined. -/
/-- places, in a list or a tuple -/
def Spots (K : PySem.W.Frag) (H : Hp) (v : V) (S : List Nat) : Prop := ∃ a, v = .ref a ∧ (SqL K H a (S.map natV) ∨ SqT K H a (S.map natV))
def ent (S : List Nat) (p : Tube) : Bool := decide (p.t ∈ S) && !decide (p.s ∈ S)
def exi (S : List Nat) (p : Tube) : Bool := decide (p.s ∈ S) && !decide (p.t ∈ S)
/-- the indexes below i of the pipes that c holds of -/
def hits (c : Tube → Bool) (ts : List Tube) (i : Nat) : List Nat := (List.range i).filter fun k => (ts[k]?).any c
theorem hits_succ {c : Tube → Bool} {ts : List Tube} {i : Nat} {p : Tube} (h : ts[i]? = some p) : hits c ts (i + 1) = hits c ts i ++ if c p = true then [i] else [] := by
  unfold hits
  rw [List.range_succ, List.filter_append, List.filter_cons, h]
  rfl
theorem hits_le (c : Tube → Bool) (ts : List Tube) (i : Nat) : (hits c ts i).length ≤ i := by
  have := List.length_filter_le (fun k => (ts[k]?).any c) (List.range i)
  rw [List.length_range] at this
  exact this
theorem inV_nat (x : Nat) (S : List Nat) : inV (natV x) (S.map natV) = decide (x ∈ S) := by
  induction S with
  | nil => rfl
  | cons y S ih =>
    show (eqV (natV y) (natV x) || inV (natV x) (S.map natV)) = _
    rw [ih]
    have e : eqV (natV y) (natV x) = decide (x = y) := by
      show decide ((y : Int) = (x : Int)) = _
      by_cases h : x = y
      · rw [decide_eq_true h, decide_eq_true (by omega)]
      · rw [decide_eq_false h, decide_eq_false (by omega)]
    rw [e]
    by_cases h : x = y <;> by_cases h2 : x ∈ S <;> simp [h, h2]
theorem flat_nats (S : List Nat) : (S.map natV).all flatV = true := by
  rw [List.all_eq_true]
  intro v hv
  obtain ⟨x, _, rfl⟩ := List.mem_map.mp hv
  rfl
/-- the residue that a closed pipe shows -/
def Tube.shown (p : Tube) (b : Int) : Int := match p.me with
  | none => p.lo % b
  | some m => m
theorem Same.seqL {K : PySem.W.Frag} {H H' : Hp} {a : Addr} {xs : List V} (s : Same H H') (h : SqL K H a xs) : SqL K H' a xs := by
  rcases h with (e | ⟨o, e⟩) | h
  · exact .inl (.inl (s _ _ e))
  · exact .inl (.inr ⟨o, s _ _ e⟩)
  · exact .inr h
theorem Spots.at {K : PySem.W.Frag} {H H' : Hp} {a : Addr} {S : List Nat} (s : Same H H') (h : SqL K H a (S.map natV) ∨ SqT K H a (S.map natV)) : SqL K H' a (S.map natV) ∨ SqT K H' a (S.map natV) := h.imp (Same.seqL s) s.keepT.seq
section
variable {P : Program} {w : World} {K : PySem.W.Frag} {mg : Str → Option Value} {base : Heap}
abbrev s_law_is_wide : Stmt := top 44
theorem sc_law_is_wide : FnScope ["tube"] ["tube"] (defScope s_law_is_wide) := ⟨rfl, rfl, rfl, by decide +kernel, rfl, by decide +kernel, by decide +kernel⟩
theorem has_law_is_wide (D : DefAt K mg "_law_is_wide" s_law_is_wide ["tube"]) : Has P w K mg base "_law_is_wide" 1 ["tube"] (sp_is_open_pipe K) := by
  refine D.ok sc_law_is_wide (fun vs H Q E h => ?_) (fun f cdv A outer s H vs Q E hr h => ?_)
  · obtain ⟨v, p, rfl, _⟩ := h
    rfl
  · obtain ⟨v, p, rfl, ⟨a, rfl, hp⟩, q⟩ := h
    refine ⟨_, (pss_one (ps_ret (pe_and (pe_cmpR op_isN (pe_ix ix_tup (pv 0) pe_int (fun _ _ => rfl)) pe_non (nomark _)) (pe_one (pe_cmpR op_lt (pe_ix ix_tup (pv 0) pe_int (fun _ _ => rfl)) (pe_ix ix_tup (pv 0) pe_int (fun _ _ => rfl)) (nomark _)))))), ?_⟩
    refine ⟨_, rfl, a, _, 4, _, rfl, rfl, hp, atI_nat (j := 4) rfl, rfl, _, rfl, ?_⟩
    rw [optV_non]
    refine ite2 (fun e => ?_) (fun e => ?_)
    · refine ⟨_, rfl, a, _, 2, _, rfl, rfl, hp, atI_nat (j := 2) rfl, _, rfl, a, _, 3, _, rfl, rfl, hp, atI_nat (j := 3) rfl, _, _, rfl, rfl, ?_⟩
      unfold Tube.wide at q
      rw [e, Bool.true_and] at q
      exact q
    · rw [Bool.not_eq_true] at e
      unfold Tube.wide at q
      rw [e, Bool.false_and] at q
      exact q
abbrev s_law_shown : Stmt := top 49
theorem sc_law_shown : FnScope ["net", "tube"] ["net", "tube"] (defScope s_law_shown) := ⟨rfl, rfl, rfl, by decide +kernel, rfl, by decide +kernel, by decide +kernel⟩
def sp_law_shown (K : PySem.W.Frag) : Sp := fun vs H Q _ => ∃ (a : Addr) (N : Net) (v : V) (p : Tube), vs = [.ref a, v] ∧ NetAt K H a N ∧ 0 < N.base ∧ TubeAt K H v p ∧ Q (.int (p.shown N.base)) H
theorem has_law_shown (D : DefAt K mg "_law_shown" s_law_shown ["net", "tube"]) : Has P w K mg base "_law_shown" 1 ["net", "tube"] (sp_law_shown K) := by
  refine D.ok sc_law_shown (fun vs H Q E h => ?_) (fun f cdv A outer s H vs Q E hr h => ?_)
  · obtain ⟨a, N, v, p, rfl, _⟩ := h
    rfl
  · obtain ⟨a, N, v, p, rfl, ⟨b, xs, ha, hb, hts⟩, hbase, ⟨a1, rfl, hp⟩, q⟩ := h
    refine ⟨_, (pss_one (ps_ret (pe_ifExp (pt_cmpR op_isN (pe_ix ix_tup (pv 1) pe_int (fun _ _ => rfl)) pe_non (nomark _)) (pe_op op_mod (pe_ix ix_tup (pv 1) pe_int (fun _ _ => rfl)) (pe_ix ix_tup (pv 0) pe_int (fun _ _ => rfl))) (pe_ix ix_tup (pv 1) pe_int (fun _ _ => rfl))))), ?_⟩
    refine ⟨_, rfl, a1, _, 4, _, rfl, rfl, hp, atI_nat (j := 4) rfl, rfl, ?_⟩
    cases hm : p.me with
    | none =>
      unfold Tube.shown at q
      rw [hm] at q
      refine ⟨_, rfl, iteT ?_⟩
      exact ⟨_, rfl, a1, _, 2, _, rfl, rfl, hp, atI_nat (j := 2) rfl, _, rfl, a, _, 0, _, rfl, rfl, ha, atI_nat (j := 0) rfl, _, _, rfl, rfl, hbase, q⟩
    | some m =>
      unfold Tube.shown at q
      rw [hm] at q
      refine ⟨_, rfl, iteF ?_⟩
      exact ⟨_, rfl, a1, _, 4, _, rfl, rfl, hp, atI_nat (j := 4) (by unfold Tube.vs; rw [hm]; rfl), q⟩
abbrev s_law_ins : Stmt := top 45
theorem sc_law_ins : FnScope ["net", "spots", "at", "tube"] ["net", "spots"] (defScope s_law_ins) := ⟨rfl, rfl, rfl, by decide +kernel, rfl, by decide +kernel, by decide +kernel⟩
def sp_law_hits (K : PySem.W.Frag) (c : List Nat → Tube → Bool) : Sp := fun vs H Q _ => ∃ (a : Addr) (N : Net) (v : V) (S : List Nat), vs = [.ref a, v] ∧ NetAt K H a N ∧ N.tubes.length ≤ 60 ∧ Spots K H v S ∧
  ∀ H' l, Same H H' → H l = none → H' l = some (.lst ((hits (c S) N.tubes N.tubes.length).map natV)) → Q (.ref l) H'
theorem has_law_ins (D : DefAt K mg "_law_ins" s_law_ins ["net", "spots"]) (T : Blt mg) : Has P w K mg base "_law_ins" 1 ["net", "spots"] (sp_law_hits K ent) := by
  refine D.ok sc_law_ins (fun vs H Q E h => ?_) (fun f cdv A outer s H vs Q E hr h => ?_)
  · obtain ⟨a, N, v, S, rfl, _⟩ := h
    rfl
  · obtain ⟨a, N, v, S, rfl, ⟨b, xs, ha, hb, hts⟩, hlen, ⟨sa, rfl, hS⟩, q⟩ := h
    have hxl : xs.length = N.tubes.length := Paired.length hts
    refine ⟨_, (pss_one (ps_ret (pe_lc (own := [("at", 2), ("tube", 3)]) (g := gTup K 2 (gCons (gName 2) (gCons (gName 3) gNil))) rfl sc_law_ins.nd (pi_enumT (by rfl) T.b_enumerate (pa_cons (pe_ix ix_tup (pv 0) pe_int (fun _ _ => rfl)) pa_nil)) (blkOk_by (N := ["net", "spots", "at", "tube"]) (sc := defScope s_law_ins) (by decide +kernel)) (fun _ _ _ _ _ => (pg_tupK K 2 rfl (pgs_cons (pg_name (i := 2) sc_law_ins.nd rfl (Or.inl rfl)) (pgs_cons (pg_name (i := 3) sc_law_ins.nd rfl (Or.inl rfl)) pgs_nil)))) (fun _ _ _ _ _ => (pts_one (PW.pt (pw_and (pt_cmpR (op_inK K) (pe_ix (ix_tupK K) (pv 3) pe_int (fun _ _ => rfl)) (pv 1) (by rfl)) (pw_and1 (pt_cmpR (op_notInK K) (pe_ix (ix_tupK K) (pv 3) pe_int (fun _ _ => rfl)) (pv 1) (by rfl))))))) (fun _ _ _ _ _ => (pv 2))))), ?_⟩
    refine ⟨_, rfl, a, _, 2, _, rfl, rfl, ha, atI_nat (j := 2) rfl, b, xs, rfl, hb, fun l hl => ?_⟩
    refine lc_it walk_enumT (fun i H' => Same H H' ∧ H' l = some (.lst ((hits (ent S) N.tubes i).map natV))) ⟨same_upd hl, upd_same⟩ (fun i H' _ ⟨s2, _⟩ => s2.keepT.seq hb) ?_ ?_
    · rintro i v H2 H3 hi ⟨s2, hacc⟩ ⟨T0, x1, x2, rfl, hT0, rfl, e1, e2⟩
      cases e1
      obtain ⟨p, hp, a1, rfl, hpa⟩ := paired_get hts e2
      have sT : Same H2 (upd H2 T0 (.tup [.int (i : Nat), .ref a1])) := same_upd hT0
      have s3 : Same H (upd H2 T0 (.tup [.int (i : Nat), .ref a1])) := s2.trans sT
      have hpa3 := s3.keepT.seq hpa
      refine ⟨T0, _, rfl, SqT.of upd_same, rfl, _, _, rfl, _, _, rfl, rfl, ?_⟩
      have hS3 := Spots.at s3 hS
      have hl3 := sT _ _ hacc
      have hlen3 := hits_le (ent S) N.tubes i
      refine ⟨rfl, _, rfl, a1, _, 1, _, rfl, rfl, hpa3, atI_nat (j := 1) rfl, _, rfl, sa, _, rfl, hS3, rfl, flat_nats S, _, rfl, ?_⟩
      have yes : ent S p = true → Same H (upd (upd H2 T0 (.tup [.int (i : Nat), .ref a1])) l (.lst (((hits (ent S) N.tubes i).map natV) ++ [.int (i : Nat)]))) ∧ (upd (upd H2 T0 (.tup [.int (i : Nat), .ref a1])) l (.lst (((hits (ent S) N.tubes i).map natV) ++ [.int (i : Nat)]))) l = some (.lst ((hits (ent S) N.tubes (i + 1)).map natV)) := fun hc => by
        rw [hits_succ hp, if_pos hc]
        refine ⟨fun x o e => ?_, ?_⟩
        · rw [upd_ne (ne_of_none e hl)]
          exact s3 _ _ e
        · rw [upd_same, List.map_append]
          rfl
      have no : ¬ ent S p = true → Same H (upd H2 T0 (.tup [.int (i : Nat), .ref a1])) ∧ (upd H2 T0 (.tup [.int (i : Nat), .ref a1])) l = some (.lst ((hits (ent S) N.tubes (i + 1)).map natV)) := fun hc => by
        rw [hits_succ hp, if_neg hc, List.append_nil]
        exact ⟨s3, hl3⟩
      show (if (inV (natV p.t) (S.map natV)) = true then _ else _)
      rw [inV_nat]
      refine ite2 (fun h1 => ⟨_, rfl, a1, _, 0, _, rfl, rfl, hpa3, atI_nat (j := 0) rfl, _, rfl, sa, _, rfl, hS3, rfl, flat_nats S, _, rfl, ?_⟩) (fun h1 => ?_)
      · show (if (!(inV (natV p.s) (S.map natV))) = true then _ else _)
        rw [inV_nat]
        refine ite2 (fun h2 => ⟨_, rfl, _, hl3, small1000 (by rw [List.length_map]; omega), yes ?_⟩) (fun h2 => no ?_)
        · unfold ent
          rw [h1, h2]
          rfl
        · unfold ent
          rw [h1, Bool.eq_false_iff.mpr h2]
          decide
      · refine iteF (no ?_)
        unfold ent
        rw [Bool.eq_false_iff.mpr h1]
        exact Bool.false_ne_true
    · rintro H2 ⟨s2, hacc⟩
      rw [hxl] at hacc
      exact q H2 l s2 hl hacc
abbrev s_law_outs : Stmt := top 46
theorem sc_law_outs : FnScope ["net", "spots", "at", "tube"] ["net", "spots"] (defScope s_law_outs) := ⟨rfl, rfl, rfl, by decide +kernel, rfl, by decide +kernel, by decide +kernel⟩
theorem has_law_outs (D : DefAt K mg "_law_outs" s_law_outs ["net", "spots"]) (T : Blt mg) : Has P w K mg base "_law_outs" 1 ["net", "spots"] (sp_law_hits K exi) := by
  refine D.ok sc_law_outs (fun vs H Q E h => ?_) (fun f cdv A outer s H vs Q E hr h => ?_)
  · obtain ⟨a, N, v, S, rfl, _⟩ := h
    rfl
  · obtain ⟨a, N, v, S, rfl, ⟨b, xs, ha, hb, hts⟩, hlen, ⟨sa, rfl, hS⟩, q⟩ := h
    have hxl : xs.length = N.tubes.length := Paired.length hts
    refine ⟨_, (pss_one (ps_ret (pe_lc (own := [("at", 2), ("tube", 3)]) (g := gTup K 2 (gCons (gName 2) (gCons (gName 3) gNil))) rfl sc_law_outs.nd (pi_enumT (by rfl) T.b_enumerate (pa_cons (pe_ix ix_tup (pv 0) pe_int (fun _ _ => rfl)) pa_nil)) (blkOk_by (N := ["net", "spots", "at", "tube"]) (sc := defScope s_law_outs) (by decide +kernel)) (fun _ _ _ _ _ => (pg_tupK K 2 rfl (pgs_cons (pg_name (i := 2) sc_law_outs.nd rfl (Or.inl rfl)) (pgs_cons (pg_name (i := 3) sc_law_outs.nd rfl (Or.inl rfl)) pgs_nil)))) (fun _ _ _ _ _ => (pts_one (PW.pt (pw_and (pt_cmpR (op_inK K) (pe_ix (ix_tupK K) (pv 3) pe_int (fun _ _ => rfl)) (pv 1) (by rfl)) (pw_and1 (pt_cmpR (op_notInK K) (pe_ix (ix_tupK K) (pv 3) pe_int (fun _ _ => rfl)) (pv 1) (by rfl))))))) (fun _ _ _ _ _ => (pv 2))))), ?_⟩
    refine ⟨_, rfl, a, _, 2, _, rfl, rfl, ha, atI_nat (j := 2) rfl, b, xs, rfl, hb, fun l hl => ?_⟩
    refine lc_it walk_enumT (fun i H' => Same H H' ∧ H' l = some (.lst ((hits (exi S) N.tubes i).map natV))) ⟨same_upd hl, upd_same⟩ (fun i H' _ ⟨s2, _⟩ => s2.keepT.seq hb) ?_ ?_
    · rintro i v H2 H3 hi ⟨s2, hacc⟩ ⟨T0, x1, x2, rfl, hT0, rfl, e1, e2⟩
      cases e1
      obtain ⟨p, hp, a1, rfl, hpa⟩ := paired_get hts e2
      have sT : Same H2 (upd H2 T0 (.tup [.int (i : Nat), .ref a1])) := same_upd hT0
      have s3 : Same H (upd H2 T0 (.tup [.int (i : Nat), .ref a1])) := s2.trans sT
      have hpa3 := s3.keepT.seq hpa
      refine ⟨T0, _, rfl, SqT.of upd_same, rfl, _, _, rfl, _, _, rfl, rfl, ?_⟩
      have hS3 := Spots.at s3 hS
      have hl3 := sT _ _ hacc
      have hlen3 := hits_le (exi S) N.tubes i
      refine ⟨rfl, _, rfl, a1, _, 0, _, rfl, rfl, hpa3, atI_nat (j := 0) rfl, _, rfl, sa, _, rfl, hS3, rfl, flat_nats S, _, rfl, ?_⟩
      have yes : exi S p = true → Same H (upd (upd H2 T0 (.tup [.int (i : Nat), .ref a1])) l (.lst (((hits (exi S) N.tubes i).map natV) ++ [.int (i : Nat)]))) ∧ (upd (upd H2 T0 (.tup [.int (i : Nat), .ref a1])) l (.lst (((hits (exi S) N.tubes i).map natV) ++ [.int (i : Nat)]))) l = some (.lst ((hits (exi S) N.tubes (i + 1)).map natV)) := fun hc => by
        rw [hits_succ hp, if_pos hc]
        refine ⟨fun x o e => ?_, ?_⟩
        · rw [upd_ne (ne_of_none e hl)]
          exact s3 _ _ e
        · rw [upd_same, List.map_append]
          rfl
      have no : ¬ exi S p = true → Same H (upd H2 T0 (.tup [.int (i : Nat), .ref a1])) ∧ (upd H2 T0 (.tup [.int (i : Nat), .ref a1])) l = some (.lst ((hits (exi S) N.tubes (i + 1)).map natV)) := fun hc => by
        rw [hits_succ hp, if_neg hc, List.append_nil]
        exact ⟨s3, hl3⟩
      show (if (inV (natV p.s) (S.map natV)) = true then _ else _)
      rw [inV_nat]
      refine ite2 (fun h1 => ⟨_, rfl, a1, _, 1, _, rfl, rfl, hpa3, atI_nat (j := 1) rfl, _, rfl, sa, _, rfl, hS3, rfl, flat_nats S, _, rfl, ?_⟩) (fun h1 => ?_)
      · show (if (!(inV (natV p.t) (S.map natV))) = true then _ else _)
        rw [inV_nat]
        refine ite2 (fun h2 => ⟨_, rfl, _, hl3, small1000 (by rw [List.length_map]; omega), yes ?_⟩) (fun h2 => no ?_)
        · unfold exi
          rw [h1, h2]
          rfl
        · unfold exi
          rw [h1, Bool.eq_false_iff.mpr h2]
          decide
      · refine iteF (no ?_)
        unfold exi
        rw [Bool.eq_false_iff.mpr h1]
        exact Bool.false_ne_true
    · rintro H2 ⟨s2, hacc⟩
      rw [hxl] at hacc
      exact q H2 l s2 hl hacc
end
end Wc

set_option Elab.async false
set_option linter.all false
set_option maxRecDepth 100000
namespace Wc
open PySem PySem.Spec PyProof.Rows L2
section
variable {P : Program} {w : World} {K : PySem.W.Frag} {mg : Str → Option Value} {base : Heap}
abbrev s_find_branches : Stmt := top 15
theorem sc_find_branches : FnScope ["places", "pipes", "many", "links", "count", "index", "source", "target", "low", "high", "meter", "branches", "place", "end", "pipe", "other"] ["places", "pipes"] (defScope s_find_branches) := ⟨rfl, rfl, rfl, by decide +kernel, rfl, by decide +kernel, by decide +kernel⟩
/-- branches in the heap -/
def BrV (H : Hp) (r : Addr) (b : Br) : Prop := H r = some (.tup [natV b.1, natV b.2.1, natV b.2.2])
def BrsAt (H : Hp) (l : Addr) (B : List Br) : Prop := ∃ rs : List Addr, H l = some (.lst (rs.map V.ref)) ∧ Paired (BrV H) rs B
def mu (bd : Addr) (H : Hp) : Nat := match H bd with
  | some (.lst xs) => 61 - xs.length
  | _ => 0
theorem mu_eq {H : Hp} {bd : Addr} {xs : List V} (h : H bd = some (.lst xs)) : mu bd H = 61 - xs.length := by
  unfold mu
  rw [h]
structure PSt (ts : List Tube) (n : Nat) (H H' : Hp) (md ld bd : Addr) (M L : List Int) (B : List Br) (rs : List Addr) : Prop where
  sm : Same H H'
  m : H' md = some (.lst (M.map V.int))
  l : H' ld = some (.lst (L.map V.int))
  b : H' bd = some (.lst (rs.map V.ref))
  br : Paired (BrV H') rs B
  pl : Peel ts n M L B
def sp_find_branches (K : PySem.W.Frag) : Sp := fun vs H Q _ => ∃ (n : Nat) (b : Addr) (xs : List V) (ts : List Tube), vs = [.int n, .ref b] ∧ SqT K H b xs ∧ Paired (TubeAt K H) xs ts ∧ (∀ p ∈ ts, p.s < n ∧ p.t < n ∧ p.s ≠ p.t) ∧ n ≤ 24 ∧ ts.length ≤ 60 ∧ Forest ts ∧
  ∀ H' l B, Same H H' → H l = none → BrsAt H' l B → BrsOf ts B → Q (.ref l) H'
set_option hygiene false
local macro_rules | `(tactic| walk_at "peel_rest") => `(tactic| (
  obtain ⟨hon, hov, mo, lo, hmo, hlo, hP⟩ := hpe
  have hPl := hP.br.len
  rw [List.length_append, List.length_singleton] at hPl
  refine ⟨_, rfl, .inl ⟨rfl, _, SqL.of S.b⟩, _, rfl, _, rfl, _, rfl, (by show 3 ≤ sizeLine; decide), fun T1 hT1 => ⟨bd, _, _, rfl, rfl, by rw [upd_ne (ne_of_none S.b hT1)]; exact S.b, small1000 (by rw [List.length_map]; omega), ?_⟩⟩
  have n1 := ne_of_none S.m hT1
  have n2 := ne_of_none S.l hT1
  have n3 := ne_of_none S.b hT1
  have m5 : (upd (upd H4 T1 (.tup [.int (k : Int), natV v, .int (o : Int)])) bd (.lst (rs.map V.ref ++ [.ref T1]))) md = some (.lst (M.map V.int)) := by
    rw [upd_ne nmb, upd_ne n1]
    exact S.m
  have l5 : (upd (upd H4 T1 (.tup [.int (k : Int), natV v, .int (o : Int)])) bd (.lst (rs.map V.ref ++ [.ref T1]))) ld = some (.lst (L.map V.int)) := by
    rw [upd_ne nlb, upd_ne n2]
    exact S.l
  have b5 : (upd (upd H4 T1 (.tup [.int (k : Int), natV v, .int (o : Int)])) bd (.lst (rs.map V.ref ++ [.ref T1]))) bd = some (.lst ((rs ++ [T1]).map V.ref)) := by
    rw [upd_same, List.map_append]
    rfl
  have t5 : (upd (upd H4 T1 (.tup [.int (k : Int), natV v, .int (o : Int)])) bd (.lst (rs.map V.ref ++ [.ref T1]))) T1 = some (.tup [.int (k : Int), natV v, .int (o : Int)]) := by
    rw [upd_ne n3.symm, upd_same]
  have k5 : ∀ x u, x ≠ bd → H4 x = some u → (upd (upd H4 T1 (.tup [.int (k : Int), natV v, .int (o : Int)])) bd (.lst (rs.map V.ref ++ [.ref T1]))) x = some u := fun x u hx e => by
    rw [upd_ne hx, upd_ne (ne_of_none e hT1)]
    exact e
  generalize upd (upd H4 T1 (.tup [.int (k : Int), natV v, .int (o : Int)])) bd (.lst (rs.map V.ref ++ [.ref T1])) = H5 at m5 l5 b5 t5 k5
  have go : (M.map V.int)[o]? = some (V.int mo) := by
    rw [List.getElem?_map, hmo]
    rfl
  have glo : (L.map V.int)[o]? = some (V.int lo) := by
    rw [List.getElem?_map, hlo]
    rfl
  refine ⟨_, rfl, _, rfl, md, _, (v : Int), v, rfl, rfl, m5, ixN_nat (by rw [lenM]; exact hv), ?_⟩
  refine ⟨_, rfl, _, rfl, md, _, o, _, rfl, rfl, SqL.of upd_same, (by rw [List.getElem?_set_ne hov.symm]; exact go), _, _, rfl, rfl, md, _, (o : Int), o, rfl, rfl, upd_same, ixN_nat (by rw [List.length_set, lenM]; exact hon), ?_⟩
  rw [upd_upd]
  have l6 : (upd H5 md (.lst (((M.map V.int).set v (V.int 0)).set o (V.int (mo - 1))))) ld = some (.lst (L.map V.int)) := by
    rw [upd_ne nml.symm]
    exact l5
  refine ⟨_, rfl, _, rfl, ld, _, o, _, rfl, rfl, SqL.of l6, glo, _, rfl, _, _, rfl, rfl, ld, _, (o : Int), o, rfl, rfl, l6, ixN_nat (by rw [lenL]; exact hon), ?_⟩
  have b8 : (upd (upd H5 md (.lst (((M.map V.int).set v (V.int 0)).set o (V.int (mo - 1))))) ld (.lst ((L.map V.int).set o (V.int (lo - k))))) bd = some (.lst ((rs ++ [T1]).map V.ref)) := by
    rw [upd_ne nlb.symm, upd_ne nmb.symm]
    exact b5
  have k8 : ∀ x u, x ≠ bd → x ≠ md → x ≠ ld → H4 x = some u → (upd (upd H5 md (.lst (((M.map V.int).set v (V.int 0)).set o (V.int (mo - 1))))) ld (.lst ((L.map V.int).set o (V.int (lo - k))))) x = some u := fun x u h1 h2 h3 e => by
    rw [upd_ne h3, upd_ne h2]
    exact k5 x u h1 e
  refine ⟨_, rfl, ⟨some (.int (k : Int)), y6, y7, y8, y9, y10, some (.ref a1), some (.int (o : Int)), (M.set v 0).set o (mo - 1), L.set o (lo - k), B ++ [(k, v, o)], rs ++ [T1], o, rfl, hon, ⟨fun x u e => ?_, ?_, ?_, b8, ?_, hP⟩, fun x hx hxo => ?_⟩, ?_⟩
  · exact k8 x u (ne_of_none e hbdH) (ne_of_none e hmd0) (ne_of_none e hldH) (S.sm _ _ e)
  · rw [upd_ne nml, upd_same, List.map_set, List.map_set]
  · rw [upd_same, List.map_set]
  · refine Paired.snoc (Paired.mapP S.br fun r bb e => ?_) ?_
    · have e' : H4 r = some (.tup [natV bb.1, natV bb.2.1, natV bb.2.2]) := e
      refine k8 r _ (fun z => ?_) (fun z => ?_) (fun z => ?_) e'
      · rw [z, S.b] at e'
        cases e'
      · rw [z, S.m] at e'
        cases e'
      · rw [z, S.l] at e'
        cases e'
    · show _ = _
      rw [upd_ne n2.symm, upd_ne n1.symm]
      exact t5
  · rw [List.getElem?_set_ne (Ne.symm hxo)]
    by_cases hxv : x = v
    · subst hxv
      rw [List.getElem?_set_self (by rw [S.pl.ml]; exact hv)]
      intro z
      cases z
    · rw [List.getElem?_set_ne (Ne.symm hxv)]
      exact hone x hx hxv
  · show mu bd _ < mu bd _
    rw [mu_eq b8, mu_eq S.b, List.length_map, List.length_map, List.length_append, List.length_singleton]
    omega))
set_option hygiene true
theorem has_find_branches (D : DefAt K mg "find_branches" s_find_branches ["places", "pipes"]) (T : Blt mg) :
    Has P w K mg base "find_branches" 1 ["places", "pipes"] (sp_find_branches K) := by
  refine D.ok sc_find_branches (fun vs H Q E h => ?_) (fun f cdv A outer s H vs Q E hr h => ?_)
  · obtain ⟨n, b, xs, ts, rfl, _⟩ := h
    rfl
  · obtain ⟨n, b, xs, ts, rfl, hb, hts, hlt, hn, hlen, hF, q⟩ := h
    have hxl : xs.length = ts.length := Paired.length hts
    refine ⟨_, (pss_cons (ps_set (i := 2) sc_find_branches.nd rfl (.inl rfl) (pe_op op_rep (pe_lst (pa_cons pe_int pa_nil)) (pv 0)))
      (pss_cons (ps_set (i := 3) sc_find_branches.nd rfl (.inl rfl) (pe_op op_rep (pe_lst (pa_cons pe_int pa_nil)) (pv 0)))
      (pss_cons (ps_set (i := 4) sc_find_branches.nd rfl (.inl rfl) pe_int)
      (pss_cons (ps_for PassesOwn.never rfl (pi_enumT (by rfl) T.b_enumerate (pa_cons (pv 1) pa_nil)) (pg_tup rfl (pgs_cons (pg_name (i := 5) sc_find_branches.nd rfl (.inl rfl)) (pgs_cons (pg_tup rfl (pgs_cons (pg_name (i := 6) sc_find_branches.nd rfl (.inl rfl)) (pgs_cons (pg_name (i := 7) sc_find_branches.nd rfl (.inl rfl)) (pgs_cons (pg_name (i := 8) sc_find_branches.nd rfl (.inl rfl)) (pgs_cons (pg_name (i := 9) sc_find_branches.nd rfl (.inl rfl)) (pgs_cons (pg_name (i := 10) sc_find_branches.nd rfl (.inl rfl)) pgs_nil)))))) pgs_nil))) (pss_one (ps_if (PW.pt (pw_and (pt_cmpR op_isN (pv 10) pe_non (nomark _)) (pw_and1 (pt_cmpR op_lt (pv 8) (pv 9) (nomark _))))) (pss_cons (ps_aug (i := 4) sc_find_branches.nd rfl (.inl rfl) pe_int ip_add)
      (pss_cons (ps_augS (pv 2) (pv 6) get_list pe_int ip_add set_list)
      (pss_cons (ps_augS (pv 2) (pv 7) get_list pe_int ip_add set_list)
      (pss_cons (ps_augS (pv 3) (pv 6) get_list (pv 5) ip_add set_list)
      (pss_one (ps_augS (pv 3) (pv 7) get_list (pv 5) ip_add set_list)))))) pss_nil)))
      (pss_cons (ps_set (i := 11) sc_find_branches.nd rfl (.inl rfl) (pe_lst pa_nil))
      (pss_cons (ps_for PassesOwn.never rfl (pi_range1 (by rfl) T.b_range (pa_cons (pv 0) pa_nil)) (pg_name (i := 12) sc_find_branches.nd rfl (.inl rfl)) (pss_cons (ps_set (i := 13) sc_find_branches.nd rfl (.inl rfl) (pv 12))
      (pss_one (ps_while PassesOwn.never (pt_cmpR op_eq (pe_ix ix_list (pv 2) (pv 13) (fun _ _ => rfl)) pe_int (nomark _)) (pss_cons (ps_set (i := 5) sc_find_branches.nd rfl (.inl rfl) (pe_ix ix_list (pv 3) (pv 13) (fun _ _ => rfl)))
      (pss_cons (ps_set (i := 14) sc_find_branches.nd rfl (.inl rfl) (pe_ix ix_tup (pv 1) (pv 5) (fun _ _ => rfl)))
      (pss_cons (ps_set (i := 15) sc_find_branches.nd rfl (.inl rfl) (pe_ifExp (pt_cmpR op_eq (pv 13) (pe_ix ix_tup (pv 14) pe_int (fun _ _ => rfl)) (nomark _)) (pe_ix ix_tup (pv 14) pe_int (fun _ _ => rfl)) (pe_ix ix_tup (pv 14) pe_int (fun _ _ => rfl))))
      (pss_cons (ps_expr (pe_bm PySem.F.plainAttrs_list PySem.F.slot_list_append PySem.F.type_list_append mt_append (pv 11) (pa_cons (pe_tup (pa_cons (pv 5) (pa_cons (pv 13) (pa_cons (pv 15) pa_nil)))) pa_nil)))
      (pss_cons (ps_asg pe_int (pg_sub (pv 2) (pv 13) set_list))
      (pss_cons (ps_augS (pv 2) (pv 15) get_list pe_int ip_sub set_list)
      (pss_cons (ps_augS (pv 3) (pv 15) get_list (pv 5) ip_sub set_list)
      (pss_one (ps_set (i := 13) sc_find_branches.nd rfl (.inl rfl) (pv 15))))))))))))))
      (pss_one (ps_ret (pe_ifExp (pt_cmpR op_eq (pe_callB call_len_seq (by rfl) T.b_len (by decide +kernel) (pa_cons (pv 11) pa_nil)) (pv 4) (nomark _)) (pv 11) pe_non))))))))), ?_⟩
    have hty : ∀ {i : Nat} {x : V}, xs[i]? = some x → ∃ p, ts[i]? = some p ∧ TubeAt K H x p := fun e => paired_get hts e
    have small : ∀ {L : List Int}, L.length ≤ 24 → 1 * L.length ≤ sizeLine := fun h => Nat.le_trans (show 1 * _ ≤ 1000 by omega) (by decide)
    -- many = [0] * places
    refine ⟨(by show 1 ≤ sizeLine; decide), fun l0 hl0 => ⟨_, rfl, l0, (n : Int), _, rfl, rfl, upd_same, by omega, by omega, (Nat.le_trans (by show 1 * (n : Int).toNat ≤ 1000; omega) (by decide)), fun md hmd => ?_⟩⟩
    rw [zeros_flat]
    have sa := (same_upd (o := .lst [.int 0]) hl0).trans (same_upd (o := .lst ((List.replicate n (0 : Int)).map V.int)) hmd)
    have hmd0 : H md = none := (same_upd (o := .lst [.int 0]) hl0).free hmd
    have hmd1 : (upd (upd H l0 (.lst [.int 0])) md (.lst ((List.replicate n (0 : Int)).map V.int))) md = some (.lst ((List.replicate n (0 : Int)).map V.int)) := upd_same
    generalize upd (upd H l0 (.lst [.int 0])) md (.lst ((List.replicate n (0 : Int)).map V.int)) = Ha at sa hmd1
    -- links = [0] * places
    refine ⟨(by show 1 ≤ sizeLine; decide), fun l1 hl1 => ⟨_, rfl, l1, (n : Int), _, rfl, rfl, upd_same, by omega, by omega, (Nat.le_trans (by show 1 * (n : Int).toNat ≤ 1000; omega) (by decide)), fun ld hld => ?_⟩⟩
    rw [zeros_flat]
    have sb0 := (same_upd (o := .lst [.int 0]) hl1).trans (same_upd (o := .lst ((List.replicate n (0 : Int)).map V.int)) hld)
    have hld0 : Ha ld = none := (same_upd (o := .lst [.int 0]) hl1).free hld
    have hld1 : (upd (upd Ha l1 (.lst [.int 0])) ld (.lst ((List.replicate n (0 : Int)).map V.int))) ld = some (.lst ((List.replicate n (0 : Int)).map V.int)) := upd_same
    generalize upd (upd Ha l1 (.lst [.int 0])) ld (.lst ((List.replicate n (0 : Int)).map V.int)) = Hb at sb0 hld1
    have sb := sa.trans sb0
    have nml : md ≠ ld := ne_of_none hmd1 hld0
    have hldH : H ld = none := sa.free hld0
    have hmd2 := sb0 _ _ hmd1
    -- count = 0; for index, (source, target, low, high, meter) in enumerate(pipes)
    refine ⟨_, rfl, b, xs, rfl, sb.keepT.seq hb, ?_⟩
    refine for_it walk_enumT (fun i σ H' => (∃ y5 y6 y7 y8 y9 y10, σ = [some (.int n), some (.ref b), some (.ref md), some (.ref ld), some (.int (((ts.take i).filter Tube.wide).length : Nat)), y5, y6, y7, y8, y9, y10, none, none, none, none, none]) ∧ Same H H' ∧
        H' md = some (.lst ((mL ts (· < i) n).map V.int)) ∧ H' ld = some (.lst ((kL ts (· < i) n).map V.int)))
      ⟨⟨none, none, none, none, none, none, rfl⟩, sb, by rw [mL_zero]; exact hmd2, by rw [kL_zero]; exact hld1⟩ (fun i σ H' _ h => h.2.1.keepT.seq hb) ?_ ?_
    · rintro i v σ H2 H3 hi ⟨⟨y5, y6, y7, y8, y9, y10, rfl⟩, s2, m2, k2⟩ ⟨T0, x1, x2, rfl, hT0, rfl, e1, e2⟩
      cases e1
      obtain ⟨p, hp, a1, rfl, hpa⟩ := hty e2
      have bnd := hlt p (List.mem_of_getElem? hp)
      have sT : Same H2 (upd H2 T0 (.tup [.int (i : Nat), .ref a1])) := same_upd hT0
      have s3 := s2.trans sT
      have m3 := sT _ _ m2
      have k3 := sT _ _ k2
      have hpa3 := s3.keepT.seq hpa
      refine ⟨T0, _, rfl, SqT.of upd_same, rfl, _, _, rfl, _, _, rfl, a1, _, rfl, hpa3, rfl, _, _, rfl, _, _, rfl, _, _, rfl, _, _, rfl, _, _, rfl, rfl, rfl, ?_⟩
      generalize upd H2 T0 (.tup [.int (i : Nat), .ref a1]) = H3 at s3 m3 k3 hpa3
      have htk : ((ts.take (i + 1)).filter Tube.wide).length = ((ts.take i).filter Tube.wide).length + (if p.wide = true then 1 else 0) := by
        rw [List.take_add_one, hp]
        show (List.filter Tube.wide (ts.take i ++ [p])).length = _
        rw [List.filter_append, List.length_append, List.filter_cons]
        split <;> simp
      -- if meter is None and low < high
      have hwide : p.wide = (decide (optV p.me = V.non) && decide (p.lo < p.hi)) := by
        rw [optV_non]
        rfl
      have cl : ¬ p.wide = true → (∃ y5 y6 y7 y8 y9 y10, [some (V.int (n : Int)), some (.ref b), some (.ref md), some (.ref ld), some (.int (((ts.take i).filter Tube.wide).length : Nat)), some (.int (i : Nat)), some (.int p.s), some (.int p.t), some (.int p.lo), some (.int p.hi), some (optV p.me), none, none, none, none, none] =
          [some (V.int (n : Int)), some (.ref b), some (.ref md), some (.ref ld), some (.int (((ts.take (i + 1)).filter Tube.wide).length : Nat)), y5, y6, y7, y8, y9, y10, none, none, none, none, none]) ∧ Same H H3 ∧ H3 md = some (.lst ((mL ts (· < i + 1) n).map V.int)) ∧ H3 ld = some (.lst ((kL ts (· < i + 1) n).map V.int)) := fun hw => by
        rw [htk, if_neg hw, (mL_closed hp hw).1, (mL_closed hp hw).2]
        exact ⟨⟨_, _, _, _, _, _, rfl⟩, s3, m3, k3⟩
      refine ⟨_, rfl, rfl, _, rfl, ite2 (fun e => ?_) (fun e => ?_)⟩
      · refine ⟨_, rfl, _, rfl, _, _, rfl, rfl, _, rfl, ite2 (fun e2 => ?_) (fun e2 => ?_)⟩
        · have hw : p.wide = true := by
            rw [hwide, e, e2]
            rfl
          have lenM : ((mL ts (· < i) n).map V.int).length = n := by
            unfold mL
            rw [List.length_map, List.length_map, List.length_range]
          have lenK : ((kL ts (· < i) n).map V.int).length = n := by
            unfold kL
            rw [List.length_map, List.length_map, List.length_range]
          have gM : ∀ v, v < n → ((mL ts (· < i) n).map V.int)[v]? = some (V.int ((lft ts (· < i) v).length : Int)) := fun v hv => by
            unfold mL
            rw [List.getElem?_map, map_get hv]
            rfl
          have gK : ∀ v, v < n → ((kL ts (· < i) n).map V.int)[v]? = some (V.int (lsum (lft ts (· < i) v))) := fun v hv => by
            unfold kL
            rw [List.getElem?_map, map_get hv]
            rfl
          -- count += 1; many[source] += 1; many[target] += 1
          refine ⟨_, rfl, _, _, rfl, rfl, ?_⟩
          refine ⟨_, rfl, _, rfl, md, _, p.s, _, rfl, rfl, SqL.of m3, gM _ bnd.1, _, _, rfl, rfl, md, _, (p.s : Int), p.s, rfl, rfl, m3, ixN_nat (by rw [lenM]; exact bnd.1), ?_⟩
          refine ⟨_, rfl, _, rfl, md, _, p.t, _, rfl, rfl, SqL.of upd_same, (by rw [List.getElem?_set_ne bnd.2.2]; exact gM _ bnd.2.1), _, _, rfl, rfl, md, _, (p.t : Int), p.t, rfl, rfl, upd_same, ixN_nat (by rw [List.length_set, lenM]; exact bnd.2.1), ?_⟩
          rw [upd_upd]
          have k4 : (upd H3 md (.lst ((((mL ts (· < i) n).map V.int).set p.s (V.int (((lft ts (· < i) p.s).length : Int) + 1))).set p.t (V.int (((lft ts (· < i) p.t).length : Int) + 1))))) ld = some (.lst ((kL ts (· < i) n).map V.int)) := by
            rw [upd_ne nml.symm]
            exact k3
          -- links[source] += index; links[target] += index
          refine ⟨_, rfl, _, rfl, ld, _, p.s, _, rfl, rfl, SqL.of k4, gK _ bnd.1, _, rfl, _, _, rfl, rfl, ld, _, (p.s : Int), p.s, rfl, rfl, k4, ixN_nat (by rw [lenK]; exact bnd.1), ?_⟩
          refine ⟨_, rfl, _, rfl, ld, _, p.t, _, rfl, rfl, SqL.of upd_same, (by rw [List.getElem?_set_ne bnd.2.2]; exact gK _ bnd.2.1), _, rfl, _, _, rfl, rfl, ld, _, (p.t : Int), p.t, rfl, rfl, upd_same, ixN_nat (by rw [List.length_set, lenK]; exact bnd.2.1), ?_⟩
          rw [upd_upd]
          refine ⟨⟨some (.int (i : Nat)), some (.int p.s), some (.int p.t), some (.int p.lo), some (.int p.hi), some (optV p.me), ?_⟩, fun x o e => ?_, ?_, ?_⟩
          · rw [htk, if_pos hw]
            rfl
          · rw [upd_ne (ne_of_none e hldH), upd_ne (ne_of_none e hmd0)]
            exact s3 _ _ e
          · rw [upd_ne nml, upd_same, ← mL_open hp hw bnd.1 bnd.2.1 bnd.2.2, List.map_set, List.map_set]
          · rw [upd_same, ← kL_open hp hw bnd.1 bnd.2.1 bnd.2.2, List.map_set, List.map_set]
        · refine cl fun z => e2 ?_
          rw [hwide, e, Bool.true_and] at z
          exact z
      · refine iteF (cl fun z => ?_)
        rw [hwide] at z
        rw [Bool.not_eq_true] at e
        rw [e] at z
        cases z
    · rintro σ H2 ⟨⟨y5, y6, y7, y8, y9, y10, rfl⟩, s2, m2, k2⟩
      rw [hxl] at m2 k2
      rw [hxl, List.take_length]
      have P0 := Peel.begin ts n
      generalize mL ts (· < ts.length) n = M0 at m2 P0
      generalize kL ts (· < ts.length) n = L0 at k2 P0
      -- branches = []
      refine ⟨Nat.zero_le _, fun bd hbd => ?_⟩
      have nmb : md ≠ bd := ne_of_none m2 hbd
      have nlb : ld ≠ bd := ne_of_none k2 hbd
      have hbdH : H bd = none := s2.free hbd
      refine ⟨_, rfl, (n : Int), rfl, by omega, by omega, ?_⟩
      refine for_range (lo := 0) (n := ((n : Int)).toNat) (fun i σ H' => ∃ y5 y6 y7 y8 y9 y10 y12 y13 y14 y15 M L B rs, σ = [some (.int n), some (.ref b), some (.ref md), some (.ref ld), some (.int ((ts.filter Tube.wide).length : Nat)), y5, y6, y7, y8, y9, y10, some (.ref bd), y12, y13, y14, y15] ∧
          PSt ts n H H' md ld bd M L B rs ∧ ∀ x, x < i → M[x]? ≠ some 1)
        ⟨_, _, _, _, _, _, none, none, none, none, M0, L0, [], [], rfl, ⟨fun x o e => ?_, ?_, ?_, upd_same, .nil, P0⟩, fun x hx => absurd hx (Nat.not_lt_zero x)⟩ ?_ ?_
      · rw [upd_ne (ne_of_none e hbdH)]
        exact s2 _ _ e
      · rw [upd_ne nmb]
        exact m2
      · rw [upd_ne nlb]
        exact k2
      · rintro i σ H3 hi ⟨y5, y6, y7, y8, y9, y10, y12, y13, y14, y15, M, L, B, rs, rfl, S, hone⟩
        have hin : i < n := by omega
        have e0 : (0 : Int) + (i : Nat) = (i : Int) := by omega
        -- end = place; while many[end] == 1
        refine ⟨_, rfl, ?_⟩
        rw [e0]
        refine while_ex (fun σ H' => ∃ y5 y6 y7 y8 y9 y10 y14 y15 M L B rs v, σ = [some (.int n), some (.ref b), some (.ref md), some (.ref ld), some (.int ((ts.filter Tube.wide).length : Nat)), y5, y6, y7, y8, y9, y10, some (.ref bd), some (.int (i : Nat)), some (natV v), y14, y15] ∧
            v < n ∧ PSt ts n H H' md ld bd M L B rs ∧ ∀ x, x < i + 1 → x ≠ v → M[x]? ≠ some 1)
          (fun σ H' => mu bd H')
          ⟨y5, y6, y7, y8, y9, y10, y14, y15, M, L, B, rs, i, rfl, hin, S, fun x hx hxi => hone x (by omega)⟩ ?_ ?_
        · rintro σ H4 ⟨y5, y6, y7, y8, y9, y10, y14, y15, M, L, B, rs, v, rfl, hv, S, hone⟩
          have hmv := S.pl.m v hv
          have lenM : (M.map V.int).length = n := by rw [List.length_map, S.pl.ml]
          have lenL : (L.map V.int).length = n := by rw [List.length_map, S.pl.ll]
          have gm : (M.map V.int)[v]? = some (V.int ((lft ts (· ∉ idx B) v).length : Int)) := by
            rw [List.getElem?_map, hmv]
            rfl
          refine ⟨_, rfl, _, rfl, md, _, (v : Int), _, rfl, rfl, SqL.of S.m, atI_nat (j := v) gm, rfl, _, rfl, ite2 (fun e => ?_) (fun e => ?_)⟩
          · have e1 : M[v]? = some 1 := by
              rw [hmv]
              exact congrArg some (V.int.inj (of_decide_eq_true e))
            obtain ⟨k, p, hLk, hpk, hwk, hendk, hpeel⟩ := S.pl.step hlt hv e1
            have hkl := (List.getElem?_eq_some_iff.mp hpk).1
            have hBl := S.pl.br.len
            have hrl : rs.length = B.length := Paired.length S.br
            have gl : (L.map V.int)[v]? = some (V.int (k : Int)) := by
              rw [List.getElem?_map, hLk]
              rfl
            obtain ⟨x1, hx1⟩ : ∃ x1, xs[k]? = some x1 := ⟨xs[k]'(by omega), List.getElem?_eq_getElem (by omega)⟩
            obtain ⟨p', hp', a1, rfl, hpa⟩ := hty hx1
            have : p' = p := Option.some.inj (hp'.symm.trans hpk)
            subst this
            have hb4 := S.sm.keepT.seq hb
            have hpa4 := S.sm.keepT.seq hpa
            -- index = links[end]; pipe = pipes[index]
            refine ⟨_, rfl, _, rfl, ld, _, (v : Int), _, rfl, rfl, SqL.of S.l, atI_nat (j := v) gl, ?_⟩
            refine ⟨_, rfl, _, rfl, b, _, (k : Int), _, rfl, rfl, hb4, atI_nat (j := k) hx1, ?_⟩
            -- other = pipe[1] if end == pipe[0] else pipe[0]
            refine ⟨_, rfl, _, rfl, a1, _, 0, _, rfl, rfl, hpa4, atI_nat (j := 0) rfl, rfl, _, rfl, ite2 (fun ev => ?_) (fun ev => ?_)⟩
            · have hvs : v = p'.s := by
                have := V.int.inj (of_decide_eq_true ev)
                omega
              have hpe := hpeel p'.t (by rw [if_pos hvs])
              refine ⟨_, rfl, a1, _, 1, _, rfl, rfl, hpa4, atI_nat (j := 1) rfl, ?_⟩
              generalize p'.t = o at hpe
              walk_at "peel_rest"
            · have hvs : v ≠ p'.s := fun z => ev (decide_eq_true (by rw [z]; rfl))
              have hpe := hpeel p'.s (by rw [if_neg hvs])
              refine ⟨_, rfl, a1, _, 0, _, rfl, rfl, hpa4, atI_nat (j := 0) rfl, ?_⟩
              generalize p'.s = o at hpe
              walk_at "peel_rest"
          · refine ⟨_, _, _, _, _, _, _, _, _, _, M, L, B, rs, rfl, S, fun x hx => ?_⟩
            by_cases xv : x = v
            · subst xv
              rw [hmv]
              intro z
              exact e (decide_eq_true (congrArg V.int (Option.some.inj z)))
            · exact hone x hx xv
        · rintro σ H1 Q1 Q2 hq ⟨u1, z1, u2, z2, u3, u4, u5, u6, z3, z4, z5, z6, z7, u7, z8, z9⟩
          exact ⟨u1, z1, u2, z2, u3, u4, u5, u6, z3, z4, z5, z6, z7, u7, z8, hq _ _ z9⟩
      · rintro σ H3 ⟨y5, y6, y7, y8, y9, y10, y12, y13, y14, y15, M, L, B, rs, rfl, S, hone⟩
        have hdone := S.pl.done hlt hF fun x hx => hone x (by omega)
        have hBO : BrsOf ts B := ⟨S.pl.br, hdone⟩
        have hcnt := hits_idx hBO
        have hrl : rs.length = B.length := Paired.length S.br
        have e : decide (V.int ((((rs.map V.ref).length : Nat)) : Int) = V.int (((ts.filter Tube.wide).length : Nat) : Int)) = true := decide_eq_true (by rw [List.length_map, hrl, hcnt])
        refine ⟨_, rfl, bd, _, rfl, .inl (SqL.of S.b), _, rfl, rfl, _, rfl, ?_⟩
        rw [e]
        exact iteT ⟨_, rfl, q _ bd B S.sm hbdH ⟨rs, S.b, S.br⟩ hBO⟩
end
end Wc

set_option Elab.async false
set_option linter.all false
set_option maxRecDepth 100000
namespace Wc
open PySem PySem.Spec PyProof.Rows L2
section
variable {P : Program} {w : World} {K : PySem.W.Frag} {mg : Str → Option Value} {base : Heap}
abbrev s_find_groups : Stmt := top 16
theorem sc_find_groups : FnScope ["places", "branches", "stems", "_", "place", "other", "members", "stem", "group"] ["places", "branches"] (defScope s_find_groups) := ⟨rfl, rfl, rfl, by decide +kernel, rfl, by decide +kernel, by decide +kernel⟩
def sp_find_groups (K : PySem.W.Frag) : Sp := fun vs H Q _ => ∃ (n : Nat) (l : Addr) (ts : List Tube) (B : List Br), vs = [.int n, .ref l] ∧ BrsAt H l B ∧ BrsOf ts B ∧ (∀ p ∈ ts, p.s < n ∧ p.t < n ∧ p.s ≠ p.t) ∧ n ≤ 24 ∧ ts.length ≤ 60 ∧
  ∀ H' a gs, Same H H' → H a = none → H' a = some (.tup (gs.map V.ref)) → GroupsAt H' gs (OEdge ts none) n (firsts (OEdge ts none) n) → Q (.ref a) H'
theorem has_find_groups (D : DefAt K mg "find_groups" s_find_groups ["places", "branches"]) (T : Blt mg) :
    Has P w K mg base "find_groups" 1 ["places", "branches"] (sp_find_groups K) := by
  refine D.ok sc_find_groups (fun vs H Q E h => ?_) (fun f cdv A outer s H vs Q E hr h => ?_)
  · obtain ⟨n, l, ts, B, rfl, _⟩ := h
    rfl
  · obtain ⟨n, l, ts, B, rfl, ⟨rs, hl, hrs⟩, hB, hlt, hn, hlen, q⟩ := h
    have hu := hu_of hr
    refine ⟨_, (pss_cons (ps_set (i := 2) sc_find_groups.nd rfl (.inl rfl) (pe_listRg rfl (by rfl) T.b_list (prg_1 (by rfl) T.b_range (pv 0))))
      (pss_cons (ps_for PassesOwn.never rfl (pi_reversed (by rfl) T.b_reversed (pa_cons (pv 1) pa_nil)) (pg_tup rfl (pgs_cons (pg_name (i := 3) sc_find_groups.nd rfl (.inl rfl)) (pgs_cons (pg_name (i := 4) sc_find_groups.nd rfl (.inl rfl)) (pgs_cons (pg_name (i := 5) sc_find_groups.nd rfl (.inl rfl)) pgs_nil)))) (pss_one (ps_asg (pe_ix ix_list (pv 2) (pv 5) (fun _ _ => rfl)) (pg_sub (pv 2) (pv 4) set_list))))
      (pss_cons (ps_set (i := 6) sc_find_groups.nd rfl (.inl rfl) pe_dnewK)
      (pss_cons (ps_for PassesOwn.never rfl (pi_enum (by rfl) T.b_enumerate (pa_cons (pv 2) pa_nil)) (pg_tup rfl (pgs_cons (pg_name (i := 4) sc_find_groups.nd rfl (.inl rfl)) (pgs_cons (pg_name (i := 7) sc_find_groups.nd rfl (.inl rfl)) pgs_nil))) (pss_one (ps_expr (pe_bm PySem.F.plainAttrs_list PySem.F.slot_list_append PySem.F.type_list_append mt_append (pe_dsetd (pv 6) (pv 7) (pe_lst pa_nil) ⟨rfl, rfl, rfl, rfl⟩) (pa_cons (pv 4) pa_nil)))))
      (pss_one (ps_ret (pe_callTy call_tuple_of (by rfl) T.b_tuple (by decide +kernel) (pa_cons (pe_lock (pe_lc (own := [("group", 8)]) (g := gName 8) (tt := tYes) rfl sc_find_groups.nd (pi_values (pv 6)) (blkOk_by (N := ["places", "branches", "stems", "_", "place", "other", "members", "stem", "group"]) (sc := defScope s_find_groups) (by decide +kernel)) (fun _ _ _ _ _ => (pg_name (i := 8) sc_find_groups.nd rfl (Or.inl rfl))) (fun _ _ _ _ _ => pts_nil) (fun _ _ _ _ _ => (pe_callTy (tuple_ofK K) (by rfl) T.b_tuple (by decide +kernel) (pa_cons (pv 8) pa_nil))))) pa_nil)))))))), ?_⟩
    have hlen2 := hB.len
    have hrl : rs.length = B.length := Paired.length hrs
    -- stems = list(range(places))
    refine ⟨_, rfl, _, rfl, RgOk.of_le (by omega) (by omega) (by omega) (by omega), fun sd hsd => ?_⟩
    rw [rgV_nat]
    have s1 := same_upd (o := .lst ((List.range n).map natV)) hsd
    have nls : l ≠ sd := ne_of_none hl hsd
    -- for _, place, other in reversed(branches)
    refine ⟨_, rfl, l, _, rfl, SqL.of (s1 _ _ hl), ?_⟩
    refine for_it walk_rev (fun i σ H' => (∃ y3 y4 y5, σ = [some (.int n), some (.ref l), some (.ref sd), y3, y4, y5, none, none, none]) ∧ ∃ st, Stems (B.drop (B.length - i)) n st ∧ Same H H' ∧ H' sd = some (.lst (st.map natV)))
      ⟨⟨none, none, none, rfl⟩, List.range n, by rw [Nat.sub_zero, List.drop_length]; exact Stems.nil n, s1, upd_same⟩ (fun i σ H' _ h => by obtain ⟨_, st, _, s2, _⟩ := h; exact SqL.of (s2 _ _ hl)) ?_ ?_
    · rintro i v σ H2 H3 hi ⟨⟨y3, y4, y5, rfl⟩, st, hst, s2, hsd2⟩ ⟨rfl, hv⟩
      rw [List.length_map, hrl] at hi hv
      rw [List.getElem?_map] at hv
      have hj : B.length - 1 - i < B.length := by omega
      obtain ⟨r, hr1⟩ : ∃ r, rs[B.length - 1 - i]? = some r := ⟨_, List.getElem?_eq_getElem (by omega)⟩
      rw [hr1] at hv
      have ev : V.ref r = v := Option.some.inj hv
      subst ev
      obtain ⟨bb, hbb, hbr⟩ := paired_get hrs hr1
      obtain ⟨k, p, o⟩ := bb
      obtain ⟨tt, htt, htw, hends⟩ := hB.at_ k p o (List.mem_of_getElem? hbb)
      have bnd := hlt tt (List.mem_of_getElem? htt)
      have hpn : p < n ∧ o < n ∧ p ≠ o := by rcases hends with ⟨a, b⟩ | ⟨a, b⟩ <;> omega
      have hbr2 : H3 r = some (.tup [natV k, natV p, natV o]) := s2 _ _ hbr
      have edrop : B.drop (B.length - (i + 1)) = (k, p, o) :: B.drop (B.length - i) := by
        have e1 : B.length - (i + 1) = B.length - 1 - i := by omega
        have e2 : B.length - i = B.length - 1 - i + 1 := by omega
        rw [e1, e2, List.drop_eq_getElem_cons hj]
        congr 1
        exact (List.getElem?_eq_some_iff.mp hbb).2
      have hpw := (List.pairwise_cons.mp (edrop ▸ hB.last.sublist (List.drop_sublist _ _))).1
      have hst2 := hst.cons (k := k) hpn.1 hpn.2.1 hpn.2.2 hpw
      have gso : (st.map natV)[o]? = some (natV (st.getD o 0)) := by
        rw [List.getElem?_map, List.getD_eq_getElem?_getD, List.getElem?_eq_getElem (by rw [hst.len]; exact hpn.2.1)]
        rfl
      refine ⟨r, _, rfl, SqT.of hbr2, rfl, _, _, rfl, _, _, rfl, _, _, rfl, rfl, ?_⟩
      refine ⟨_, rfl, _, rfl, sd, _, (o : Int), _, rfl, rfl, SqL.of hsd2, atI_nat (j := o) gso, ?_⟩
      refine ⟨_, rfl, _, rfl, sd, _, (p : Int), p, rfl, rfl, hsd2, ixN_nat (by rw [List.length_map, hst.len]; exact hpn.1), ?_⟩
      refine ⟨⟨_, _, _, rfl⟩, st.set p (st.getD o 0), by rw [edrop]; exact hst2, fun x u e => ?_, ?_⟩
      · rw [upd_ne (ne_of_none e hsd)]
        exact s2 _ _ e
      · rw [upd_same, List.map_set]
    · rintro σ H2 ⟨⟨y3, y4, y5, rfl⟩, st, hst, s2, hsd2⟩
      rw [List.length_map, hrl, Nat.sub_self, List.drop_zero] at hst
      have hcon : ∀ x y, x < n → y < n → (Conn (OEdge ts none) x y ↔ st.getD x 0 = st.getD y 0) := fun x y hx hy => (hB.conn x y).symm.trans (hst.con x y hx hy)
      have hE : ∀ u v, OEdge ts none u v → u < n ∧ v < n := OEdge.lt fun p hp => ⟨(hlt p hp).1, (hlt p hp).2.1⟩
      -- members = {}
      refine fun dd hdd => ?_
      have nsd : sd ≠ dd := ne_of_none hsd2 hdd
      have hdd0 : H dd = none := s2.free hdd
      refine ⟨_, rfl, sd, _, rfl, SqL.of (by rw [upd_ne nsd]; exact hsd2), ?_⟩
      refine for_it (walk_enum (xs := st.map natV)) (fun i σ H' => (∃ y3 y4 y5 y7, σ = [some (.int n), some (.ref l), some (.ref sd), y3, y4, y5, some (.ref dd), y7, none]) ∧ Same H H' ∧ H' sd = some (.lst (st.map natV)) ∧ ∃ G, H' dd = some (.dK (kvG st G)) ∧ GAt n (OEdge ts none) H H' sd dd i G)
        ⟨⟨_, _, _, none, rfl⟩, fun x u e => ?_, ?_, [], upd_same, ⟨?_, List.nodup_nil, fun g hg => absurd hg List.not_mem_nil⟩⟩ (fun i σ H' _ h => SqL.of h.2.2.1) ?_ ?_
      · rw [upd_ne (ne_of_none e hdd0)]
        exact s2 _ _ e
      · rw [upd_ne nsd]
        exact hsd2
      · exact (List.filter_eq_nil_iff.mpr fun x _ h => by simp at h).symm
      · rintro i v σ H3 H4 hi ⟨⟨y3, y4, y5, y7, rfl⟩, s3, hsd3, G, hdd3, hG⟩ ⟨T0, x1, x2, rfl, hT0, rfl, e1, e2⟩
        rw [List.length_map, hst.len] at hi
        cases e1
        have e3 : (st.map natV)[i]? = some x2 := e2
        rw [List.getElem?_map, List.getElem?_eq_getElem (by rw [hst.len]; exact hi)] at e3
        have est : st.getD i 0 = st[i]'(by rw [hst.len]; exact hi) := by
          rw [List.getD_eq_getElem?_getD, List.getElem?_eq_getElem (by rw [hst.len]; exact hi)]
          rfl
        have ex2 : natV (st.getD i 0) = x2 := by
          rw [est]
          exact Option.some.inj e3
        subst ex2
        have sT : Same H3 (upd H3 T0 (.tup [.int (i : Nat), natV (st.getD i 0)])) := same_upd hT0
        have s4 := s3.trans sT
        have hsd4 := sT _ _ hsd3
        have hdd4 := sT _ _ hdd3
        have hG4 : ∀ a xs, H3 a = some (.lst xs) → (upd H3 T0 (.tup [.int (i : Nat), natV (st.getD i 0)])) a = some (.lst xs) := fun a xs e => sT _ _ e
        refine ⟨T0, _, rfl, SqT.of upd_same, rfl, _, _, rfl, _, _, rfl, rfl, ?_⟩
        generalize upd H3 T0 (.tup [.int (i : Nat), natV (st.getD i 0)]) = H4 at s4 hsd4 hdd4 hG4 sT
        have hGl := hG.len
        have hfl : ∀ g ∈ G, (((comp (OEdge ts none) n g.1).filter (fun x => decide (x < i))).map natV).length ≤ 24 := fun g _ => by
          rw [List.length_map]
          have h1 := List.length_filter_le (fun x => decide (x < i)) (comp (OEdge ts none) n g.1)
          have h2 : (comp (OEdge ts none) n g.1).length ≤ (List.range n).length := List.length_filter_le _ _
          rw [List.length_range] at h2
          omega
        -- members.setdefault(stem, []).append(place)
        refine ⟨_, rfl, dd, rfl, .inl ⟨_, .inl hdd4⟩, _, rfl, Nat.zero_le _, fun p hp => ?_⟩
        have npd : dd ≠ p := ne_of_none hdd4 hp
        have nps : sd ≠ p := ne_of_none hsd4 hp
        have hdd5 : (upd H4 p (.lst [])) dd = some (.dK (kvG st G)) := by
          rw [upd_ne npd]
          exact hdd4
        refine ⟨kvG st G, .inl ((st.getD i 0 : Nat) : Int), hdd5, rfl, small1000 (by unfold kvG; rw [List.length_map]; omega), fun v hv => ?_, fun hv => ?_⟩
        · by_cases hex : ∃ g ∈ G, st.getD g.1 0 = st.getD i 0
          · obtain ⟨g, hg, e⟩ := hex
            have hv2 := valV_G_some hg fun g' h' e' => hG.uniq hcon hg h' e'
            rw [e, hv] at hv2
            have ev := Option.some.inj hv2
            subst ev
            obtain ⟨a1, a2, a3, a4⟩ := hG.at_ g hg
            have a5 := hG4 _ _ a1
            have ngp : g.2 ≠ p := ne_of_none a5 hp
            have a6 : (upd H4 p (.lst [])) g.2 = some (.lst (((comp (OEdge ts none) n g.1).filter (fun x => decide (x < i))).map natV)) := by
              rw [upd_ne ngp]
              exact a5
            refine ⟨.inl ⟨rfl, _, SqL.of a6⟩, _, rfl, g.2, _, _, rfl, rfl, a6, small1000 (by have := hfl g hg; omega), ?_⟩
            refine ⟨⟨_, _, _, _, rfl⟩, fun x u e' => ?_, ?_, G, ?_, hG.old hcon hi hg e upd_same fun a xs h1 h2 h3 h4 h5 => ?_⟩
            · rw [upd_ne (ne_of_none e' a2), upd_ne (ne_of_none (s4 _ _ e') hp)]
              exact s4 _ _ e'
            · rw [upd_ne (Ne.symm a3), upd_ne nps]
              exact hsd4
            · rw [upd_ne (Ne.symm a4)]
              exact hdd5
            · rw [upd_ne h1, upd_ne (ne_of_none (hG4 _ _ h5) hp)]
              exact hG4 _ _ h5
          · have hv2 := valV_G_none (G := G) (st := st) (s := st.getD i 0) fun g hg e => hex ⟨g, hg, e⟩
            rw [hv] at hv2
            cases hv2
        · have hnone : ∀ g ∈ G, st.getD g.1 0 ≠ st.getD i 0 := fun g hg e => by
            have hv2 := valV_G_some hg fun g' h' e' => hG.uniq hcon hg h' e'
            rw [e, hv] at hv2
            cases hv2
          have hf1 := hG.first hE hcon hi hnone
          have hp3 : H3 p = none := sT.free hp
          rw [putK_new _ hv]
          have hp6 : (upd (upd H4 p (.lst [])) dd (.dK (kvG st G ++ [(.inl ((st.getD i 0 : Nat) : Int), .ref p)]))) p = some (.lst []) := by
            rw [upd_ne npd.symm, upd_same]
          refine ⟨.inl ⟨rfl, _, SqL.of hp6⟩, _, rfl, p, _, _, rfl, rfl, hp6, small1000 (Nat.zero_le _), ?_⟩
          refine ⟨⟨_, _, _, _, rfl⟩, fun x u e' => ?_, ?_, G ++ [(i, p)], ?_, hG.new hi hf1 (s4.free hp) nps.symm npd.symm hp3 upd_same fun a xs h1 h2 h3 h4 h5 => ?_⟩
          · rw [upd_ne (ne_of_none (s4 _ _ e') hp), upd_ne (ne_of_none e' hdd0), upd_ne (ne_of_none (s4 _ _ e') hp)]
            exact s4 _ _ e'
          · rw [upd_ne nps, upd_ne nsd, upd_ne nps]
            exact hsd4
          · rw [upd_ne npd, upd_same]
            unfold kvG
            rw [List.map_append]
            rfl
          · rw [upd_ne h1, upd_ne h3, upd_ne h1]
            exact hG4 _ _ h5
      · rintro σ H3 ⟨⟨y3, y4, y5, y7, rfl⟩, s3, hsd3, G, hdd3, hG⟩
        rw [List.length_map, hst.len] at hG
        have hfs : G.map (·.1) = firsts (OEdge ts none) n := by
          rw [hG.fs]
          exact List.filter_eq_self.mpr fun x hx => decide_eq_true (mem_firsts.mp hx).1
        have hfull : ∀ g ∈ G, H3 g.2 = some (.lst ((comp (OEdge ts none) n g.1).map natV)) ∧ H g.2 = none ∧ g.2 ≠ dd := fun g hg => by
          obtain ⟨a1, a2, _, a4⟩ := hG.at_ g hg
          rw [List.filter_eq_self.mpr fun x hx => decide_eq_true (mem_comp.mp hx).1] at a1
          exact ⟨a1, a2, a4⟩
        have hGl := hG.len
        -- tuple([tuple(group) for group in members.values()])
        refine ⟨dd, _, hdd3, trivial, fun od => ?_⟩
        refine ⟨_, rfl, dd, od, kvG st G, rfl, upd_same, fun D1 hD1 => ?_⟩
        have nD : D1 ≠ dd := fun z => by
          rw [z, upd_same] at hD1
          cases hD1
        have hD3 : H3 D1 = none := by
          rw [upd_ne nD] at hD1
          exact hD1
        have hkl : (kvG st G).length = G.length := by
          unfold kvG
          rw [List.length_map]
        refine lc_it (walk_values (kvs := kvG st G)) (fun i H' => H' dd = some (.frz od (.dK (kvG st G))) ∧ (∀ x u, x ≠ dd → H3 x = some u → H' x = some u) ∧ ∃ gs, H' D1 = some (.lst (gs.map V.ref)) ∧ gs.length = i ∧ Paired (fun g x => H' g = some (.tup ((comp (OEdge ts none) n x).map natV))) gs ((G.map (·.1)).take i))
          ⟨?_, fun x u hx e => ?_, [], upd_same, rfl, .nil⟩ (fun i H' _ h => h.1) ?_ ?_
        · rw [upd_ne nD.symm, upd_same]
        · rw [upd_ne (ne_of_none e hD3), upd_ne hx]
          exact e
        · rintro i v H4 H5 hi ⟨k1, k2, gs, k3, k4, k5⟩ ⟨rfl, kk, hkv⟩
          rw [hkl] at hi
          have hgi : G[i]? = some G[i] := List.getElem?_eq_getElem hi
          have hmem := List.getElem_mem hi
          generalize G[i] = g at hgi hmem
          have hkv2 : (kvG st G)[i]? = some (kk, v) := hkv
          unfold kvG at hkv2
          rw [List.getElem?_map, hgi] at hkv2
          have ev : V.ref g.2 = v := by
            have := Option.some.inj hkv2
            injection this
          subst ev
          obtain ⟨a1, a2, a3⟩ := hfull g hmem
          have a4 := k2 _ _ a3 a1
          have htk : (G.map (·.1)).take (i + 1) = (G.map (·.1)).take i ++ [g.1] := by
            rw [List.take_add_one, List.getElem?_map, hgi]
            rfl
          refine ⟨rfl, _, rfl, g.2, _, rfl, .inl ⟨SqL.of a4, fun tp htp => ?_⟩⟩
          have ntd : tp ≠ dd := fun z => by
            rw [z, k1] at htp
            cases htp
          have ntD : tp ≠ D1 := fun z => by
            rw [z, k3] at htp
            cases htp
          have k6 : (upd H5 tp (.tup ((comp (OEdge ts none) n g.1).map natV))) D1 = some (.lst (gs.map V.ref)) := by
            rw [upd_ne ntD.symm]
            exact k3
          refine ⟨_, k6, small1000 (by rw [List.length_map]; omega), ?_, fun x u hx e => ?_, gs ++ [tp], ?_, ?_, ?_⟩
          · rw [upd_ne nD.symm, upd_ne ntd.symm]
            exact k1
          · rw [upd_ne (ne_of_none e hD3), upd_ne (ne_of_none (k2 _ _ hx e) htp)]
            exact k2 _ _ hx e
          · rw [upd_same, List.map_append]
            rfl
          · rw [List.length_append, k4]
            rfl
          · rw [htk]
            refine Paired.snoc (Paired.mapP k5 fun g' x' e' => ?_) ?_
            · have e3 : H5 g' = some (.tup ((comp (OEdge ts none) n x').map natV)) := e'
              rw [upd_ne (fun z => by rw [z, k3] at e3; cases e3), upd_ne (ne_of_none e3 htp)]
              exact e3
            · rw [upd_ne ntD, upd_same]
        · rintro H4 ⟨k1, k2, gs, k3, k4, k5⟩
          rw [hkl] at k4 k5
          rw [List.take_of_length_le (by rw [List.length_map]; omega), hfs] at k5
          refine ⟨k1, D1, _, rfl, .inl ⟨SqL.of (by rw [upd_ne nD]; exact k3), fun l2 hl2 => ?_⟩⟩
          have nl2 : l2 ≠ dd := fun z => by
            rw [z, upd_same] at hl2
            cases hl2
          have hl4 : H4 l2 = none := by
            rw [upd_ne nl2] at hl2
            exact hl2
          have keep : ∀ x u, H x = some u → H4 x = some u ∧ x ≠ dd := fun x u e => ⟨k2 x u (ne_of_none e hdd0) (s3 _ _ e), ne_of_none e hdd0⟩
          refine q _ l2 gs (fun x u e => ?_) ?_ upd_same (Paired.mapP k5 fun g' x' e' => ?_)
          · obtain ⟨b1, b2⟩ := keep x u e
            rw [upd_ne (ne_of_none b1 hl4), upd_ne b2]
            exact b1
          · cases q2 : H l2 with
            | none => rfl
            | some u =>
              rw [(keep _ _ q2).1] at hl4
              cases hl4
          · have e3 : H4 g' = some (.tup ((comp (OEdge ts none) n x').map natV)) := e'
            rw [upd_ne (ne_of_none e3 hl4), upd_ne (fun z => by rw [z, k1] at e3; cases e3)]
            exact e3
end
end Wc

set_option Elab.async false
set_option linter.all false
set_option maxRecDepth 100000
namespace Wc
open PySem PySem.Spec PyProof.Rows L2
section
variable {P : Program} {w : World} {K : PySem.W.Frag} {mg : Str → Option Value} {base : Heap}
abbrev s_law_joined : Stmt := top 47
theorem sc_law_joined : FnScope ["net", "at", "without", "found", "n", "k", "tube"] ["net", "at", "without"] (defScope s_law_joined) := ⟨rfl, rfl, rfl, by decide +kernel, rfl, by decide +kernel, by decide +kernel⟩
def sp_law_joined (K : PySem.W.Frag) : Sp := fun vs H Q _ => ∃ (a : Addr) (N : Net) (x : Nat) (skip : Option Nat), vs = [.ref a, .int x, optN skip] ∧ NetAt K H a N ∧ (∀ p ∈ N.tubes, p.s < N.many ∧ p.t < N.many) ∧ x < N.many ∧ N.many ≤ 24 ∧ N.tubes.length ≤ 60 ∧
  ∀ H' l, Same H H' → H l = none → H' l = some (.lst ((comp (OEdge N.tubes skip) N.many x).map natV)) → Q (.ref l) H'
/-- a pipe that is not skipped does not lead out of J -/
def Stay (ts : List Tube) (skip : Option Nat) (J : List Nat) (k : Nat) : Prop := ∀ p, ts[k]? = some p → p.wide = true → skip ≠ some k → (p.s ∈ J ↔ p.t ∈ J)
structure Grown (H H' : Hp) (fd : Addr) (ts : List Tube) (skip : Option Nat) (n x : Nat) (J : List Nat) : Prop where
  sm : Same H H'
  fn : H fd = none
  hf : H' fd = some (.lst (J.map natV))
  nd : J.Nodup
  st : x ∈ J
  cn : ∀ y ∈ J, y < n ∧ Conn (OEdge ts skip) x y
theorem ne_in (s t : Nat) (J : List Nat) : (!decide (V.bl (inV (natV s) (J.map natV)) = V.bl (inV (natV t) (J.map natV)))) = true ↔ ¬ (s ∈ J ↔ t ∈ J) := by
  rw [inV_nat, inV_nat]
  by_cases h1 : s ∈ J <;> by_cases h2 : t ∈ J <;> simp [h1, h2]
theorem has_law_joined (D : DefAt K mg "_law_joined" s_law_joined ["net", "at", "without"]) (T : Blt mg) (h_law_is_wide : Has P w K mg base "_law_is_wide" 1 ["tube"] (sp_is_open_pipe K)) :
    Has P w K mg base "_law_joined" 2 ["net", "at", "without"] (sp_law_joined K) := by
  refine D.ok sc_law_joined (fun vs H Q E h => ?_) (fun f cdv A outer s H vs Q E hr h => ?_)
  · obtain ⟨a, N, x, skip, rfl, _⟩ := h
    rfl
  · obtain ⟨a, N, x, skip, rfl, ⟨b, xs, ha, hb, hts⟩, hlt, hx, hn, hlen, q⟩ := h
    have hxl : xs.length = N.tubes.length := Paired.length hts
    have hE : ∀ u v, OEdge N.tubes skip u v → u < N.many ∧ v < N.many := OEdge.lt hlt
    refine ⟨_, (pss_cons (ps_set (i := 3) sc_law_joined.nd rfl (.inl rfl) (pe_lst (pa_cons (pv 1) pa_nil)))
      (pss_cons (ps_for PassesOwn.never rfl (pi_range1 (by rfl) T.b_range (pa_cons (pe_ix ix_tup (pv 0) pe_int (fun _ _ => rfl)) pa_nil)) (pg_name (i := 4) sc_law_joined.nd rfl (.inl rfl)) (pss_one (ps_for PassesOwn.never rfl (pi_enumT (by rfl) T.b_enumerate (pa_cons (pe_ix ix_tup (pv 0) pe_int (fun _ _ => rfl)) pa_nil)) (pg_tup rfl (pgs_cons (pg_name (i := 5) sc_law_joined.nd rfl (.inl rfl)) (pgs_cons (pg_name (i := 6) sc_law_joined.nd rfl (.inl rfl)) pgs_nil))) (pss_one (ps_if (PW.pt (pw_and (pt_cmpR op_ne (pv 5) (pv 2) (nomark _)) (pw_and (pt_val (pe_own h_law_is_wide (hr.mono (by decide)) (by rfl) (pa_cons (pv 6) pa_nil))) (pw_and1 (pt_cmpR op_ne (pe_cmpR op_in_seq (pe_ix ix_tup (pv 6) pe_int (fun _ _ => rfl)) (pv 3) (by rfl)) (pe_cmpR op_in_seq (pe_ix ix_tup (pv 6) pe_int (fun _ _ => rfl)) (pv 3) (by rfl)) (nomark _)))))) (pss_one (ps_expr (pe_bm PySem.F.plainAttrs_list PySem.F.slot_list_append PySem.F.type_list_append mt_append (pv 3) (pa_cons (pe_ifExp (pt_cmpR op_in_seq (pe_ix ix_tup (pv 6) pe_int (fun _ _ => rfl)) (pv 3) (by rfl)) (pe_ix ix_tup (pv 6) pe_int (fun _ _ => rfl)) (pe_ix ix_tup (pv 6) pe_int (fun _ _ => rfl))) pa_nil)))) pss_nil)))))
      (pss_one (ps_ret (pe_callB cr_sortedI (by rfl) T.b_sorted (by decide +kernel) (pa_cons (pv 3) pa_nil)))))), ?_⟩
    refine ⟨_, rfl, (by show 1 ≤ sizeLine; decide), fun fd hfd => ?_⟩
    have sf := same_upd (o := .lst [.int (x : Int)]) hfd
    refine ⟨_, rfl, a, _, 1, _, rfl, rfl, sf.keepT.seq ha, atI_nat (j := 1) rfl, (N.many : Int), rfl, by omega, by omega, ?_⟩
    refine for_range (lo := 0) (n := ((N.many : Int)).toNat) (fun i σ H' => ∃ J y4 y5 y6, σ = [some (.ref a), some (.int x), some (optN skip), some (.ref fd), y4, y5, y6] ∧ Grown H H' fd N.tubes skip N.many x J ∧ ((∀ k, Stay N.tubes skip J k) ∨ i + 1 ≤ J.length))
      ⟨[x], none, none, none, rfl, ⟨sf, hfd, upd_same, by simp, by simp, fun y hy => ?_⟩, .inr (Nat.le_refl _)⟩ ?_ ?_
    · have e : y = x := by simpa using hy
      subst e
      exact ⟨hx, .refl⟩
    · rintro i σ H1 hi ⟨J0, y4, y5, y6, rfl, G0, cl0⟩
      refine ⟨_, rfl, a, _, 2, _, rfl, rfl, G0.sm.keepT.seq ha, atI_nat (j := 2) rfl, b, xs, rfl, G0.sm.keepT.seq hb, ?_⟩
      refine for_it walk_enumT (fun j σ H' => ∃ J y5 y6, σ = [some (.ref a), some (.int x), some (optN skip), some (.ref fd), some (.int (0 + (i : Int))), y5, y6] ∧ Grown H H' fd N.tubes skip N.many x J ∧
          ((J = J0 ∧ ∀ k, k < j → Stay N.tubes skip J k) ∨ (J0.length < J.length ∧ ¬ ∀ k, Stay N.tubes skip J0 k)))
        ⟨J0, y5, y6, rfl, G0, .inl ⟨rfl, fun k hk => absurd hk (Nat.not_lt_zero k)⟩⟩ (fun j σ H' _ ⟨_, _, _, _, G, _⟩ => G.sm.keepT.seq hb) ?_ ?_
      · rintro j it σ H2 H3 hj ⟨J, y5, y6, rfl, G, cl⟩ ⟨T0, x1, x2, rfl, hT0, rfl, e1, e2⟩
        cases e1
        obtain ⟨p, hp, a1, rfl, hpa⟩ := paired_get hts e2
        have sT : Same H2 (upd H2 T0 (.tup [.int (j : Nat), .ref a1])) := same_upd hT0
        have s3 := G.sm.trans sT
        have hpa3 := s3.keepT.seq hpa
        have hf3 := sT _ _ G.hf
        have bnd := hlt p (List.mem_of_getElem? hp)
        refine ⟨T0, _, rfl, SqT.of upd_same, rfl, _, _, rfl, _, _, rfl, rfl, ?_⟩
        generalize upd H2 T0 (.tup [.int (j : Nat), .ref a1]) = H4 at s3 hpa3 hf3
        have G4 : Grown H H4 fd N.tubes skip N.many x J := ⟨s3, G.fn, hf3, G.nd, G.st, G.cn⟩
        have more : Stay N.tubes skip J j → (J = J0 ∧ ∀ k, k < j + 1 → Stay N.tubes skip J k) ∨ (J0.length < J.length ∧ ¬ ∀ k, Stay N.tubes skip J0 k) := fun hs => by
          rcases cl with ⟨e, h⟩ | h
          · refine .inl ⟨e, fun k hk => ?_⟩
            by_cases z : k < j
            · exact h k z
            · have ek : k = j := by omega
              exact ek ▸ hs
          · exact .inr h
        refine ⟨_, rfl, _, rfl, scal_optN _ _, _, rfl, ite2 (fun h1 => ?_) (fun h1 => ?_)⟩
        · have hsk := (optN_ne skip j).mp h1
          refine ⟨_, rfl, _, p, rfl, ⟨a1, rfl, hpa3⟩, p.wide, rfl, ite2 (fun hw => ?_) (fun hw => ?_)⟩
          · refine ⟨_, rfl, a1, _, 0, _, rfl, rfl, hpa3, atI_nat (j := 0) rfl, _, rfl, fd, _, rfl, .inl (SqL.of hf3), rfl, flat_nats J, _, rfl, a1, _, 1, _, rfl, rfl, hpa3, atI_nat (j := 1) rfl, _, rfl, fd, _, rfl, .inl (SqL.of hf3), rfl, flat_nats J, rfl, _, rfl, ite2 (fun h3 => ?_) (fun h3 => ?_)⟩
            · have key := (ne_in p.s p.t J).mp h3
              have hns : ¬ ∀ k, Stay N.tubes skip J0 k := by
                rcases cl with ⟨e, _⟩ | h
                · exact fun h => key (e ▸ h j p hp hw hsk)
                · exact h.2
              have hlen2 : J0.length ≤ J.length := by
                rcases cl with ⟨e, _⟩ | h
                · rw [e]
                  exact Nat.le_refl _
                · omega
              have hJn : J.length ≤ N.many := nodup_le G.nd fun y hy => (G.cn y hy).1
              have grow : ∀ o, o ∉ J → o < N.many → Conn (OEdge N.tubes skip) x o → ∃ J' y5 y6, [some (V.ref a), some (.int x), some (optN skip), some (.ref fd), some (.int (0 + (i : Int))), some (.int (j : Int)), some (.ref a1)] = [some (.ref a), some (.int x), some (optN skip), some (.ref fd), some (.int (0 + (i : Int))), y5, y6] ∧
                  Grown H (upd H4 fd (.lst (J.map natV ++ [natV o]))) fd N.tubes skip N.many x J' ∧ ((J' = J0 ∧ ∀ k, k < j + 1 → Stay N.tubes skip J' k) ∨ (J0.length < J'.length ∧ ¬ ∀ k, Stay N.tubes skip J0 k)) := by
                intro o ho hon hc
                refine ⟨J ++ [o], _, _, rfl, ⟨fun b o e => ?_, G.fn, ?_, ?_, List.mem_append_left _ G.st, fun y hy => ?_⟩, .inr ⟨?_, hns⟩⟩
                · rw [upd_ne (ne_of_none e G.fn)]
                  exact s3 _ _ e
                · rw [upd_same, List.map_append]
                  rfl
                · refine List.nodup_append.mpr ⟨G.nd, by simp, fun u hu v' hv' => ?_⟩
                  have : v' = o := by simpa using hv'
                  rintro rfl
                  exact ho (this ▸ hu)
                · rcases List.mem_append.mp hy with z | z
                  · exact G.cn y z
                  · have : y = o := by simpa using z
                    exact this ▸ ⟨hon, hc⟩
                · rw [List.length_append, List.length_singleton]
                  omega
              have hsz : (J.map natV).length < sizeLine := small1000 (by rw [List.length_map]; omega)
              refine ⟨_, rfl, .inl ⟨rfl, _, SqL.of hf3⟩, _, rfl, a1, _, 0, _, rfl, rfl, hpa3, atI_nat (j := 0) rfl, _, rfl, fd, _, rfl, .inl (SqL.of hf3), rfl, flat_nats J, _, rfl, ?_⟩
              show (if (inV (natV p.s) (J.map natV)) = true then _ else _)
              rw [inV_nat]
              refine ite2 (fun h4 => ?_) (fun h4 => ?_)
              · have hs := of_decide_eq_true h4
                refine ⟨_, rfl, a1, _, 1, _, rfl, rfl, hpa3, atI_nat (j := 1) rfl, fd, _, _, rfl, rfl, hf3, hsz, ?_⟩
                exact grow p.t (fun ht => key ⟨fun _ => ht, fun _ => hs⟩) bnd.2 ((G.cn _ hs).2.step (.inl ⟨j, p, hp, hw, hsk, rfl, rfl⟩))
              · have hs : p.s ∉ J := fun z => h4 (decide_eq_true z)
                have ht : p.t ∈ J := by
                  by_cases z : p.t ∈ J
                  · exact z
                  · exact absurd ⟨fun h => absurd h hs, fun h => absurd h z⟩ key
                refine ⟨_, rfl, a1, _, 0, _, rfl, rfl, hpa3, atI_nat (j := 0) rfl, fd, _, _, rfl, rfl, hf3, hsz, ?_⟩
                exact grow p.s hs bnd.1 ((G.cn _ ht).2.step (.inr ⟨j, p, hp, hw, hsk, rfl, rfl⟩))
            · refine ⟨J, _, _, rfl, G4, more fun p' hp' _ _ => ?_⟩
              have ep : p' = p := Option.some.inj (hp'.symm.trans hp)
              subst ep
              exact Classical.not_not.mp fun z => h3 ((ne_in p'.s p'.t J).mpr z)
          · refine iteF ?_
            refine ⟨J, _, _, rfl, G4, more fun p' hp' hw' _ => ?_⟩
            have ep : p' = p := Option.some.inj (hp'.symm.trans hp)
            subst ep
            exact absurd hw' hw
        · refine iteF ?_
          refine ⟨J, _, _, rfl, G4, more fun p' hp' _ hs' => absurd ((optN_ne skip j).mpr hs') h1⟩
      · rintro σ H2 ⟨J, y5, y6, rfl, G, cl⟩
        refine ⟨J, _, _, _, rfl, G, ?_⟩
        rcases cl with ⟨rfl, h⟩ | ⟨h1, h2⟩
        · refine .inl fun k p hk => ?_
          exact h k (by rw [hxl]; exact (List.getElem?_eq_some_iff.mp hk).1) p hk
        · refine .inr ?_
          rcases cl0 with h | h
          · exact absurd h h2
          · omega
    · rintro σ H1 ⟨J, y4, y5, y6, rfl, G, cl⟩
      have hJn : J.length ≤ N.many := nodup_le G.nd fun y hy => (G.cn y hy).1
      have hcl : ∀ k, Stay N.tubes skip J k := by
        rcases cl with h | h
        · exact h
        · omega
      have hm : ∀ y, y ∈ J ↔ y < N.many ∧ Conn (OEdge N.tubes skip) x y := by
        intro y
        refine ⟨G.cn y, fun hy => ?_⟩
        refine hy.2.closed (S := fun z => z ∈ J) G.st fun u v hu e => ?_
        rcases e with ⟨k, p, h1, h2, h3, h4, h5⟩ | ⟨k, p, h1, h2, h3, h4, h5⟩
        · rw [← h5]
          exact (hcl k p h1 h2 h3).mp (h4 ▸ hu)
        · rw [← h4]
          exact (hcl k p h1 h2 h3).mpr (h5 ▸ hu)
      have hk : J.map natV = (J.map fun y : Nat => (y : Int)).map V.int := by
        rw [List.map_map]
        rfl
      refine ⟨_, rfl, fd, _, rfl, SqL.of (hk ▸ G.hf), fun ys l hperm hsort hl => ?_⟩
      refine q _ l (fun b o e => ?_) (G.sm.free hl) (by rw [upd_same, sorted_comp G.nd hm hperm hsort])
      rw [upd_ne (ne_of_none (G.sm _ _ e) hl)]
      exact G.sm _ _ e
end
end Wc

set_option Elab.async false
set_option linter.all false
set_option maxRecDepth 100000
namespace Wc
open PySem PySem.Spec PyProof.Rows L2
section
variable {P : Program} {w : World} {K : PySem.W.Frag} {mg : Str → Option Value} {base : Heap}
abbrev s_checked_branches : Stmt := top 17
theorem sc_checked_branches : FnScope ["value", "modulus", "places", "pipes", "index", "pipe", "branches"] ["value"] (defScope s_checked_branches) := ⟨rfl, rfl, rfl, by decide +kernel, rfl, by decide +kernel, by decide +kernel⟩
def sp_checked_branches (K : PySem.W.Frag) : Sp := fun vs H Q _ => ∃ (a : Addr) (N : Net), vs = [.ref a] ∧ NetAt K H a N ∧ NetOk N ∧ ∀ H' l B, Same H H' → H l = none → BrsAt H' l B → BrsOf N.tubes B → Q (.ref l) H'
theorem has_checked_branches (D : DefAt K mg "checked_branches" s_checked_branches ["value"]) (T : Blt mg) (C : Cst mg) (h_is_between : Has P w K mg base "is_between" 2 ["value", "low", "high"] (sp_is_between K))
    (h_is_pipe : Has P w K mg base "is_pipe" 1 ["value", "modulus", "places"] (sp_is_pipe K)) (h_find_branches : Has P w K mg base "find_branches" 1 ["places", "pipes"] (sp_find_branches K)) :
    Has P w K mg base "checked_branches" 3 ["value"] (sp_checked_branches K) := by
  refine D.ok sc_checked_branches (fun vs H Q E h => ?_) (fun f cdv A outer s H vs Q E hr h => ?_)
  · obtain ⟨a, N, rfl, _⟩ := h
    rfl
  · obtain ⟨a, N, rfl, ⟨b, xs, ha, hb, hts⟩, ok, q⟩ := h
    have hxl : xs.length = N.tubes.length := Paired.length hts
    have o1 := ok.b2
    have o2 := ok.b6
    have o3 := ok.m1
    have o4 := ok.m24
    have o5 := ok.len
    have bt : ∀ {x lo hi : Int}, lo ≤ x → x ≤ hi → (decide (lo ≤ x) && decide (x ≤ hi)) = true := fun h1 h2 => by simp [h1, h2]
    refine ⟨_, (pss_cons (ps_if (PW.pt (pw_or (pt_not (pt_val (pe_callB call_isi (by rfl) T.b_isinstance (by decide +kernel) (pa_cons (pv 0) (pa_cons (pe_bltn (v := .ty "tuple") (by rfl) T.b_tuple (by decide +kernel) rfl) pa_nil))))) (pw_or1 (pt_cmpR op_ne (pe_callB call_len_seq (by rfl) T.b_len (by decide +kernel) (pa_cons (pv 0) pa_nil)) pe_int (nomark _))))) (pss_one ps_never) pss_nil)
      (pss_cons (ps_asg (pv 0) (pg_tup rfl (pgs_cons (pg_name (i := 1) sc_checked_branches.nd rfl (.inl rfl)) (pgs_cons (pg_name (i := 2) sc_checked_branches.nd rfl (.inl rfl)) (pgs_cons (pg_name (i := 3) sc_checked_branches.nd rfl (.inl rfl)) pgs_nil)))))
      (pss_cons (ps_if (pt_not (pt_val (pe_own h_is_between (hr.mono (by decide)) (by rfl) (pa_cons (pv 1) (pa_cons pe_int (pa_cons (pe_const (by rfl) C.m_MAX_MODULUS) pa_nil)))))) (pss_one ps_never) pss_nil)
      (pss_cons (ps_if (pt_not (pt_val (pe_own h_is_between (hr.mono (by decide)) (by rfl) (pa_cons (pv 2) (pa_cons pe_int (pa_cons (pe_const (by rfl) C.m_MAX_PLACES) pa_nil)))))) (pss_one ps_never) pss_nil)
      (pss_cons (ps_if (PW.pt (pw_or (pt_not (pt_val (pe_callB call_isi (by rfl) T.b_isinstance (by decide +kernel) (pa_cons (pv 3) (pa_cons (pe_bltn (v := .ty "tuple") (by rfl) T.b_tuple (by decide +kernel) rfl) pa_nil))))) (pw_or1 (pt_cmpR op_gt (pe_callB call_len_seq (by rfl) T.b_len (by decide +kernel) (pa_cons (pv 3) pa_nil)) (pe_const (by rfl) C.m_MAX_PIPES) (nomark _))))) (pss_one ps_never) pss_nil)
      (pss_cons (ps_for PassesOwn.never rfl (pi_enumT (by rfl) T.b_enumerate (pa_cons (pv 3) pa_nil)) (pg_tup rfl (pgs_cons (pg_name (i := 4) sc_checked_branches.nd rfl (.inl rfl)) (pgs_cons (pg_name (i := 5) sc_checked_branches.nd rfl (.inl rfl)) pgs_nil))) (pss_one (ps_if (pt_not (pt_val (pe_own h_is_pipe (hr.mono (by decide)) (by rfl) (pa_cons (pv 5) (pa_cons (pv 1) (pa_cons (pv 2) pa_nil)))))) (pss_one ps_never) pss_nil)))
      (pss_cons (ps_set (i := 6) sc_checked_branches.nd rfl (.inl rfl) (pe_own h_find_branches (hr.mono (by decide)) (by rfl) (pa_cons (pv 2) (pa_cons (pv 3) pa_nil))))
      (pss_cons (ps_if (pt_cmpR op_isN (pv 6) pe_non (nomark _)) (pss_one ps_never) pss_nil)
      (pss_one (ps_ret (pv 6))))))))))), ?_⟩
    refine ⟨_, rfl, _, _, .type "tuple", _, true, rfl, .ty _, ty_tup ha, kit_ty (by decide +kernel), true, rfl, iteF ?_⟩
    refine ⟨_, rfl, a, _, rfl, .inr ha, rfl, _, rfl, iteF ?_⟩
    refine ⟨_, rfl, a, _, rfl, ha, rfl, _, _, rfl, _, _, rfl, _, _, rfl, rfl, ?_⟩
    refine ⟨_, rfl, _, _, _, rfl, .inl ⟨_, rfl, _, rfl, ?_⟩⟩
    rw [bt (by omega) (by omega)]
    refine iteF ?_
    refine ⟨_, rfl, _, _, _, rfl, .inl ⟨_, rfl, _, rfl, ?_⟩⟩
    rw [bt (by omega) (by omega)]
    refine iteF ?_
    refine ⟨_, rfl, _, _, .type "tuple", _, true, rfl, .ty _, ty_tup hb, kit_ty (by decide +kernel), true, rfl, iteF ?_⟩
    refine ⟨_, rfl, b, _, rfl, .inr hb, _, _, rfl, rfl, _, rfl, iteN (decide_eq_false (by rw [hxl]; omega)) ?_⟩
    refine ⟨_, rfl, b, xs, rfl, hb, for_it walk_enumT (fun i σ H' => (∃ y4 y5, σ = [some (.ref a), some (.int N.base), some (.int N.many), some (.ref b), y4, y5, none]) ∧ Same H H') ⟨⟨none, none, rfl⟩, Same.refl H⟩ (fun i σ H' _ h => h.2.keepT.seq hb) ?_ ?_⟩
    · rintro i x σ H2 H3 hi ⟨⟨y4, y5, rfl⟩, s2⟩ ⟨T0, x1, x2, rfl, hT0, rfl, e1, e2⟩
      cases e1
      obtain ⟨p, hp, hpa⟩ := paired_get hts e2
      have s3 : Same H (upd H2 T0 (.tup [.int (i : Nat), x2])) := s2.trans (same_upd hT0)
      refine ⟨T0, _, rfl, SqT.of upd_same, rfl, _, _, rfl, _, _, rfl, rfl, ?_⟩
      refine ⟨_, rfl, _, rfl, _, rfl, _, _, _, p, rfl, hpa.keep s3.keepT, ok.ok p (List.mem_of_getElem? hp), true, rfl, iteF ?_⟩
      exact ⟨⟨_, _, rfl⟩, s3⟩
    · rintro σ H2 ⟨⟨y4, y5, rfl⟩, s2⟩
      refine ⟨_, rfl, _, rfl, N.many, b, xs, N.tubes, rfl, s2.keepT.seq hb, Paired.mapP hts fun _ _ h => h.keep s2.keepT, fun p hp => ⟨(ok.ok p hp).s, (ok.ok p hp).t, (ok.ok p hp).st⟩, o4, o5, ok.forest, fun H3 l B s3 hl hBA hBO => ?_⟩
      refine ⟨_, rfl, rfl, _, rfl, iteF ⟨_, rfl, ?_⟩⟩
      exact q H3 l B (s2.trans s3) (s2.free hl) hBA hBO
end
end Wc

set_option Elab.async false
set_option linter.all false
set_option maxRecDepth 100000
namespace Wc
open PySem PySem.Spec PyProof.Rows L2
/-- what a pipe at k shows, if it is closed -/
def Net.val (N : Net) (k : Nat) : Int := match N.tubes[k]? with
  | some p => if p.wide = true then 0 else p.shown N.base
  | none => 0
def Net.sumOf (N : Net) (L : List Nat) : Int := (L.map N.val).sum
def Net.total (N : Net) (S : List Nat) : Int := (N.sumOf (hits (ent S) N.tubes N.tubes.length) - N.sumOf (hits (exi S) N.tubes N.tubes.length)) % N.base
theorem both_at {K : PySem.W.Frag} {H : Hp} {xs : List V} {ts : List Tube} (h : Paired (TubeAt K H) xs ts) {k : Nat} (hk : k < ts.length) : ∃ a p, xs[k]? = some (.ref a) ∧ ts[k]? = some p ∧ SqT K H a p.vs := by
  have hl := Paired.length h
  have e : xs[k]? = some (xs[k]'(by omega)) := List.getElem?_eq_getElem (by omega)
  obtain ⟨p, hp, a, ea, hpa⟩ := paired_get h e
  exact ⟨a, p, by rw [e, ea], hp, hpa⟩
theorem hits_lt {c : Tube → Bool} {ts : List Tube} {n k : Nat} (h : k ∈ hits c ts n) : k < n := by
  unfold hits at h
  exact List.mem_range.mp (List.mem_filter.mp h).1
section
variable {P : Program} {w : World} {K : PySem.W.Frag} {mg : Str → Option Value} {base : Heap}
abbrev s_law_total : Stmt := top 50
theorem sc_law_total : FnScope ["net", "spots", "total", "sign", "some", "at"] ["net", "spots"] (defScope s_law_total) := ⟨rfl, rfl, rfl, by decide +kernel, rfl, by decide +kernel, by decide +kernel⟩
def sp_law_total (K : PySem.W.Frag) : Sp := fun vs H Q _ => ∃ (a : Addr) (N : Net) (v : V) (S : List Nat), vs = [.ref a, v] ∧ NetAt K H a N ∧ N.tubes.length ≤ 60 ∧ 0 < N.base ∧ Spots K H v S ∧
  ∀ H', Same H H' → Q (.int (N.total S)) H'
theorem has_law_total (D : DefAt K mg "_law_total" s_law_total ["net", "spots"]) (T : Blt mg) (h_law_is_wide : Has P w K mg base "_law_is_wide" 1 ["tube"] (sp_is_open_pipe K)) (h_law_shown : Has P w K mg base "_law_shown" 1 ["net", "tube"] (sp_law_shown K))
    (h_law_ins : Has P w K mg base "_law_ins" 1 ["net", "spots"] (sp_law_hits K ent)) (h_law_outs : Has P w K mg base "_law_outs" 1 ["net", "spots"] (sp_law_hits K exi)) :
    Has P w K mg base "_law_total" 2 ["net", "spots"] (sp_law_total K) := by
  refine D.ok sc_law_total (fun vs H Q E h => ?_) (fun f cdv A outer s H vs Q E hr h => ?_)
  · obtain ⟨a, N, v, S, rfl, _⟩ := h
    rfl
  · obtain ⟨a, N, v, S, rfl, hN, hlen, hbase, hS, q⟩ := h
    obtain ⟨b, xs, ha, hb, hts⟩ := id hN
    obtain ⟨sa, rfl, hS'⟩ := id hS
    refine ⟨_, (pss_cons (ps_set (i := 2) sc_law_total.nd rfl (.inl rfl) pe_int)
      (pss_cons (ps_for PassesOwn.never rfl (pi_tup (pe_tup (pa_cons (pe_tup (pa_cons pe_int (pa_cons (pe_own h_law_ins (hr.mono (by decide)) (by rfl) (pa_cons (pv 0) (pa_cons (pv 1) pa_nil))) pa_nil))) (pa_cons (pe_tup (pa_cons (pe_op op_sub pe_int pe_int) (pa_cons (pe_own h_law_outs (hr.mono (by decide)) (by rfl) (pa_cons (pv 0) (pa_cons (pv 1) pa_nil))) pa_nil))) pa_nil)))) (pg_tup rfl (pgs_cons (pg_name (i := 3) sc_law_total.nd rfl (.inl rfl)) (pgs_cons (pg_name (i := 4) sc_law_total.nd rfl (.inl rfl)) pgs_nil))) (pss_one (ps_for PassesOwn.never rfl (pi_list (pv 4)) (pg_name (i := 5) sc_law_total.nd rfl (.inl rfl)) (pss_one (ps_if (pt_not (pt_val (pe_own h_law_is_wide (hr.mono (by decide)) (by rfl) (pa_cons (pe_ix ix_tup (pe_ix ix_tup (pv 0) pe_int (fun _ _ => rfl)) (pv 5) (fun _ _ => rfl)) pa_nil)))) (pss_one (ps_set (i := 2) sc_law_total.nd rfl (.inl rfl) (pe_op op_add (pv 2) (pe_op op_mul (pv 3) (pe_own h_law_shown (hr.mono (by decide)) (by rfl) (pa_cons (pv 0) (pa_cons (pe_ix ix_tup (pe_ix ix_tup (pv 0) pe_int (fun _ _ => rfl)) (pv 5) (fun _ _ => rfl)) pa_nil))))))) pss_nil)))))
      (pss_one (ps_ret (pe_op op_mod (pv 2) (pe_ix ix_tup (pv 0) pe_int (fun _ _ => rfl))))))), ?_⟩
    refine ⟨_, rfl, _, rfl, a, N, _, S, rfl, hN, hlen, hS, fun H1 l1 s1 hl1 h1 => ⟨(by show 2 ≤ sizeLine; decide), fun t1 ht1 => ?_⟩⟩
    have k1 := same_upd (o := .tup [.int 1, .ref l1]) ht1
    refine ⟨_, _, rfl, rfl, _, rfl, _, rfl, a, N, _, S, rfl, (hN.keep s1.keepT).keep k1.keepT, hlen, ⟨sa, rfl, Spots.at k1 (Spots.at s1 hS')⟩, fun H2 l2 s2 hl2 h2 => ⟨(by show 2 ≤ sizeLine; decide), fun t2 ht2 => ⟨(by show 2 ≤ sizeLine; decide), fun tt htt => ?_⟩⟩⟩
    have k2 := same_upd (o := .tup [.int (0 - 1), .ref l2]) ht2
    have k3 := same_upd (o := .tup [.ref t1, .ref t2]) htt
    have s13 : Same H1 (upd (upd H2 t2 (.tup [.int (0 - 1), .ref l2])) tt (.tup [.ref t1, .ref t2])) := ((k1.trans s2).trans k2).trans k3
    have sA := s1.trans s13
    have g1 := s13 _ _ h1
    have g2 := (k2.trans k3) _ _ h2
    have gt1 := ((s2.trans k2).trans k3) _ _ (show (upd H1 t1 (.tup [.int 1, .ref l1])) t1 = _ from upd_same)
    have gt2 := k3 _ _ (show (upd H2 t2 (.tup [.int (0 - 1), .ref l2])) t2 = _ from upd_same)
    have gtt : (upd (upd H2 t2 (.tup [.int (0 - 1), .ref l2])) tt (.tup [.ref t1, .ref t2])) tt = some (.tup [.ref t1, .ref t2]) := upd_same
    refine ⟨tt, rfl, ⟨_, SqT.of upd_same⟩, ?_⟩
    generalize upd (upd H2 t2 (.tup [.int (0 - 1), .ref l2])) tt (.tup [.ref t1, .ref t2]) = H3 at sA g1 g2 gt1 gt2 gtt
    have ha3 := sA.keepT.seq ha
    have hb3 := sA.keepT.seq hb
    have hN3 := hN.keep sA.keepT
    have hts3 : Paired (TubeAt K H3) xs N.tubes := Paired.mapP hts fun _ _ h => h.keep sA.keepT
    obtain ⟨tl, htl⟩ : ∃ tl : Nat → Int, tl = fun i => if i = 0 then 0 else if i = 1 then N.sumOf (hits (ent S) N.tubes N.tubes.length) else N.sumOf (hits (ent S) N.tubes N.tubes.length) - N.sumOf (hits (exi S) N.tubes N.tubes.length) := ⟨_, rfl⟩
    refine for_it (walk_tup (xs := [.ref t1, .ref t2])) (fun i σ H' => (∃ t y3 y4 y5, σ = [some (.ref a), some (.ref sa), some (.int t), y3, y4, y5] ∧ t = tl i) ∧ H' = H3)
      ⟨⟨0, none, none, none, rfl, by rw [htl]; rfl⟩, rfl⟩ (fun i σ H' _ h => h.2 ▸ SqT.of gtt) ?_ ?_
    · rintro i v σ H4 H4' hi ⟨⟨t, y3, y4, y5, rfl, et⟩, rfl⟩ ⟨rfl, hv⟩
      obtain ⟨T1, l, sg, L, rfl, hsg, hT, hl, hL, hstep⟩ : ∃ (T1 l : Addr) (sg : Int) (L : List Nat), v = .ref T1 ∧ (-2 ^ 64 < sg ∧ sg < 2 ^ 64) ∧ H4' T1 = some (.tup [.int sg, .ref l]) ∧ H4' l = some (.lst (L.map natV)) ∧ (∀ k ∈ L, k < N.tubes.length) ∧ tl (i + 1) = tl i + sg * N.sumOf L := by
        have h2 : i < 2 := hi
        rcases (show i = 0 ∨ i = 1 by omega) with rfl | rfl
        · exact ⟨t1, l1, 1, _, (Option.some.inj hv).symm, ⟨by decide, by decide⟩, gt1, g1, fun k hk => hits_lt hk, by subst htl; show N.sumOf _ = 0 + 1 * N.sumOf _; omega⟩
        · exact ⟨t2, l2, 0 - 1, _, (Option.some.inj hv).symm, ⟨by decide, by decide⟩, gt2, g2, fun k hk => hits_lt hk, by subst htl; show N.sumOf _ - N.sumOf _ = N.sumOf _ + (0 - 1) * N.sumOf _; omega⟩
      refine ⟨T1, _, rfl, SqT.of hT, rfl, _, _, rfl, _, _, rfl, rfl, ?_⟩
      refine ⟨_, rfl, l, rfl, ⟨_, SqL.of hl⟩, ?_⟩
      refine for_it (walk_list (xs := L.map natV)) (fun j σ H' => (∃ t y5, σ = [some (.ref a), some (.ref sa), some (.int t), some (.int sg), some (.ref l), y5] ∧ t = tl i + sg * N.sumOf (L.take j)) ∧ H' = H4')
        ⟨⟨t, _, rfl, by rw [et]; show _ = _ + sg * 0; rw [Int.mul_zero, Int.add_zero]⟩, rfl⟩ (fun j σ H' _ h => h.2 ▸ SqL.of hl) ?_ ?_
      · rintro j v σ H5 H5' hj ⟨⟨t', z5, rfl, et'⟩, rfl⟩ ⟨rfl, hv'⟩
        have hjL : j < L.length := by rw [List.length_map] at hj; exact hj
        have hgj : L[j]? = some L[j] := List.getElem?_eq_getElem hjL
        have hkm := List.getElem_mem hjL
        have htk : L.take (j + 1) = L.take j ++ [L[j]] := by
          rw [List.take_add_one, hgj]
          rfl
        generalize L[j] = k at hgj hkm htk
        have hv2 : (L.map natV)[j]? = some v := hv'
        rw [List.getElem?_map, hgj] at hv2
        have ev : natV k = v := Option.some.inj hv2
        subst ev
        obtain ⟨a1, p, hxk, hpk, hpa⟩ := both_at hts3 (hL k hkm)
        have hval : N.val k = if p.wide = true then 0 else p.shown N.base := by
          unfold Net.val
          rw [hpk]
        have hsum : N.sumOf (L.take (j + 1)) = N.sumOf (L.take j) + N.val k := by
          rw [htk]
          unfold Net.sumOf
          rw [List.map_append, List.sum_append]
          simp
        refine ⟨_, rfl, a, _, 2, _, rfl, rfl, ha3, atI_nat (j := 2) rfl, _, rfl, b, xs, (k : Int), _, rfl, rfl, hb3, atI_nat (j := k) hxk, _, p, rfl, ⟨a1, rfl, hpa⟩, p.wide, rfl, ite2 (fun hw => ?_) (fun hw => ?_)⟩
        · have hw' : p.wide = false := by
            cases z : p.wide with
            | false => rfl
            | true =>
              rw [z] at hw
              cases hw
          rw [if_neg (by rw [hw']; exact Bool.false_ne_true)] at hval
          refine ⟨_, rfl, _, rfl, _, rfl, _, rfl, a, _, 2, _, rfl, rfl, ha3, atI_nat (j := 2) rfl, _, rfl, b, xs, (k : Int), _, rfl, rfl, hb3, atI_nat (j := k) hxk, a, N, _, p, rfl, hN3, hbase, ⟨a1, rfl, hpa⟩, ?_⟩
          exact ⟨_, _, rfl, rfl, .inl hsg, _, _, rfl, rfl, ⟨t' + sg * p.shown N.base, _, rfl, by rw [hsum, hval, Int.mul_add, ← Int.add_assoc, et']⟩, rfl⟩
        · have hw' : p.wide = true := by
            cases z : p.wide with
            | true => rfl
            | false =>
              rw [z] at hw
              exact absurd rfl hw
          rw [if_pos hw'] at hval
          exact ⟨⟨t', _, rfl, by rw [hsum, hval, Int.add_zero]; exact et'⟩, rfl⟩
      · rintro σ H5 ⟨⟨t', z5, rfl, et'⟩, rfl⟩
        rw [List.length_map, List.take_length] at et'
        exact ⟨⟨t', _, _, _, rfl, by rw [et', hstep]⟩, rfl⟩
    · rintro σ H4 ⟨⟨t, y3, y4, y5, rfl, et⟩, rfl⟩
      refine ⟨_, rfl, _, rfl, a, _, 0, _, rfl, rfl, ha3, atI_nat (j := 0) rfl, _, _, rfl, rfl, hbase, ?_⟩
      have e := q _ sA
      unfold Net.total at e
      rw [htl] at et
      have et2 : t = N.sumOf (hits (ent S) N.tubes N.tubes.length) - N.sumOf (hits (exi S) N.tubes N.tubes.length) := et
      rw [← et2] at e
      exact e
end
end Wc

set_option Elab.async false
set_option linter.all false
set_option maxRecDepth 100000
namespace Wc
open PySem PySem.Spec PyProof.Rows L2
theorem comp_first {E : Nat → Nat → Prop} {n x : Nat} (hx : x < n) : ∃ y, (comp E n x)[0]? = some y ∧ (y = x ↔ x ∈ firsts E n) := by
  have hm : x ∈ comp E n x := mem_comp.mpr ⟨hx, .refl⟩
  have hs := comp_sorted E n x
  cases hc : comp E n x with
  | nil =>
    rw [hc] at hm
    exact absurd hm List.not_mem_nil
  | cons y r =>
    rw [hc] at hm hs
    refine ⟨y, rfl, fun e => mem_firsts.mpr ⟨hx, fun z hz hcz => ?_⟩, fun h => ?_⟩
    · have hzm : z ∈ y :: r := by
        rw [← hc]
        exact mem_comp.mpr ⟨by omega, hcz⟩
      rcases List.mem_cons.mp hzm with h | h
      · omega
      · have := (List.pairwise_cons.mp hs).1 z h
        omega
    · have hy : y ∈ comp E n x := by
        rw [hc]
        exact List.mem_cons_self
      have hyc := mem_comp.mp hy
      rcases List.mem_cons.mp hm with e | e
      · exact e.symm
      · have := (List.pairwise_cons.mp hs).1 x e
        exact absurd hyc.2 ((mem_firsts.mp h).2 y this)
section
variable {P : Program} {w : World} {K : PySem.W.Frag} {mg : Str → Option Value} {base : Heap}
abbrev s_law_clusters : Stmt := top 48
theorem sc_law_clusters : FnScope ["net", "found", "at", "cluster"] ["net"] (defScope s_law_clusters) := ⟨rfl, rfl, rfl, by decide +kernel, rfl, by decide +kernel, by decide +kernel⟩
def sp_law_clusters (K : PySem.W.Frag) : Sp := fun vs H Q _ => ∃ (a : Addr) (N : Net), vs = [.ref a] ∧ NetAt K H a N ∧ (∀ p ∈ N.tubes, p.s < N.many ∧ p.t < N.many) ∧ N.many ≤ 24 ∧ N.tubes.length ≤ 60 ∧
  ∀ H' l gs, Same H H' → H l = none → H' l = some (.lst (gs.map V.ref)) → GroupsAt H' gs (OEdge N.tubes none) N.many (firsts (OEdge N.tubes none) N.many) → Q (.ref l) H'
theorem has_law_clusters (D : DefAt K mg "_law_clusters" s_law_clusters ["net"]) (T : Blt mg) (h_law_joined : Has P w K mg base "_law_joined" 2 ["net", "at", "without"] (sp_law_joined K)) :
    Has P w K mg base "_law_clusters" 3 ["net"] (sp_law_clusters K) := by
  refine D.ok sc_law_clusters (fun vs H Q E h => ?_) (fun f cdv A outer s H vs Q E hr h => ?_)
  · obtain ⟨a, N, rfl, _⟩ := h
    rfl
  · obtain ⟨a, N, rfl, hN, hlt, hn, hlen, q⟩ := h
    obtain ⟨b, xs, ha, hb, hts⟩ := id hN
    refine ⟨_, (pss_cons (ps_set (i := 1) sc_law_clusters.nd rfl (.inl rfl) (pe_lst pa_nil))
      (pss_cons (ps_for PassesOwn.never rfl (pi_range1 (by rfl) T.b_range (pa_cons (pe_ix ix_tup (pv 0) pe_int (fun _ _ => rfl)) pa_nil)) (pg_name (i := 2) sc_law_clusters.nd rfl (.inl rfl)) (pss_cons (ps_set (i := 3) sc_law_clusters.nd rfl (.inl rfl) (pe_callTy call_tuple_of (by rfl) T.b_tuple (by decide +kernel) (pa_cons (pe_own h_law_joined (hr.mono (by decide)) (by rfl) (pa_cons (pv 0) (pa_cons (pv 2) (pa_cons pe_non pa_nil)))) pa_nil)))
      (pss_one (ps_if (pt_cmpR op_eq (pe_ix ix_tup (pv 3) pe_int (fun _ _ => rfl)) (pv 2) (nomark _)) (pss_one (ps_expr (pe_bm PySem.F.plainAttrs_list PySem.F.slot_list_append PySem.F.type_list_append mt_append (pv 1) (pa_cons (pv 3) pa_nil)))) pss_nil))))
      (pss_one (ps_ret (pv 1))))), ?_⟩
    refine ⟨Nat.zero_le _, fun fd hfd => ?_⟩
    have sf := same_upd (o := .lst []) hfd
    refine ⟨_, rfl, a, _, 1, _, rfl, rfl, sf.keepT.seq ha, atI_nat (j := 1) rfl, (N.many : Int), rfl, by omega, by omega, ?_⟩
    refine for_range (lo := 0) (n := ((N.many : Int)).toNat) (fun i σ H' => ∃ gs y2 y3, σ = [some (.ref a), some (.ref fd), y2, y3] ∧ Same H H' ∧ H' fd = some (.lst (gs.map V.ref)) ∧ GroupsAt H' gs (OEdge N.tubes none) N.many ((firsts (OEdge N.tubes none) N.many).filter (fun x => decide (x < i))))
      ⟨[], none, none, rfl, sf, upd_same, ?_⟩ ?_ ?_
    · have e : (firsts (OEdge N.tubes none) N.many).filter (fun x => decide (x < 0)) = [] := List.filter_eq_nil_iff.mpr fun x _ h => by simp at h
      rw [e]
      exact .nil
    · rintro i σ H1 hi ⟨gs, y2, y3, rfl, s1, hf, hG⟩
      have hin : i < N.many := by omega
      have e0 : (0 : Int) + (i : Nat) = (i : Int) := by omega
      have gl : gs.length ≤ N.many := by
        rw [Paired.length hG]
        have := List.length_filter_le (fun x => decide (x < i)) (firsts (OEdge N.tubes none) N.many)
        have h2 : (firsts (OEdge N.tubes none) N.many).length ≤ (List.range N.many).length := List.length_filter_le _ _
        rw [List.length_range] at h2
        omega
      rw [e0]
      show (tSeq _ _ : TS) _ _ _
      refine ⟨_, rfl, _, rfl, a, N, i, none, rfl, hN.keep s1.keepT, hlt, hin, hn, hlen, fun H2 l s2 hl hl2 => ⟨l, _, rfl, .inl ⟨SqL.of hl2, fun g hg => ?_⟩⟩⟩
      have s3 := s2.trans (same_upd (o := .tup ((comp (OEdge N.tubes none) N.many i).map natV)) hg)
      have hgt : (upd H2 g (.tup ((comp (OEdge N.tubes none) N.many i).map natV))) g = some (.tup ((comp (OEdge N.tubes none) N.many i).map natV)) := upd_same
      generalize upd H2 g (.tup ((comp (OEdge N.tubes none) N.many i).map natV)) = H3 at s3 hgt
      obtain ⟨y, hy, hyx⟩ := comp_first (E := OEdge N.tubes none) hin
      have hf3 := s3 _ _ hf
      refine ⟨_, rfl, g, _, 0, _, rfl, rfl, SqT.of hgt, atI_nat (j := 0) (by rw [List.getElem?_map, hy]; rfl), _, rfl, rfl, _, rfl, ite2 (fun he => ?_) (fun he => ?_)⟩
      · have hyi : y = i := by
          have := V.int.inj (of_decide_eq_true he)
          omega
        have hf1 := hyx.mp hyi
        refine ⟨_, rfl, .inl ⟨rfl, _, SqL.of hf3⟩, _, rfl, fd, _, _, rfl, rfl, hf3, small1000 (by rw [List.length_map]; omega), ?_⟩
        have ngf : g ≠ fd := fun z => by rw [z, hf3] at hgt; cases hgt
        refine ⟨gs ++ [g], _, _, rfl, fun b o e => ?_, ?_, ?_⟩
        · rw [upd_ne (ne_of_none e hfd)]
          exact s3 _ _ (s1 _ _ e)
        · rw [upd_same, List.map_append]
          rfl
        · rw [firsts_step hin, if_pos hf1]
          refine Paired.snoc (Paired.mapP hG fun g' x e => ?_) ?_
          · rw [upd_ne (fun z => by rw [z, hf] at e; cases e)]
            exact s3 _ _ e
          · rw [upd_ne ngf]
            exact hgt
      · have hnf : i ∉ firsts (OEdge N.tubes none) N.many := fun h => he (decide_eq_true (by rw [hyx.mpr h]; rfl))
        refine ⟨gs, _, _, rfl, s1.trans s3, hf3, ?_⟩
        rw [firsts_step hin, if_neg hnf, List.append_nil]
        exact Paired.mapP hG fun g' x e => s3 _ _ e
    · rintro σ H2 ⟨gs, y2, y3, rfl, s1, hf, hG⟩
      have en : (firsts (OEdge N.tubes none) N.many).filter (fun x => decide (x < ((N.many : Int)).toNat)) = firsts (OEdge N.tubes none) N.many := List.filter_eq_self.mpr fun x hx => decide_eq_true (by have := (mem_firsts.mp hx).1; omega)
      rw [en] at hG
      exact ⟨_, rfl, q _ fd gs s1 hfd hf hG⟩
abbrev s_law_wrong : Stmt := top 51
theorem sc_law_wrong : FnScope ["net", "cluster"] ["net"] (defScope s_law_wrong) := ⟨rfl, rfl, rfl, by decide +kernel, rfl, by decide +kernel, by decide +kernel⟩
def sp_law_wrong (K : PySem.W.Frag) : Sp := fun vs H Q _ => ∃ (a : Addr) (N : Net), vs = [.ref a] ∧ NetAt K H a N ∧ (∀ p ∈ N.tubes, p.s < N.many ∧ p.t < N.many) ∧ N.many ≤ 24 ∧ N.tubes.length ≤ 60 ∧ 0 < N.base ∧
  ∀ H' l ys, Same H H' → H l = none → H' l = some (.lst ys) → ys.length ≤ 24 → (∀ y ∈ ys, ∃ (g : Addr) (S : List Nat), y = .ref g ∧ H' g = some (.tup (S.map natV)) ∧ S.length ≤ 24) →
    (ys = [] ↔ ∀ x ∈ firsts (OEdge N.tubes none) N.many, N.total (comp (OEdge N.tubes none) N.many x) = 0) → Q (.ref l) H'
theorem comp_len (E : Nat → Nat → Prop) (n x : Nat) : (comp E n x).length ≤ n := by
  have h2 : (comp E n x).length ≤ (List.range n).length := List.length_filter_le _ _
  rw [List.length_range] at h2
  exact h2
theorem has_law_wrong (D : DefAt K mg "_law_wrong" s_law_wrong ["net"]) (T : Blt mg) (h_law_clusters : Has P w K mg base "_law_clusters" 3 ["net"] (sp_law_clusters K)) (h_law_total : Has P w K mg base "_law_total" 2 ["net", "spots"] (sp_law_total K)) :
    Has P w K mg base "_law_wrong" 4 ["net"] (sp_law_wrong K) := by
  refine D.ok sc_law_wrong (fun vs H Q E h => ?_) (fun f cdv A outer s H vs Q E hr h => ?_)
  · obtain ⟨a, N, rfl, _⟩ := h
    rfl
  · obtain ⟨a, N, rfl, hN, hlt, hn, hlen, hbase, q⟩ := h
    refine ⟨_, (pss_one (ps_ret (pe_lc (own := [("cluster", 1)]) (g := gName 1) rfl sc_law_wrong.nd (pi_list (pe_own h_law_clusters (hr.mono (by decide)) (by rfl) (pa_cons (pv 0) pa_nil))) (blkOk_by (N := ["net", "cluster"]) (sc := defScope s_law_wrong) (by decide +kernel)) (fun _ _ _ _ _ => (pg_name (i := 1) sc_law_wrong.nd rfl (Or.inl rfl))) (fun _ _ _ _ _ => (pts_one (pt_cmpR op_ne (pe_own h_law_total (hr.mono (by decide)) (by rfl) (pa_cons (pv 0) (pa_cons (pv 1) pa_nil))) pe_int (nomark _)))) (fun _ _ _ _ _ => (pv 1))))), ?_⟩
    refine ⟨_, rfl, a, N, rfl, hN, hlt, hn, hlen, fun H1 l gs s1 hl hgs hG => ⟨l, rfl, ⟨_, SqL.of hgs⟩, fun D0 hD => ?_⟩⟩
    have nl : l ≠ D0 := ne_of_none hgs hD
    have hfl : (firsts (OEdge N.tubes none) N.many).length ≤ N.many := by
      have h2 : (firsts (OEdge N.tubes none) N.many).length ≤ (List.range N.many).length := List.length_filter_le _ _
      rw [List.length_range] at h2
      exact h2
    have hgl : gs.length = (firsts (OEdge N.tubes none) N.many).length := Paired.length hG
    refine lc_it (walk_list (xs := gs.map V.ref)) (fun i H' => Same H1 H' ∧ ∃ ys, H' D0 = some (.lst ys) ∧ ys.length ≤ i ∧ (∀ y ∈ ys, ∃ (g : Addr) (S : List Nat), y = .ref g ∧ H1 g = some (.tup (S.map natV)) ∧ S.length ≤ 24) ∧
        (ys = [] ↔ ∀ x ∈ (firsts (OEdge N.tubes none) N.many).take i, N.total (comp (OEdge N.tubes none) N.many x) = 0))
      ⟨same_upd hD, [], upd_same, Nat.le_refl _, fun y hy => absurd hy List.not_mem_nil, fun _ x hx => by simp at hx, fun _ => rfl⟩ (fun i H' _ ⟨s2, _⟩ => SqL.of (s2 _ _ hgs)) ?_ ?_
    · rintro i v H2 H3 hi ⟨s2, ys, hys, hyl, hyt, hyn⟩ ⟨rfl, hv⟩
      have hil : i < gs.length := by rw [List.length_map] at hi; exact hi
      have hgi : gs[i]? = some gs[i] := List.getElem?_eq_getElem hil
      generalize gs[i] = g at hgi
      have hv2 : (gs.map V.ref)[i]? = some v := hv
      rw [List.getElem?_map, hgi] at hv2
      have ev : V.ref g = v := Option.some.inj hv2
      subst ev
      obtain ⟨x, hx, hgx⟩ := paired_at hG hgi
      have hg2 := s2 _ _ hgx
      have htk : (firsts (OEdge N.tubes none) N.many).take (i + 1) = (firsts (OEdge N.tubes none) N.many).take i ++ [x] := by
        rw [List.take_add_one, hx]
        rfl
      refine ⟨rfl, _, rfl, _, rfl, a, N, _, comp (OEdge N.tubes none) N.many x, rfl, (hN.keep s1.keepT).keep s2.keepT, hlen, hbase, ⟨g, rfl, .inr (SqT.of hg2)⟩, fun H4 s4 => ?_⟩
      have s24 := s2.trans s4
      have hys4 := s4 _ _ hys
      refine ⟨rfl, _, rfl, ite2 (fun hne => ?_) (fun hne => ?_)⟩
      · have hne' : N.total (comp (OEdge N.tubes none) N.many x) ≠ 0 := fun z => by
          rw [z] at hne
          cases hne
        refine ⟨_, rfl, ys, hys4, small1000 (by omega), fun b o e => ?_, ys ++ [.ref g], upd_same, ?_, fun y hy => ?_, ?_⟩
        · rw [upd_ne (ne_of_none e hD)]
          exact s24 _ _ e
        · rw [List.length_append, List.length_singleton]
          omega
        · rcases List.mem_append.mp hy with z | z
          · exact hyt y z
          · exact ⟨g, comp (OEdge N.tubes none) N.many x, by simpa using z, hgx, Nat.le_trans (comp_len _ _ _) hn⟩
        · refine ⟨fun z => by simp at z, fun h => absurd (h x (by rw [htk]; simp)) hne'⟩
      · have he' : N.total (comp (OEdge N.tubes none) N.many x) = 0 := by
          refine Classical.byContradiction fun z => hne ?_
          rw [decide_eq_false (fun e => z (V.int.inj e))]
          rfl
        refine ⟨s24, ys, hys4, by omega, hyt, ?_⟩
        rw [htk, hyn]
        refine ⟨fun h y hy => ?_, fun h y hy => h y (List.mem_append_left _ hy)⟩
        rcases List.mem_append.mp hy with z | z
        · exact h y z
        · have e : y = x := by simpa using z
          exact e ▸ he'
    · rintro H2 ⟨s2, ys, hys, hyl, hyt, hyn⟩
      rw [List.length_map] at hyl
      rw [List.length_map, hgl, List.take_length] at hyn
      exact q H2 D0 ys (s1.trans s2) (s1.free hD) hys (by omega) (fun y hy => (hyt y hy).imp fun g h => h.imp fun S h => ⟨h.1, s2 _ _ h.2.1, h.2.2⟩) hyn
end
end Wc

set_option Elab.async false
set_option linter.all false
set_option maxRecDepth 100000
namespace Wc
open PySem PySem.Spec PyProof.Rows L2
section
variable {K : PySem.W.Frag} {H : Hp} {Q : VK} {a b : Addr} {xs ys : List V}
theorem catA_any (hx : SqT K H a xs) (hy : SqT K H b ys) (hl : xs.length + ys.length ≤ sizeLine) (q : ∀ H' p, Same H H' → SqT K H' p (xs ++ ys) → Q (.ref p) H') : rCatA K (.ref a) (.ref b) H Q := by
  refine ⟨a, b, xs, ys, rfl, rfl, hx, hy, hl, fun e => ?_, fun _ e => ?_, fun _ _ p hp => q _ p (same_upd hp) (SqT.of upd_same)⟩
  · subst e
    exact q H b (fun _ _ e => e) hy
  · subst e
    refine q H a (fun _ _ e => e) ?_
    rw [List.append_nil]
    exact hx
theorem slA_any {lo hi : Option Int} (hx : SqT K H a xs) (q : ∀ H' p, Same H H' → SqT K H' p (cutV xs lo hi) → Q (.ref p) H') : rSlA K (.ref a) lo hi H Q := by
  refine ⟨a, xs, rfl, hx, fun h => q H a (fun _ _ e => e) ?_, fun _ p hp => q _ p (same_upd hp) (SqT.of upd_same)⟩
  have e : cutV xs lo hi = xs := by
    unfold cutV
    rw [h.1, h.2, Nat.sub_zero, List.drop_zero, List.take_length]
  rw [e]
  exact hx
end
def optD : Option Int → PyData
  | none => .none
  | some i => .int i
def tubeD (p : Tube) : PyData := .tuple [.int p.s, .int p.t, .int p.lo, .int p.hi, optD p.me]
theorem dp_opt (K : PySem.W.Frag) (H : Hp) (o : Option Int) : Dp K H (optV o) (optD o) := by
  cases o with
  | none => exact .non
  | some i => exact .int i
theorem dp_tube {K : PySem.W.Frag} {H : Hp} {v : V} {p : Tube} (h : TubeAt K H v p) : Dp K H v (tubeD p) := by
  obtain ⟨a, rfl, h⟩ := h
  exact .tup h (.cons (.int _) (.cons (.int _) (.cons (.int _) (.cons (.int _) (.cons (dp_opt K H p.me) .nil)))))
theorem dp_tubes {K : PySem.W.Frag} {H : Hp} {xs : List V} {ts : List Tube} (h : Paired (TubeAt K H) xs ts) : DpAll K H xs (ts.map tubeD) := by
  induction h with
  | nil => exact .nil
  | cons r _ ih => exact .cons (dp_tube r) ih
theorem tube_can (p : Tube) : (tubeD p).canLay0 = true ∧ (tubeD p).depth ≤ 1 := by
  unfold tubeD optD
  cases p.me <;> simp [PyData.canLay0, PyData.canLayAll0, PyData.depth, PyData.depthAll]
theorem shaped_tubes (ts : List Tube) : SeqAt.shaped (.tuple (ts.map tubeD)) = true := by
  unfold SeqAt.shaped
  have z1 : (PyData.tuple (ts.map tubeD)).canLay0 = true := by
    simp only [PyData.canLay0]
    exact canLayAll_of fun d hd => by
      obtain ⟨p, _, rfl⟩ := List.mem_map.mp hd
      exact (tube_can p).1
  have z2 : (PyData.tuple (ts.map tubeD)).depth ≤ 64 := by
    simp only [PyData.depth]
    have := depthAll_le (n := 1) (ds := ts.map tubeD) fun d hd => by
      obtain ⟨p, _, rfl⟩ := List.mem_map.mp hd
      exact (tube_can p).2
    omega
  rw [z1, decide_eq_true z2]
  rfl
theorem shaped_nilT : SeqAt.shaped (.tuple []) = true := shaped_tubes []
theorem Paired.take {α β : Type} {F : α → β → Prop} {l : List α} {m : List β} (h : Paired F l m) : ∀ k, Paired F (l.take k) (m.take k) := by
  induction h with
  | nil =>
    intro k
    rw [List.take_nil, List.take_nil]
    exact .nil
  | cons r _ ih =>
    intro k
    cases k with
    | zero => exact .nil
    | succ k => exact .cons r (ih k)
theorem Paired.drop {α β : Type} {F : α → β → Prop} {l : List α} {m : List β} (h : Paired F l m) : ∀ k, Paired F (l.drop k) (m.drop k) := by
  induction h with
  | nil =>
    intro k
    rw [List.drop_nil, List.drop_nil]
    exact .nil
  | cons r q ih =>
    intro k
    cases k with
    | zero => exact .cons r q
    | succ k => exact ih k
theorem Paired.append {α β : Type} {F : α → β → Prop} {l l' : List α} {m m' : List β} (h : Paired F l m) (h' : Paired F l' m') : Paired F (l ++ l') (m ++ m') := by
  induction h with
  | nil => exact h'
  | cons r _ ih => exact .cons r ih
theorem paired_splice {α β : Type} {F : α → β → Prop} {l : List α} {m : List β} {x : α} {y : β} (h : Paired F l m) (k : Nat) (r : F x y) : Paired F (l.take k ++ [x] ++ l.drop (k + 1)) (m.take k ++ [y] ++ m.drop (k + 1)) :=
  Paired.append (Paired.append (Paired.take h k) (.cons r .nil)) (Paired.drop h (k + 1))
theorem splice_get {α : Type} {l : List α} {y : α} {k : Nat} (hk : k < l.length) {j : Nat} {z : α} (h : (l.take k ++ [y] ++ l.drop (k + 1))[j]? = some z) : (j = k ∧ z = y) ∨ (j ≠ k ∧ l[j]? = some z) := by
  have e : l.take k ++ [y] ++ l.drop (k + 1) = l.set k y := by
    rw [List.set_eq_take_append_cons_drop, if_pos hk, List.append_assoc]
    rfl
  rw [e] at h
  by_cases z' : j = k
  · subst z'
    rw [List.getElem?_set_self hk] at h
    exact .inl ⟨rfl, (Option.some.inj h).symm⟩
  · rw [List.getElem?_set_ne (Ne.symm z')] at h
    exact .inr ⟨z', h⟩
theorem net_splice {N : Net} (ok : NetOk N) {k : Nat} {p p' : Tube} (hp : N.tubes[k]? = some p) (okn : TubeOk N.base N.many p') (wdn : p'.wide = true → p.wide = true ∧ p.s = p'.s ∧ p.t = p'.t) :
    NetOk ⟨N.base, N.many, N.tubes.take k ++ [p'] ++ N.tubes.drop (k + 1)⟩ := by
  have hk := (List.getElem?_eq_some_iff.mp hp).1
  refine ⟨ok.b2, ok.b6, ok.m1, ok.m24, ?_, fun x hx => ?_, forest_sub ok.forest fun j x hj hw => ?_⟩
  · have := ok.len
    show (N.tubes.take k ++ [p'] ++ N.tubes.drop (k + 1)).length ≤ 60
    simp only [List.length_append, List.length_take, List.length_drop, List.length_singleton]
    omega
  · obtain ⟨j, hj⟩ := List.getElem?_of_mem hx
    rcases splice_get hk hj with ⟨_, e⟩ | ⟨_, h⟩
    · exact e ▸ okn
    · exact ok.ok x (List.mem_of_getElem? h)
  · rcases splice_get hk hj with ⟨e1, e⟩ | ⟨_, h⟩
    · subst e1 e
      have h3 := wdn hw
      exact ⟨p, hp, h3.1, h3.2.1, h3.2.2⟩
    · exact ⟨x, h, hw, rfl, rfl⟩
set_option hygiene false
local macro_rules | `(tactic| walk_at "bent_none") => `(tactic| (
  refine ⟨_, rfl, Nat.zero_le _, fun e1 he1 => ?_⟩
  have s9 := same_upd (o := .lst []) he1
  refine ⟨.list [], .list [], .lst (SqL.of (s9 _ _ hfd3)) .nil, .lst (SqL.of upd_same) .nil, shaped_listOf (fun d hd => absurd hd List.not_mem_nil), shaped_listOf (fun d hd => absurd hd List.not_mem_nil), _, rfl, ?_⟩
  rw [eqv_nil]
  refine iteT ?_
  exact ⟨_, rfl, q _ na N (dr3.trans (Dr.same s9)) ((ms3.le (by omega)).same s9) (hN3.keep s9.keepT) ok rfl rfl⟩))
set_option hygiene true
theorem bent_st {G : L2.St → Hp → Prop} {σ' : L2.St} {H : Hp} (h : G σ' H) : G σ' H := h
set_option hygiene false
local macro_rules | `(tactic| walk_at "bent_some") => `(tactic| (
  have hb6 := k6.seq hb3
  have hts6 : Paired (TubeAt K H6) xs N.tubes := Paired.mapP hts3 fun _ _ h => h.keep k6
  refine ⟨_, rfl, Nat.zero_le _, fun e1 he1 => ?_⟩
  have s9 := same_upd (o := .lst []) he1
  refine ⟨.list [tubeD p'], .list [], .lst (SqL.of (s9 _ _ hlp6)) (.cons (dp_tube ⟨tp, rfl, SqT.of (s9 _ _ htp6)⟩) .nil), .lst (SqL.of upd_same) .nil, shaped_listOf (fun d hd => ?_), shaped_listOf (fun d hd => absurd hd List.not_mem_nil), _, rfl, ?_⟩
  · have ed : d = tubeD p' := by simpa using hd
    rw [ed]
    exact ⟨(tube_can p').1, Nat.le_trans (tube_can p').2 (by decide)⟩
  rw [eqv_nil]
  refine iteF ?_
  have hb9 := s9.keepT.seq hb6
  have hts9 : Paired (TubeAt K (upd H6 e1 (.lst []))) xs N.tubes := Paired.mapP hts6 fun _ _ h => h.keep s9.keepT
  have hlp9 := s9 _ _ hlp6
  have htp9 := s9 _ _ htp6
  have dr9 := dr6.trans (Dr.same s9)
  have ms9 := ms6.same s9
  generalize upd H6 e1 (.lst []) = H9 at hb9 hts9 hlp9 htp9 dr9 ms9
  refine ⟨_, rfl, _, rfl, _, rfl, _, rfl, (k : Int), rfl, slA_any hb9 fun HA pa sA hA => ?_⟩
  refine ⟨_, rfl, lp, _, rfl, .inl ⟨SqL.of (sA _ _ hlp9), fun pb hpb => ?_⟩⟩
  have sB := same_upd (o := .tup [.ref tp]) hpb
  refine catA_any (sB.keepT.seq hA) (SqT.of upd_same) ?_ fun HC pc sC hC => ?_
  · rw [cut_take, List.length_take]
    exact Nat.le_trans (show _ ≤ 1000 by simp only [List.length_singleton]; omega) (by decide)
  have s9C := (sA.trans sB).trans sC
  refine ⟨_, rfl, _, rfl, _, _, rfl, rfl, ((k + 1 : Nat) : Int), rfl, ?_⟩
  show tNoPart _ _ _
  delta tNoPart
  show rSlA K (.ref b) (some ((k + 1 : Nat) : Int)) none HC _
  refine slA_any (s9C.keepT.seq hb9) fun HD pd sD hD => ?_
  refine catA_any (sD.keepT.seq hC) hD ?_ fun HE pe sE hE => ?_
  · rw [cut_take, cut_drop, List.length_append, List.length_take, List.length_drop]
    exact Nat.le_trans (show _ ≤ 1000 by simp only [List.length_singleton]; omega) (by decide)
  refine ⟨(by show 3 ≤ sizeLine; decide), fun pf hpf => ?_⟩
  have s9E := (s9C.trans sD).trans sE
  have sF := same_upd (o := .tup [.int N.base, .int N.many, .ref pe]) hpf
  have s9F := s9E.trans sF
  rw [cut_take, cut_drop] at hE
  have htsF : Paired (TubeAt K (upd HE pf (.tup [.int N.base, .int N.many, .ref pe]))) xs N.tubes := Paired.mapP hts9 fun _ _ h => h.keep s9F.keepT
  have hnew : TubeAt K (upd HE pf (.tup [.int N.base, .int N.many, .ref pe])) (.ref tp) p' := ⟨tp, rfl, SqT.of (s9F _ _ htp9)⟩
  exact q _ pf ⟨N.base, N.many, N.tubes.take k ++ [p'] ++ N.tubes.drop (k + 1)⟩ (dr9.trans (Dr.same s9F)) (ms9.same s9F) ⟨pe, _, SqT.of upd_same, sF.keepT.seq hE, paired_splice htsF k hnew⟩ (net_splice ok hpk okn wdn) rfl rfl))

set_option hygiene true
section
variable {P : Program} {w : World} {K : PySem.W.Frag} {mg : Str → Option Value} {base : Heap}
abbrev s_law_bent : Stmt := top 42
theorem sc_law_bent : FnScope ["m", "net", "base", "many", "tubes", "at", "way", "far", "source", "target", "low", "high", "meter"] ["m", "net"] (defScope s_law_bent) := ⟨rfl, rfl, rfl, by decide +kernel, rfl, by decide +kernel, by decide +kernel⟩
def sp_law_bent (K : PySem.W.Frag) : Sp := fun vs H Q _ => ∃ (a c g na : Addr) (r : Nat) (N : Net), vs = [.ref a, .ref na] ∧ MS H a c g (r + 4) ∧ NetAt K H na N ∧ NetOk N ∧
  ∀ H' pa N', Dr a g H H' → MS H' a c g r → NetAt K H' pa N' → NetOk N' → N'.base = N.base → N'.many = N.many → Q (.ref pa) H'
set_option maxHeartbeats 4000000 in
theorem has_law_bent (D : DefAt K mg "_law_bent" s_law_bent ["m", "net"]) (T : Blt mg) (h_law_draw : Has P w K mg base "_law_draw" 2 ["m", "top"] sp_law_draw) :
    Has P w K mg base "_law_bent" 3 ["m", "net"] (sp_law_bent K) := by
  refine D.ok sc_law_bent (fun vs H Q E h => ?_) (fun f cdv A outer s H vs Q E hr h => ?_)
  · obtain ⟨a, c, g, na, r, N, rfl, _⟩ := h
    rfl
  · obtain ⟨a, c, g, na, r, N, rfl, ms, hN, ok, q⟩ := h
    obtain ⟨b, xs, ha, hb, hts⟩ := id hN
    have hu64 := hr.b64
    have hxl : xs.length = N.tubes.length := Paired.length hts
    have hlen := ok.len
    refine ⟨_, (pss_cons (ps_asg (pv 1) (pg_tup rfl (pgs_cons (pg_name (i := 2) sc_law_bent.nd rfl (.inl rfl)) (pgs_cons (pg_name (i := 3) sc_law_bent.nd rfl (.inl rfl)) (pgs_cons (pg_name (i := 4) sc_law_bent.nd rfl (.inl rfl)) pgs_nil)))))
      (pss_cons (ps_if (pt_cmpR (op_eqD hu64) (pv 4) (pe_tup pa_nil) (nomark _)) (pss_one (ps_ret (pv 1))) pss_nil)
      (pss_cons (ps_par3 (i := 5) (j := 6) (l := 7) (by rfl) sc_law_bent.nd rfl rfl rfl (by decide) (by decide) (by decide) rfl rfl rfl (pa_cons (pe_own h_law_draw (hr.mono (by decide)) (by rfl) (pa_cons (pv 0) (pa_cons (pe_callB call_len_seq (by rfl) T.b_len (by decide +kernel) (pa_cons (pv 4) pa_nil)) pa_nil))) (pa_cons (pe_own h_law_draw (hr.mono (by decide)) (by rfl) (pa_cons (pv 0) (pa_cons pe_int pa_nil))) (pa_cons (pe_lst pa_nil) pa_nil))) (by rfl))
      (pss_cons (ps_asg (pe_ix ix_tup (pv 4) (pv 5) (fun _ _ => rfl)) (pg_tup rfl (pgs_cons (pg_name (i := 8) sc_law_bent.nd rfl (.inl rfl)) (pgs_cons (pg_name (i := 9) sc_law_bent.nd rfl (.inl rfl)) (pgs_cons (pg_name (i := 10) sc_law_bent.nd rfl (.inl rfl)) (pgs_cons (pg_name (i := 11) sc_law_bent.nd rfl (.inl rfl)) (pgs_cons (pg_name (i := 12) sc_law_bent.nd rfl (.inl rfl)) pgs_nil)))))))
      (pss_cons (ps_if (PW.pt (pw_and (pt_cmpR op_eq (pv 6) pe_int (nomark _)) (pw_and1 (pt_cmpR op_notN (pv 12) pe_non (nomark _))))) (pss_one (ps_set (i := 7) sc_law_bent.nd rfl (.inl rfl) (pe_lst (pa_cons (pe_tup (pa_cons (pv 8) (pa_cons (pv 9) (pa_cons (pv 10) (pa_cons (pv 11) (pa_cons (pe_op op_mod (pe_op op_add (pe_op op_add (pv 12) pe_int) (pe_own h_law_draw (hr.mono (by decide)) (by rfl) (pa_cons (pv 0) (pa_cons (pe_op op_sub (pv 2) pe_int) pa_nil)))) (pv 2)) pa_nil)))))) pa_nil)))) pss_nil)
      (pss_cons (ps_if (pt_cmpR op_eq (pv 6) pe_int (nomark _)) (pss_one (ps_set (i := 7) sc_law_bent.nd rfl (.inl rfl) (pe_lst (pa_cons (pe_tup (pa_cons (pv 8) (pa_cons (pv 9) (pa_cons (pe_op op_add (pv 10) (pe_op op_fdiv (pe_op op_mul (pe_op op_sub (pv 11) (pv 10)) (pe_op op_add pe_int (pe_own h_law_draw (hr.mono (by decide)) (by rfl) (pa_cons (pv 0) (pa_cons pe_int pa_nil))))) pe_int)) (pa_cons (pv 11) (pa_cons (pv 12) pa_nil)))))) pa_nil)))) pss_nil)
      (pss_cons (ps_if (pt_cmpR op_eq (pv 6) pe_int (nomark _)) (pss_one (ps_set (i := 7) sc_law_bent.nd rfl (.inl rfl) (pe_lst (pa_cons (pe_tup (pa_cons (pv 8) (pa_cons (pv 9) (pa_cons (pv 10) (pa_cons (pe_op op_sub (pv 11) (pe_op op_fdiv (pe_op op_mul (pe_op op_sub (pv 11) (pv 10)) (pe_op op_add pe_int (pe_own h_law_draw (hr.mono (by decide)) (by rfl) (pa_cons (pv 0) (pa_cons pe_int pa_nil))))) pe_int)) (pa_cons (pv 12) pa_nil)))))) pa_nil)))) pss_nil)
      (pss_cons (ps_if (PW.pt (pw_and (pt_cmpR op_eq (pv 6) pe_int (nomark _)) (pw_and1 (pt_cmpR op_notN (pv 12) pe_non (nomark _))))) (pss_one (ps_set (i := 7) sc_law_bent.nd rfl (.inl rfl) (pe_lst (pa_cons (pe_tup (pa_cons (pv 9) (pa_cons (pv 8) (pa_cons (pv 10) (pa_cons (pv 11) (pa_cons (pv 12) pa_nil)))))) pa_nil)))) pss_nil)
      (pss_cons (ps_if (pt_cmpR (op_eqD hu64) (pv 7) (pe_lst pa_nil) (nomark _)) (pss_one (ps_ret (pv 1))) pss_nil)
      (pss_one (ps_ret (pe_tup (pa_cons (pv 2) (pa_cons (pv 3) (pa_cons (pe_op op_catA (pe_op op_catA (pe_slice sl_tupA (pv 4) po_none (po_some (pv 5))) (pe_callTy call_tuple_of (by rfl) T.b_tuple (by decide +kernel) (pa_cons (pv 7) pa_nil))) (pe_slice sl_tupA (pv 4) (po_some (pe_op op_add (pv 5) pe_int)) po_none)) pa_nil))))))))))))))), ?_⟩
    refine ⟨_, rfl, na, _, rfl, ha, rfl, _, _, rfl, _, _, rfl, _, _, rfl, rfl, ?_⟩
    refine ⟨_, rfl, Nat.zero_le _, fun e0 he0 => ?_⟩
    have se := same_upd (o := .tup []) he0
    refine ⟨.tuple (N.tubes.map tubeD), .tuple [], .tup (se.keepT.seq hb) (dp_tubes (Paired.mapP hts fun _ _ h => h.keep se.keepT)), .tup (SqT.of upd_same) .nil, shaped_tubes _, shaped_nilT, _, rfl, ?_⟩
    rw [eqvT_nil]
    cases hnil : (N.tubes.map tubeD).isEmpty with
    | true =>
      refine iteT ?_
      exact ⟨_, rfl, q _ na N (Dr.same se) ((ms.le (by omega)).same se) (hN.keep se.keepT) ok rfl rfl⟩
    | false =>
      refine iteF ?_
      have hpos : 0 < N.tubes.length := by
        cases z : N.tubes with
        | nil =>
          rw [z] at hnil
          cases hnil
        | cons p r => exact Nat.succ_pos _
      have hb0 := se.keepT.seq hb
      have hN0 := hN.keep se.keepT
      have hts0 : Paired (TubeAt K (upd H e0 (.tup []))) xs N.tubes := Paired.mapP hts fun _ _ h => h.keep se.keepT
      have ms0 := ms.same se
      have dr0 : Dr a g H (upd H e0 (.tup [])) := Dr.same se
      generalize upd H e0 (.tup []) = H0 at hb0 hN0 hts0 ms0 dr0
      refine ⟨_, rfl, _, rfl, b, xs, rfl, .inr hb0, a, c, g, _, _, rfl, ms0.le (r' := r + 3 + 1) (by omega), by omega, by omega, fun H1 at_ d1 ms1 h0 h1 => ?_⟩
      refine ⟨_, rfl, a, c, g, _, 4, rfl, ms1.le (r' := r + 2 + 1) (by omega), by decide, by decide, fun H2 wy d2 ms2 w0 w1 => ⟨Nat.zero_le _, fun fd hfd => ⟨_, _, _, rfl, ?_⟩⟩⟩
      have sf := same_upd (o := .lst []) hfd
      have hfd3 : (upd H2 fd (.lst [])) fd = some (.lst []) := upd_same
      have dr3 := ((dr0.trans d1).trans d2).trans (Dr.same sf)
      have ms3 := ms2.same sf
      have k3 : KeepT H0 (upd H2 fd (.lst [])) := ((d1.keepT ms0).trans (d2.keepT ms1)).trans sf.keepT
      have fda := ms2.fa hfd
      have fdg := ms2.fg hfd
      generalize upd H2 fd (.lst []) = H3 at hfd3 dr3 ms3 k3
      have hb3 := k3.seq hb0
      have hN3 := hN0.keep k3
      obtain ⟨k, rfl⟩ := Int.eq_ofNat_of_zero_le h0
      have hk : k < N.tubes.length := by omega
      have hts3 : Paired (TubeAt K H3) xs N.tubes := Paired.mapP hts0 fun _ _ h => h.keep k3
      obtain ⟨a1, p, hxk, hpk, hpa⟩ := both_at hts3 hk
      have okp := ok.ok p (List.mem_of_getElem? hpk)
      refine ⟨_, rfl, _, rfl, b, xs, (k : Int), .ref a1, rfl, rfl, hb3, atI_nat (j := k) hxk, a1, _, rfl, hpa, rfl, _, _, rfl, _, _, rfl, _, _, rfl, _, _, rfl, _, _, rfl, rfl, ?_⟩
      show (_ : L2.St → Hp → Prop) [some (.ref a), some (.ref na), some (.int N.base), some (.int N.many), some (.ref b), some (.int (k : Int)), some (.int wy), some (.ref fd), some (.int p.s), some (.int p.t), some (.int p.lo), some (.int p.hi), some (optV p.me)] H3
      have hwy : wy = 0 ∨ wy = 1 ∨ wy = 2 ∨ wy = 3 := by omega
      rcases hwy with rfl | rfl | rfl | rfl
      · refine ⟨_, rfl, rfl, _, rfl, iteB rfl ?_⟩
        cases hm : p.me with
        | none =>
          refine ⟨_, rfl, rfl, _, rfl, iteN rfl ?_⟩
          refine ⟨_, rfl, rfl, _, rfl, iteN rfl ?_⟩
          refine ⟨_, rfl, rfl, _, rfl, iteN rfl ?_⟩
          refine ⟨_, rfl, rfl, _, rfl, iteN rfl (iteF ?_)⟩
          walk_at "bent_none"
        | some m =>
          have om := okp.me m hm
          refine ⟨_, rfl, rfl, _, rfl, iteB rfl ?_⟩
          have hb2 := ok.b2
          refine ⟨_, rfl, _, rfl, _, rfl, _, rfl, _, rfl, _, _, rfl, rfl, _, rfl, _, rfl, _, _, rfl, rfl, a, c, g, _, N.base - 1, rfl, ms3.le (r' := r + 1) (by omega), by omega, by have := ok.b6; omega, fun H4 d d4 ms4 hd0 hd1 => ?_⟩
          refine ⟨_, _, rfl, rfl, _, rfl, _, _, rfl, rfl, by omega, (by show 5 ≤ sizeLine; decide), fun tp htp => ⟨(by show 1 ≤ sizeLine; decide), fun lp hlp => ?_⟩⟩
          show (_ : L2.St → Hp → Prop) [some (.ref a), some (.ref na), some (.int N.base), some (.int N.many), some (.ref b), some (.int (k : Int)), some (.int 0), some (.ref lp), some (.int p.s), some (.int p.t), some (.int p.lo), some (.int p.hi), some (.int m)] (upd (upd H4 tp (.tup (Tube.mk p.s p.t p.lo p.hi (some ((m + 1 + d) % N.base))).vs)) lp (.lst [.ref tp]))
          have hd9 : 0 ≤ (m + 1 + d) % N.base ∧ (m + 1 + d) % N.base < N.base := ⟨Int.emod_nonneg _ (by omega), Int.emod_lt_of_pos _ (by omega)⟩
          have s5 := same_upd (o := .tup (Tube.mk p.s p.t p.lo p.hi (some ((m + 1 + d) % N.base))).vs) htp
          have hlp' : (upd H4 tp (.tup (Tube.mk p.s p.t p.lo p.hi (some ((m + 1 + d) % N.base))).vs)) lp = none := hlp
          have s6 := same_upd (o := .lst [.ref tp]) hlp'
          have htp6 := s6 _ _ (show (upd H4 tp (.tup (Tube.mk p.s p.t p.lo p.hi (some ((m + 1 + d) % N.base))).vs)) tp = _ from upd_same)
          have hlp6 : (upd (upd H4 tp (.tup (Tube.mk p.s p.t p.lo p.hi (some ((m + 1 + d) % N.base))).vs)) lp (.lst [.ref tp])) lp = some (.lst [.ref tp]) := upd_same
          have k6 := ((d4.keepT ms3).trans s5.keepT).trans s6.keepT
          have dr6 := (dr3.trans d4).trans (Dr.same (s5.trans s6))
          have ms6 := (ms4.le (Nat.le_add_right r 0)).same (s5.trans s6)
          have okn : TubeOk N.base N.many (Tube.mk p.s p.t p.lo p.hi (some ((m + 1 + d) % N.base))) := ⟨okp.s, okp.t, okp.st, okp.lo, okp.lh, okp.hi, fun x e => Option.some.inj e ▸ hd9⟩
          have wdn : (Tube.mk p.s p.t p.lo p.hi (some ((m + 1 + d) % N.base))).wide = true → p.wide = true ∧ p.s = (Tube.mk p.s p.t p.lo p.hi (some ((m + 1 + d) % N.base))).s ∧ p.t = (Tube.mk p.s p.t p.lo p.hi (some ((m + 1 + d) % N.base))).t := fun z => by cases z
          generalize upd (upd H4 tp (.tup (Tube.mk p.s p.t p.lo p.hi (some ((m + 1 + d) % N.base))).vs)) lp (.lst [.ref tp]) = H6 at hlp6 htp6 k6 dr6 ms6
          generalize Tube.mk p.s p.t p.lo p.hi (some ((m + 1 + d) % N.base)) = p' at htp6 okn wdn
          refine ⟨_, rfl, rfl, _, rfl, iteN rfl ?_⟩
          refine ⟨_, rfl, rfl, _, rfl, iteN rfl ?_⟩
          refine ⟨_, rfl, rfl, _, rfl, iteN rfl (iteF ?_)⟩
          walk_at "bent_some"
      · refine ⟨_, rfl, rfl, _, rfl, iteN rfl (iteF ?_)⟩
        refine ⟨_, rfl, rfl, _, rfl, iteB rfl ?_⟩
        · refine ⟨_, rfl, _, rfl, _, rfl, _, rfl, _, rfl, _, _, rfl, rfl, _, rfl, a, c, g, _, 3, rfl, ms3.le (r' := r + 1) (by omega), by decide, by decide, fun H4 d d4 ms4 hd0 hd1 => ?_⟩
          refine ⟨_, _, rfl, rfl, _, _, rfl, rfl, .inr ⟨by omega, by omega⟩, _, _, rfl, rfl, ⟨by decide, by decide⟩, _, _, rfl, rfl, _, rfl, _, rfl, (by show 5 ≤ sizeLine; decide), fun tp htp => ⟨(by show 1 ≤ sizeLine; decide), fun lp hlp => ?_⟩⟩
          show (_ : L2.St → Hp → Prop) [some (.ref a), some (.ref na), some (.int N.base), some (.int N.many), some (.ref b), some (.int (k : Int)), some (.int 1), some (.ref lp), some (.int p.s), some (.int p.t), some (.int p.lo), some (.int p.hi), some (optV p.me)] (upd (upd H4 tp (.tup (Tube.mk p.s p.t (p.lo + (p.hi - p.lo) * (1 + d) / 3) p.hi p.me).vs)) lp (.lst [.ref tp]))
          have s5 := same_upd (o := .tup (Tube.mk p.s p.t (p.lo + (p.hi - p.lo) * (1 + d) / 3) p.hi p.me).vs) htp
          have hlp' : (upd H4 tp (.tup (Tube.mk p.s p.t (p.lo + (p.hi - p.lo) * (1 + d) / 3) p.hi p.me).vs)) lp = none := hlp
          have s6 := same_upd (o := .lst [.ref tp]) hlp'
          have htp6 := s6 _ _ (show (upd H4 tp (.tup (Tube.mk p.s p.t (p.lo + (p.hi - p.lo) * (1 + d) / 3) p.hi p.me).vs)) tp = _ from upd_same)
          have hlp6 : (upd (upd H4 tp (.tup (Tube.mk p.s p.t (p.lo + (p.hi - p.lo) * (1 + d) / 3) p.hi p.me).vs)) lp (.lst [.ref tp])) lp = some (.lst [.ref tp]) := upd_same
          have k6 := ((d4.keepT ms3).trans s5.keepT).trans s6.keepT
          have dr6 := (dr3.trans d4).trans (Dr.same (s5.trans s6))
          have ms6 := (ms4.le (Nat.le_add_right r 0)).same (s5.trans s6)
          have hpart : 0 ≤ (p.hi - p.lo) * (1 + d) / 3 ∧ (p.hi - p.lo) * (1 + d) / 3 ≤ p.hi - p.lo := by
            have := okp.lh
            rcases (show d = 0 ∨ d = 1 ∨ d = 2 by omega) with rfl | rfl | rfl <;> omega
          have oklo := okp.lo
          have okhi := okp.hi
          have okn : TubeOk N.base N.many (Tube.mk p.s p.t (p.lo + (p.hi - p.lo) * (1 + d) / 3) p.hi p.me) := ⟨okp.s, okp.t, okp.st, by show 0 ≤ p.lo + _; omega, by show p.lo + _ ≤ p.hi; omega, okp.hi, okp.me⟩
          have wdn : (Tube.mk p.s p.t (p.lo + (p.hi - p.lo) * (1 + d) / 3) p.hi p.me).wide = true → p.wide = true ∧ p.s = (Tube.mk p.s p.t (p.lo + (p.hi - p.lo) * (1 + d) / 3) p.hi p.me).s ∧ p.t = (Tube.mk p.s p.t (p.lo + (p.hi - p.lo) * (1 + d) / 3) p.hi p.me).t := fun z => by
            unfold Tube.wide at z ⊢
            rw [Bool.and_eq_true] at z
            have z2 := of_decide_eq_true z.2
            refine ⟨?_, rfl, rfl⟩
            rw [z.1, Bool.true_and]
            exact decide_eq_true (by have z3 : p.lo + (p.hi - p.lo) * (1 + d) / 3 < p.hi := z2; omega)
          generalize upd (upd H4 tp (.tup (Tube.mk p.s p.t (p.lo + (p.hi - p.lo) * (1 + d) / 3) p.hi p.me).vs)) lp (.lst [.ref tp]) = H6 at hlp6 htp6 k6 dr6 ms6
          generalize Tube.mk p.s p.t (p.lo + (p.hi - p.lo) * (1 + d) / 3) p.hi p.me = p' at htp6 okn wdn
          refine ⟨_, rfl, rfl, _, rfl, iteN rfl ?_⟩
          refine ⟨_, rfl, rfl, _, rfl, iteN rfl (iteF ?_)⟩
          walk_at "bent_some"
      · refine ⟨_, rfl, rfl, _, rfl, iteN rfl (iteF ?_)⟩
        refine ⟨_, rfl, rfl, _, rfl, iteN rfl ?_⟩
        refine ⟨_, rfl, rfl, _, rfl, iteB rfl ?_⟩
        · refine ⟨_, rfl, _, rfl, _, rfl, _, rfl, _, rfl, _, rfl, _, _, rfl, rfl, _, rfl, a, c, g, _, 3, rfl, ms3.le (r' := r + 1) (by omega), by decide, by decide, fun H4 d d4 ms4 hd0 hd1 => ?_⟩
          refine ⟨_, _, rfl, rfl, _, _, rfl, rfl, .inr ⟨by omega, by omega⟩, _, _, rfl, rfl, ⟨by decide, by decide⟩, _, _, rfl, rfl, _, rfl, (by show 5 ≤ sizeLine; decide), fun tp htp => ⟨(by show 1 ≤ sizeLine; decide), fun lp hlp => ?_⟩⟩
          show (_ : L2.St → Hp → Prop) [some (.ref a), some (.ref na), some (.int N.base), some (.int N.many), some (.ref b), some (.int (k : Int)), some (.int 2), some (.ref lp), some (.int p.s), some (.int p.t), some (.int p.lo), some (.int p.hi), some (optV p.me)] (upd (upd H4 tp (.tup (Tube.mk p.s p.t p.lo (p.hi - (p.hi - p.lo) * (1 + d) / 3) p.me).vs)) lp (.lst [.ref tp]))
          have s5 := same_upd (o := .tup (Tube.mk p.s p.t p.lo (p.hi - (p.hi - p.lo) * (1 + d) / 3) p.me).vs) htp
          have hlp' : (upd H4 tp (.tup (Tube.mk p.s p.t p.lo (p.hi - (p.hi - p.lo) * (1 + d) / 3) p.me).vs)) lp = none := hlp
          have s6 := same_upd (o := .lst [.ref tp]) hlp'
          have htp6 := s6 _ _ (show (upd H4 tp (.tup (Tube.mk p.s p.t p.lo (p.hi - (p.hi - p.lo) * (1 + d) / 3) p.me).vs)) tp = _ from upd_same)
          have hlp6 : (upd (upd H4 tp (.tup (Tube.mk p.s p.t p.lo (p.hi - (p.hi - p.lo) * (1 + d) / 3) p.me).vs)) lp (.lst [.ref tp])) lp = some (.lst [.ref tp]) := upd_same
          have k6 := ((d4.keepT ms3).trans s5.keepT).trans s6.keepT
          have dr6 := (dr3.trans d4).trans (Dr.same (s5.trans s6))
          have ms6 := (ms4.le (Nat.le_add_right r 0)).same (s5.trans s6)
          have hpart : 0 ≤ (p.hi - p.lo) * (1 + d) / 3 ∧ (p.hi - p.lo) * (1 + d) / 3 ≤ p.hi - p.lo := by
            have := okp.lh
            rcases (show d = 0 ∨ d = 1 ∨ d = 2 by omega) with rfl | rfl | rfl <;> omega
          have oklo := okp.lo
          have okhi := okp.hi
          have okn : TubeOk N.base N.many (Tube.mk p.s p.t p.lo (p.hi - (p.hi - p.lo) * (1 + d) / 3) p.me) := ⟨okp.s, okp.t, okp.st, okp.lo, by show p.lo ≤ p.hi - _; omega, by show p.hi - _ ≤ _; omega, okp.me⟩
          have wdn : (Tube.mk p.s p.t p.lo (p.hi - (p.hi - p.lo) * (1 + d) / 3) p.me).wide = true → p.wide = true ∧ p.s = (Tube.mk p.s p.t p.lo (p.hi - (p.hi - p.lo) * (1 + d) / 3) p.me).s ∧ p.t = (Tube.mk p.s p.t p.lo (p.hi - (p.hi - p.lo) * (1 + d) / 3) p.me).t := fun z => by
            unfold Tube.wide at z ⊢
            rw [Bool.and_eq_true] at z
            have z2 := of_decide_eq_true z.2
            refine ⟨?_, rfl, rfl⟩
            rw [z.1, Bool.true_and]
            exact decide_eq_true (by have z3 : p.lo < p.hi - (p.hi - p.lo) * (1 + d) / 3 := z2; omega)
          generalize upd (upd H4 tp (.tup (Tube.mk p.s p.t p.lo (p.hi - (p.hi - p.lo) * (1 + d) / 3) p.me).vs)) lp (.lst [.ref tp]) = H6 at hlp6 htp6 k6 dr6 ms6
          generalize Tube.mk p.s p.t p.lo (p.hi - (p.hi - p.lo) * (1 + d) / 3) p.me = p' at htp6 okn wdn
          refine ⟨_, rfl, rfl, _, rfl, iteN rfl (iteF ?_)⟩
          walk_at "bent_some"
      · refine ⟨_, rfl, rfl, _, rfl, iteN rfl (iteF ?_)⟩
        refine ⟨_, rfl, rfl, _, rfl, iteN rfl ?_⟩
        refine ⟨_, rfl, rfl, _, rfl, iteN rfl ?_⟩
        refine ⟨_, rfl, rfl, _, rfl, iteB rfl ?_⟩
        cases hm : p.me with
        | none =>
          refine ⟨_, rfl, rfl, _, rfl, iteN rfl ?_⟩
          walk_at "bent_none"
        | some m =>
          refine ⟨_, rfl, rfl, _, rfl, iteB rfl ?_⟩
          refine ⟨_, rfl, _, rfl, _, rfl, _, rfl, _, rfl, (by show 5 ≤ sizeLine; decide), fun tp htp => ⟨(by show 1 ≤ sizeLine; decide), fun lp hlp => ?_⟩⟩
          show (_ : L2.St → Hp → Prop) [some (.ref a), some (.ref na), some (.int N.base), some (.int N.many), some (.ref b), some (.int (k : Int)), some (.int 3), some (.ref lp), some (.int p.s), some (.int p.t), some (.int p.lo), some (.int p.hi), some (.int m)] (upd (upd H3 tp (.tup (Tube.mk p.t p.s p.lo p.hi (some m)).vs)) lp (.lst [.ref tp]))
          have s5 := same_upd (o := .tup (Tube.mk p.t p.s p.lo p.hi (some m)).vs) htp
          have hlp' : (upd H3 tp (.tup (Tube.mk p.t p.s p.lo p.hi (some m)).vs)) lp = none := hlp
          have s6 := same_upd (o := .lst [.ref tp]) hlp'
          have htp6 := s6 _ _ (show (upd H3 tp (.tup (Tube.mk p.t p.s p.lo p.hi (some m)).vs)) tp = _ from upd_same)
          have hlp6 : (upd (upd H3 tp (.tup (Tube.mk p.t p.s p.lo p.hi (some m)).vs)) lp (.lst [.ref tp])) lp = some (.lst [.ref tp]) := upd_same
          have k6 := s5.keepT.trans s6.keepT
          have dr6 := dr3.trans (Dr.same (s5.trans s6))
          have ms6 := (ms3.le (show r ≤ r + 2 by omega)).same (s5.trans s6)
          have okn : TubeOk N.base N.many (Tube.mk p.t p.s p.lo p.hi (some m)) := ⟨okp.t, okp.s, fun z => okp.st z.symm, okp.lo, okp.lh, okp.hi, fun x e => Option.some.inj e ▸ okp.me m hm⟩
          have wdn : (Tube.mk p.t p.s p.lo p.hi (some m)).wide = true → p.wide = true ∧ p.s = (Tube.mk p.t p.s p.lo p.hi (some m)).s ∧ p.t = (Tube.mk p.t p.s p.lo p.hi (some m)).t := fun z => by cases z
          generalize upd (upd H3 tp (.tup (Tube.mk p.t p.s p.lo p.hi (some m)).vs)) lp (.lst [.ref tp]) = H6 at hlp6 htp6 k6 dr6 ms6
          generalize Tube.mk p.t p.s p.lo p.hi (some m) = p' at htp6 okn wdn
          walk_at "bent_some"
end
end Wc

set_option Elab.async false
set_option linter.all false
/-! Plain mathematics: what enters and leaves places, over a network, by its closed pipes; a balanced flow shows nothing wrong. -/
namespace Wc
open PySem L2
/-- a sum over the pipes -/
def over (ts : List Tube) (g : Tube → Int) : Int := (ts.map g).sum
section
variable {ts : List Tube} {g h : Tube → Int} {S : List Nat} {p : Tube} {b : Int}
theorem over_nil (g : Tube → Int) : over [] g = 0 := rfl
theorem over_cons (p : Tube) (ts : List Tube) (g : Tube → Int) : over (p :: ts) g = g p + over ts g := by
  unfold over
  rw [List.map_cons, List.sum_cons]
theorem over_append (ts us : List Tube) (g : Tube → Int) : over (ts ++ us) g = over ts g + over us g := by
  unfold over
  rw [List.map_append, List.sum_append]
theorem over_congr (e : ∀ p ∈ ts, g p = h p) : over ts g = over ts h := by
  unfold over
  rw [List.map_congr_left e]
theorem over_add (ts : List Tube) (g h : Tube → Int) : over ts (fun p => g p + h p) = over ts g + over ts h := by
  induction ts with
  | nil => rfl
  | cons p ts ih =>
    rw [over_cons, over_cons, over_cons, ih]
    omega
theorem over_sub (ts : List Tube) (g h : Tube → Int) : over ts (fun p => g p - h p) = over ts g - over ts h := by
  induction ts with
  | nil => rfl
  | cons p ts ih =>
    rw [over_cons, over_cons, over_cons, ih]
    omega
theorem over_zero (e : ∀ p ∈ ts, g p = 0) : over ts g = 0 := by
  induction ts with
  | nil => rfl
  | cons p ts ih =>
    rw [over_cons, e p List.mem_cons_self, ih fun q hq => e q (List.mem_cons_of_mem _ hq)]
    rfl
/-- pipe by pipe the same modulo b: the sums are -/
theorem over_mod (e : ∀ p ∈ ts, (g p - h p) % b = 0) : (over ts g - over ts h) % b = 0 := by
  induction ts with
  | nil => exact Int.zero_emod b
  | cons p ts ih =>
    have h1 := Int.dvd_of_emod_eq_zero (e p List.mem_cons_self)
    have h2 := Int.dvd_of_emod_eq_zero (ih fun q hq => e q (List.mem_cons_of_mem _ hq))
    rw [over_cons, over_cons]
    refine Int.emod_eq_zero_of_dvd ?_
    have e2 : g p + over ts g - (h p + over ts h) = (g p - h p) + (over ts g - over ts h) := by omega
    rw [e2]
    exact Int.dvd_add h1 h2
end
/-- 1 where it enters, -1 where it leaves -/
def sgS (S : List Nat) (s t : Nat) : Int := (if t ∈ S then 1 else 0) - (if s ∈ S then 1 else 0)
/-- what a pipe shows, if it is closed -/
def Tube.cl (p : Tube) (b : Int) : Int := if p.wide = true then 0 else p.shown b
theorem sum_hits (N : Net) (c : Tube → Bool) : N.sumOf (hits c N.tubes N.tubes.length) = over N.tubes fun p => if c p = true then p.cl N.base else 0 := by
  have key : ∀ n, n ≤ N.tubes.length → N.sumOf (hits c N.tubes n) = over (N.tubes.take n) fun p => if c p = true then p.cl N.base else 0 := by
    intro n
    induction n with
    | zero => exact fun _ => rfl
    | succ n ih =>
      intro hn
      have hp : N.tubes[n]? = some (N.tubes[n]) := List.getElem?_eq_getElem (by omega)
      have hv : N.val n = (N.tubes[n]).cl N.base := by
        unfold Net.val Tube.cl
        rw [hp]
      rw [hits_succ hp, List.take_succ_eq_append_getElem (by omega), over_append, ← ih (by omega)]
      unfold Net.sumOf
      rw [List.map_append, List.sum_append]
      congr 1
      by_cases hc : c (N.tubes[n]) = true
      · rw [if_pos hc]
        simp [over, hc, hv]
      · rw [if_neg hc]
        simp [over, hc]
  rw [key _ (Nat.le_refl _), List.take_length]
theorem total_over (N : Net) (S : List Nat) : N.total S = over N.tubes (fun p => p.cl N.base * sgS S p.s p.t) % N.base := by
  unfold Net.total
  rw [sum_hits, sum_hits, ← over_sub]
  congr 1
  refine over_congr fun p _ => ?_
  unfold ent exi sgS
  by_cases h1 : p.t ∈ S <;> by_cases h2 : p.s ∈ S <;> simp [h1, h2]
/-- legs, in and out of places -/
theorem bal_over (fs : List Leg) (S : List Nat) (hS : S.Nodup) : (fs.map fun f => f.2.2 * sgS S f.1 f.2.1).sum = (S.map fun v => bal fs v).sum := by
  induction S with
  | nil =>
    have : ∀ f : Leg, f.2.2 * sgS [] f.1 f.2.1 = 0 := fun f => by simp [sgS]
    induction fs with
    | nil => rfl
    | cons f fs ih => rw [List.map_cons, List.sum_cons, this, ih]; rfl
  | cons v S ih =>
    have hv := (List.nodup_cons.mp hS).1
    rw [List.map_cons, List.sum_cons, ← ih (List.nodup_cons.mp hS).2]
    unfold bal
    clear ih
    induction fs with
    | nil => rfl
    | cons f fs ih =>
      rw [List.map_cons, List.sum_cons, List.map_cons, List.sum_cons, List.map_cons, List.sum_cons, ih]
      have e : sgS (v :: S) f.1 f.2.1 = sgn v f.1 f.2.1 + sgS S f.1 f.2.1 := by
        unfold sgS sgn
        simp only [List.mem_cons]
        by_cases h1 : f.2.1 = v <;> by_cases h2 : f.1 = v <;> by_cases h3 : f.2.1 ∈ S <;> by_cases h4 : f.1 ∈ S <;> simp_all
      rw [e, Int.mul_add]
      omega
/-- a set of places into and out of which no open pipe leads -/
def Shut (ts : List Tube) (S : List Nat) : Prop := ∀ p ∈ ts, p.wide = true → (p.s ∈ S ↔ p.t ∈ S)
theorem flow_total {N : Net} {fs : List Leg} (hN : ∀ p ∈ N.tubes, p.lo ≤ p.hi) (hf : Paired (Fits N.base) N.tubes fs) (hb : ∀ v, bal fs v = 0) {S : List Nat} (hS : S.Nodup) (hsh : Shut N.tubes S) : N.total S = 0 := by
  rw [total_over]
  have hz : (fs.map fun f => f.2.2 * sgS S f.1 f.2.1).sum = 0 := by
    rw [bal_over fs S hS]
    clear hS hsh
    induction S with
    | nil => rfl
    | cons v S ih => rw [List.map_cons, List.sum_cons, hb v, ih]; rfl
  have key : ∀ {ts : List Tube} {fs : List Leg}, (∀ p ∈ ts, p.lo ≤ p.hi) → Shut ts S → Paired (Fits N.base) ts fs → (over ts (fun p => p.cl N.base * sgS S p.s p.t) - (fs.map fun f => f.2.2 * sgS S f.1 f.2.1).sum) % N.base = 0 := by
    intro ts fs hok hsh h
    induction h with
    | nil => exact Int.zero_emod _
    | @cons p f ts fs r _ ih =>
      have h2 := Int.dvd_of_emod_eq_zero (ih (fun q hq => hok q (List.mem_cons_of_mem _ hq)) fun q hq => hsh q (List.mem_cons_of_mem _ hq))
      rw [over_cons, List.map_cons, List.sum_cons]
      refine Int.emod_eq_zero_of_dvd ?_
      have e2 : p.cl N.base * sgS S p.s p.t + over ts (fun p => p.cl N.base * sgS S p.s p.t) - (f.2.2 * sgS S f.1 f.2.1 + (fs.map fun f => f.2.2 * sgS S f.1 f.2.1).sum) = (p.cl N.base - f.2.2) * sgS S p.s p.t + (over ts (fun p => p.cl N.base * sgS S p.s p.t) - (fs.map fun f => f.2.2 * sgS S f.1 f.2.1).sum) := by
        rw [← r.1, ← r.2.1, Int.sub_mul]
        omega
      rw [e2]
      refine Int.dvd_add ?_ h2
      by_cases hw : p.wide = true
      · have e0 : sgS S p.s p.t = 0 := by
          unfold sgS
          have := hsh p List.mem_cons_self hw
          by_cases h1 : p.s ∈ S
          · rw [if_pos h1, if_pos (this.mp h1)]
            rfl
          · rw [if_neg h1, if_neg (fun z => h1 (this.mpr z))]
            rfl
        rw [e0, Int.mul_zero]
        exact Int.dvd_zero _
      · refine Int.dvd_mul_of_dvd_left ?_
        unfold Tube.cl
        rw [if_neg hw]
        unfold Tube.shown
        obtain ⟨_, _, h3, h4, h5⟩ := r
        cases hm : p.me with
        | some m =>
          have := h5 m hm
          show N.base ∣ m - f.2.2
          rw [← this]
          exact ⟨-(f.2.2 / N.base), by have := Int.emod_add_mul_ediv f.2.2 N.base; rw [Int.mul_neg]; omega⟩
        | none =>
          have hlt : ¬ p.lo < p.hi := fun z => hw (by unfold Tube.wide; rw [hm, decide_eq_true z]; rfl)
          have hle := hok p List.mem_cons_self
          have e : f.2.2 = p.lo := by omega
          show N.base ∣ p.lo % N.base - f.2.2
          rw [e]
          exact ⟨-(p.lo / N.base), by have := Int.emod_add_mul_ediv p.lo N.base; rw [Int.mul_neg]; omega⟩
  have := key hN hsh hf
  rw [hz, Int.sub_zero] at this
  exact this
/-- a group is shut -/
theorem shut_comp {ts : List Tube} {n x : Nat} (hlt : ∀ p ∈ ts, p.s < n ∧ p.t < n) : Shut ts (comp (OEdge ts none) n x) := by
  intro p hp hw
  obtain ⟨k, hk⟩ := List.getElem?_of_mem hp
  rw [mem_comp, mem_comp]
  have e : OEdge ts none p.s p.t := ⟨k, p, hk, hw, by simp, rfl, rfl⟩
  exact ⟨fun h => ⟨(hlt p hp).2, h.2.step (.inl e)⟩, fun h => ⟨(hlt p hp).1, h.2.step (.inr e)⟩⟩
end Wc

set_option Elab.async false
set_option linter.all false
set_option maxRecDepth 100000
namespace Wc
open PySem PySem.Spec PyProof.Rows L2
def natsD (S : List Nat) : PyData := .tuple (S.map fun (x : Nat) => .int (x : Int))
theorem nats_can (S : List Nat) : (natsD S).canLay0 = true ∧ (natsD S).depth ≤ 1 := by
  unfold natsD
  refine ⟨?_, ?_⟩
  · simp only [PyData.canLay0]
    exact canLayAll_of fun d hd => by
      obtain ⟨x, _, rfl⟩ := List.mem_map.mp hd
      simp only [PyData.canLay0]
  · simp only [PyData.depth]
    have := depthAll_le (n := 0) (ds := S.map fun (x : Nat) => PyData.int (x : Int)) fun d hd => by
      obtain ⟨x, _, rfl⟩ := List.mem_map.mp hd
      simp only [PyData.depth]
      exact Nat.zero_le _
    omega
theorem dp_nats {K : PySem.W.Frag} {H : Hp} {a : Addr} {S : List Nat} (h : SqT K H a (S.map natV)) : Dp K H (.ref a) (natsD S) := .tup h (dpAll_map S fun x _ => .int (x : Int))
theorem dp_groups {K : PySem.W.Frag} {H : Hp} : ∀ {ys : List V}, (∀ y ∈ ys, ∃ (g : Addr) (S : List Nat), y = .ref g ∧ H g = some (.tup (S.map natV)) ∧ S.length ≤ 24) →
    ∃ ds, DpAll K H ys ds ∧ (∀ d ∈ ds, d.canLay0 = true ∧ d.depth ≤ 60) ∧ ds.isEmpty = ys.isEmpty
  | [], _ => ⟨[], .nil, fun d hd => absurd hd List.not_mem_nil, rfl⟩
  | y :: ys, h => by
    obtain ⟨ds, h1, h2, _⟩ := dp_groups (K := K) fun z hz => h z (List.mem_cons_of_mem _ hz)
    obtain ⟨g, S, rfl, hg, _⟩ := h y List.mem_cons_self
    refine ⟨natsD S :: ds, .cons (dp_nats (SqT.of hg)) h1, fun d hd => ?_, rfl⟩
    rcases List.mem_cons.mp hd with rfl | z
    · exact ⟨(nats_can S).1, Nat.le_trans (nats_can S).2 (by decide)⟩
    · exact h2 d z
/-- no group shows a sum other than 0 -/
def Calm (N : Net) : Prop := ∀ x ∈ firsts (OEdge N.tubes none) N.many, N.total (comp (OEdge N.tubes none) N.many x) = 0
theorem NetOk.lt {N : Net} (ok : NetOk N) : ∀ p ∈ N.tubes, p.s < N.many ∧ p.t < N.many := fun p hp => ⟨(ok.ok p hp).s, (ok.ok p hp).t⟩
theorem calm_flow {N : Net} (ok : NetOk N) {fs : List Leg} (hf : Paired (Fits N.base) N.tubes fs) (hb : ∀ v, bal fs v = 0) : Calm N :=
  fun x _ => flow_total (fun p hp => (ok.ok p hp).lh) hf hb (comp_nodup _ _ _) (shut_comp ok.lt)
set_option hygiene false
local macro_rules | `(tactic| walk_at "sized_end") => `(tactic| (
  refine ⟨p, _, 0, _, rfl, rfl, SqT.of hp, atI_nat (j := 0) rfl, ?_⟩
  refine ⟨_, rfl, _, rfl, a, c, g, na, _, N, rfl, ms9.le (r' := r + 4) (by omega), hN, ok, fun H5 pa N' d5 ms5 hN' ok' eb em => ?_⟩
  have hN5 := hN.keep (d5.keepT ms9)
  refine ⟨_, rfl, pa, N', rfl, hN', ok'.lt, ok'.m24, ok'.len, by have := ok'.b2; omega, fun H6 l ys s6 hl hys hyl hyt hyn => ⟨Nat.zero_le _, fun e1 he1 => ?_⟩⟩
  have s7 := same_upd (o := .lst []) he1
  obtain ⟨ds, h1, h2, h3⟩ := dp_groups (K := K) (H := upd H6 e1 (.lst [])) (ys := ys) fun y hy => (hyt y hy).imp fun g h => h.imp fun S h => ⟨h.1, s7 _ _ h.2.1, h.2.2⟩
  refine ⟨.list ds, .list [], .lst (SqL.of (s7 _ _ hys)) h1, .lst (SqL.of upd_same) .nil, shaped_listOf h2, shaped_listOf (fun d hd => absurd hd List.not_mem_nil), _, rfl, ?_⟩
  rw [eqv_nil, h3]
  have s67 := s6.trans s7
  cases hys0 : ys with
  | nil =>
    refine iteT ?_
    exact ⟨_, rfl, q _ pa N' (((d0.trans d9).trans d5).trans (Dr.same s67)) (ms5.same s67) (hN'.keep s67.keepT) ok' (hyn.mp hys0)⟩
  | cons y yr =>
    refine iteF ?_
    exact ⟨_, rfl, q _ na N (((d0.trans d9).trans d5).trans (Dr.same s67)) (ms5.same s67) (hN5.keep s67.keepT) ok (calm_flow ok hfit hbal)⟩))
set_option hygiene true
section
variable {P : Program} {w : World} {K : PySem.W.Frag} {mg : Str → Option Value} {base : Heap}
end
end Wc

set_option Elab.async false
set_option linter.all false
set_option maxRecDepth 100000
/-! A def that is only called where no repr is under way. -/
namespace Wc
open PySem PySem.Spec PyProof.Rows L2
/-- as FnOk, but where no repr is under way -/
structure OkG (P : Program) (w : World) (K : PySem.W.Frag) (mg : Str → Option Value) (base : Heap) (k : Nat) (f : Addr) (fd : FuncData) (ps : List Str) (sp : Sp) : Prop where
  len : ∀ (vs : List V) (H : Hp) (Q : VK) (E : XK), sp vs H Q E → vs.length = ps.length
  run : ∀ (A : Around) (outer : List Env) (s : Shared) (H : Hp) (args : Args) (us : List Value) (vs : List V) (Q : VK) (E : XK), Room k A → A.guards = some [] → Env0 P w K mg base A outer s H →
    BindsTo s fd args (ps.zip us) → Vals vs us → sp vs H Q E → codeAny (model P w) A (.call (.ref f) args) (CR CX0 outer P w H s Q E) s
section
variable {P : Program} {w : World} {K : PySem.W.Frag} {mg : Str → Option Value} {base : Heap}
theorem FunG {x qual : Str} {st : Stmt} {f : Addr} {fd : FuncData} {N ps : List Str} {k : Nat} {sp : Sp} (F : Fun K x qual st f fd) (S : FnScope N ps (defScope st)) (len : ∀ vs H Q E, sp vs H Q E → vs.length = ps.length)
    (hbody : ∀ (cdv : Value) (A : Around) (outer : List Env) (s : Shared) (H : Hp) (vs : List V) (Q : VK) (E : XK), Room k (A.deeper (envOfC qual (defScope st) s.heap.objs.size f cdv)) → A.guards = some [] → sp vs H Q E →
      ∃ t, PSs (cxOf CX0 P w K mg base N qual (defScope st) f cdv A outer s H E).nox (defBody st) t ∧ t { nx := fun _ H' => Q .non H', rt := Q } (start N vs) H) : OkG P w K mg base (k + 1) f fd ps sp := by
  obtain ⟨o1, o2, k1, o3, o4, o5, cdv, o6, o7, rfl, lk, hcd⟩ := F.ex
  refine ⟨len, fun A outer s H args us vs Q E hr hG e0 hb r hsp => ?_⟩
  have ln := len vs H Q E hsp
  have there := W.Frag.In.keeps e0.mod.kin fun b o e => (e0.bs b o e).1
  have lim := Heap.NoLimit.keeps e0.mod.nolimit fun b o e => (e0.bs b o e).1
  refine codeAny_call_function hr.depth (there _ _ lk) rfl S.co S.gen rfl (W.codeRec_of there hcd) (hb (model P w) A.in1 _ _ ?_)
  refine wpAny_newFunctionEnv_cells S.kind (fun y hy => ?_) fun env he s1 x => ?_
  · obtain ⟨n, v⟩ := y
    rcases S.par n (List.of_mem_zip hy).1 with here | cell
    · exact .inl here
    · exact .inr ⟨cell, W.cellsFrom_some _ _ [] (.inl cell)⟩
  subst he
  refine ⟨Heap.NoLimit.keeps lim x.toInCall.keep, codeAny_func ?_⟩
  obtain ⟨t, ht, hq⟩ := hbody cdv A outer s H vs Q E (hr.deeper _) hG hsp
  have I := inv_start (CX := CX0) (E := E) S hr.hd e0 ln r x
  refine wpAny_mono ((PSs.nox ht).run [] s1 (start N vs) H { nx := fun _ H' => Q .non H', rt := Q } I hq) (fun fl s' hs => ?_) fun e s' hs => hs
  cases fl with
  | ret u =>
    obtain ⟨v, _, Hz, J, rel, last⟩ := hs
    exact ⟨v, Hz, J.os, J.bare, J.base, J.hok, rel, last⟩
  | next =>
    obtain ⟨σ', H', J, q⟩ := hs
    exact ⟨.non, H', J.os, J.bare, J.base, J.hok, rfl, q⟩
  | _ =>
    obtain ⟨_, _, _, q⟩ := hs
    exact q.elim
/-- a def that is called where no repr is under way, as its callers see it -/
def HasG (P : Program) (w : World) (K : PySem.W.Frag) (mg : Str → Option Value) (base : Heap) (x : Str) (k : Nat) (ps : List Str) (sp : Sp) : Prop :=
  ∃ (f : Addr) (fd : FuncData), mg x = some (.ref f) ∧ PySem.W.keepIn K (.ref f) = true ∧ Binds K fd ps [] ∧ OkG P w K mg base k f fd ps sp
theorem DefAt.okG {x : Str} {st : Stmt} {N ps : List Str} {k : Nat} {sp : Sp} (D : DefAt K mg x st ps) (S : FnScope N ps (defScope st)) (len : ∀ vs H Q E, sp vs H Q E → vs.length = ps.length)
    (hbody : ∀ (f : Addr) (cdv : Value) (A : Around) (outer : List Env) (s : Shared) (H : Hp) (vs : List V) (Q : VK) (E : XK), Room k (A.deeper (envOfC x (defScope st) s.heap.objs.size f cdv)) → A.guards = some [] → sp vs H Q E →
      ∃ t, PSs (cxOf CX0 P w K mg base N x (defScope st) f cdv A outer s H E).nox (defBody st) t ∧ t { nx := fun _ H' => Q .non H', rt := Q } (start N vs) H) : HasG P w K mg base x (k + 1) ps sp := by
  obtain ⟨f, fd, F, hm, hb⟩ := D
  exact ⟨f, fd, hm, F.kp, hb, FunG F S len (hbody f)⟩
end
theorem pe_ownG {X : Cx} {x : Str} {k : Nat} {ps : List Str} {sp : Sp} {p pos : Pos} {e : Expr} {es : List Expr} {t : TA} (hG : X.A.guards = some []) (F : HasG X.prog X.w X.K X.mg X.base x k ps sp) (hr : Room k X.A) (hg : Gl X x) (ha : PA X (e :: es) t)
    (nodebug : (x == ("__debug__" : Str)) = false := by decide)
    (first : starEach (e :: es) X.env = (false, eval e X.env) :: starEach es X.env := by rfl)
    (plain : (backTo pos (starEach es X.env)).any (·.1) = false := by rfl) :
    PE X (.Call (.Name x p) (e :: es) [] pos) (tCall sp [] E0 t) := by
  obtain ⟨f, fd, hm, hk, hb, F⟩ := F
  refine ⟨fun pins s σ H Q I h => ?_⟩
  refine wpAny_Call_Name_kw (ld_glob I hg hm (W.callWith_K I.ok.mod.kin hk ?_ first plain) nodebug)
  refine thn (ha.run pos pins s σ H (fun vs H1 => sp (vs ++ []) H1 Q E0) I h) fun us s1 ⟨vs, H1, I1, r, q⟩ => ⟨I1.kIn, ?_⟩
  have r2 := Vals.append r (show Vals [] [] from .nil)
  refine wpAny_call (codeAny_mono (F.run X.A X.stack s1 H1 { pos := us } (us ++ []) (vs ++ []) Q E0 hr hG I1.env0 (hb s1 us I1.kIn (by rw [← Vals.length r2]; exact F.len _ _ _ _ q)) r2 q) fun r' s' hq => ?_)
  cases r' with
  | error e => exact hq.elim
  | ok fl =>
    cases fl with
    | ret u => exact I1.after hq
    | _ => exact hq.elim
end Wc

set_option Elab.async false
set_option linter.all false
set_option maxRecDepth 100000
/-! repr of data, where no repr is under way. -/
namespace Wc
open PySem PySem.Spec PyProof PyProof.Rows L2
def rRepr (K : PySem.W.Frag) : List V → Hp → VK → Prop := fun xs H Q => ∃ a d, xs = [.ref a] ∧ Dp K H (.ref a) d ∧ d.showable = true ∧ d.canLay0 = true ∧ d.depth ≤ 60 ∧ d.shown.length ≤ sizeLine ∧ Q (.str d.shown) H
theorem call_repr {X : Cx} (hG : X.A.guards = some []) (hu : X.A.units + 64 < cLine) : CallR X (.builtin "repr") (rRepr X.K) := by
  rintro pins s σ H xs us Q I r ⟨a, d, rfl, hd, h1, h2, h3, h4, q⟩
  cases r with
  | cons ra rest =>
    cases rest
    obtain ⟨as, rd⟩ := Dp.reads I d _ _ hd ra
    cases ra
    refine repr_of_reads' rd h1 (fun z => ?_) hG (by omega) (fun b o e => e) (fun h' u tk keep => ?_) h4
    · rw [PyData.hasDict_of_canLay d h2] at z
      cases z
    · exact ⟨.str d.shown, H, I.kept (t' := tk) keep, ⟨_, rfl⟩, q⟩
/-! ### lists and tuples of ints -/
theorem ints_short : ∀ {l : List Int}, (∀ i ∈ l, i.natAbs < 10 ^ 12) → PyData.leavesShortAll 13 (l.map .int) = true
  | [], _ => by simp only [List.map_nil, PyData.leavesShortAll]
  | i :: l, h => by
    simp only [List.map_cons, PyData.leavesShortAll, PyData.leavesShort, Bool.and_eq_true]
    exact ⟨decide_eq_true (PyData.shown_int_le (h i List.mem_cons_self)), ints_short fun j hj => h j (List.mem_cons_of_mem _ hj)⟩
theorem ints_bulk : ∀ (l : List Int), PyData.bulkAll (l.map .int) = l.length
  | [] => by simp only [List.map_nil, PyData.bulkAll, List.length_nil]
  | i :: l => by
    simp only [List.map_cons, PyData.bulkAll, PyData.bulk, ints_bulk l, List.length_cons]
    omega
theorem ints_plain {l : List Int} (h : ∀ i ∈ l, i.natAbs < 10 ^ 12) : ∀ d ∈ l.map PyData.int, Plain 0 d := fun d hd => by
  obtain ⟨i, hi, rfl⟩ := List.mem_map.mp hd
  exact plain_int 0 (natAbs_small (Nat.lt_of_lt_of_le (h i hi) (by decide)))
/-- what repr wants of a tuple of ints, and of a list of them -/
theorem ints_tuple {l : List Int} (h : ∀ i ∈ l, i.natAbs < 10 ^ 12) (hl : l.length ≤ 60) : (PyData.tuple (l.map .int)).showable = true ∧ (PyData.tuple (l.map .int)).canLay0 = true ∧ (PyData.tuple (l.map .int)).depth ≤ 60 ∧ (PyData.tuple (l.map .int)).shown.length ≤ sizeLine := by
  have p := plain_tuple (ints_plain h)
  refine ⟨p.2.2, p.1, Nat.le_trans p.2.1 (by decide), ?_⟩
  have := PyData.shown_le_bulk 13 (by decide) (.tuple (l.map .int)) (by simp only [PyData.leavesShort]; exact ints_short h)
  simp only [PyData.bulk, ints_bulk] at this
  exact Nat.le_trans (show _ ≤ 1000 by omega) (by decide)
theorem ints_list {l : List Int} (h : ∀ i ∈ l, i.natAbs < 10 ^ 12) (hl : l.length ≤ 60) : (PyData.list (l.map .int)).showable = true ∧ (PyData.list (l.map .int)).canLay0 = true ∧ (PyData.list (l.map .int)).depth ≤ 60 ∧ (PyData.list (l.map .int)).shown.length ≤ sizeLine := by
  have p := plain_list (ints_plain h)
  refine ⟨p.2.2, p.1, Nat.le_trans p.2.1 (by decide), ?_⟩
  have := PyData.shown_le_bulk 13 (by decide) (.list (l.map .int)) (by simp only [PyData.leavesShort]; exact ints_short h)
  simp only [PyData.bulk, ints_bulk] at this
  exact Nat.le_trans (show _ ≤ 1000 by omega) (by decide)
theorem dp_intsT {K : PySem.W.Frag} {H : Hp} {a : Addr} {l : List Int} (h : SqT K H a (l.map V.int)) : Dp K H (.ref a) (.tuple (l.map .int)) := .tup h (dpAll_map l fun i _ => .int i)
theorem dp_intsL {K : PySem.W.Frag} {H : Hp} {a : Addr} {l : List Int} (h : SqL K H a (l.map V.int)) : Dp K H (.ref a) (.list (l.map .int)) := .lst h (dpAll_map l fun i _ => .int i)
end Wc

set_option Elab.async false
set_option linter.all false
set_option maxRecDepth 100000
/-! Data that repr shows: networks, groups with sums. -/
namespace Wc
open PySem PySem.Spec PyProof PyProof.Rows L2
structure Shw (n B : Nat) (d : PyData) : Prop where
  p : Plain n d
  s : d.leavesShort 20 = true
  b : d.bulk ≤ B
theorem Shw.repr {n B : Nat} {d : PyData} (h : Shw n B d) (hn : n ≤ 60) (hB : B ≤ 100000) : d.showable = true ∧ d.canLay0 = true ∧ d.depth ≤ 60 ∧ d.shown.length ≤ sizeLine := by
  refine ⟨h.p.2.2, h.p.1, Nat.le_trans h.p.2.1 hn, ?_⟩
  have z := PyData.shown_le_bulk 20 (by decide) d h.s
  have b := h.b
  rw [sizeLine_eq]
  omega
theorem Shw.mono {n B n' B' : Nat} {d : PyData} (h : Shw n B d) (hn : n ≤ n') (hB : B ≤ B') : Shw n' B' d := ⟨⟨h.p.1, Nat.le_trans h.p.2.1 hn, h.p.2.2⟩, h.s, Nat.le_trans h.b hB⟩
theorem shw_int {i : Int} (h : i.natAbs < 10 ^ 18) : Shw 0 0 (.int i) := by
  refine ⟨plain_int 0 (natAbs_small (Nat.lt_of_lt_of_le h (by decide))), ?_, by simp only [PyData.bulk]; exact Nat.le_refl _⟩
  simp only [PyData.leavesShort]
  refine decide_eq_true ?_
  have e := PySem.int_text_length_le10 (k := 18) (by decide) h
  show (Str.ofString (toString i)).length ≤ 20
  rw [PySem.ofString_length]
  omega
theorem shw_none : Shw 0 0 .none := ⟨plain_none 0, by simp only [PyData.leavesShort], by simp only [PyData.bulk]; exact Nat.le_refl _⟩
theorem short_all : ∀ {ds : List PyData}, (∀ d ∈ ds, d.leavesShort 20 = true) → PyData.leavesShortAll 20 ds = true
  | [], _ => by simp only [PyData.leavesShortAll]
  | d :: ds, h => by
    simp only [PyData.leavesShortAll, Bool.and_eq_true]
    exact ⟨h d List.mem_cons_self, short_all fun e he => h e (List.mem_cons_of_mem _ he)⟩
theorem bulk_all {B : Nat} : ∀ {ds : List PyData}, (∀ d ∈ ds, d.bulk ≤ B) → PyData.bulkAll ds ≤ ds.length * (B + 1)
  | [], _ => by simp only [PyData.bulkAll]; exact Nat.zero_le _
  | d :: ds, h => by
    simp only [PyData.bulkAll, List.length_cons, Nat.add_mul]
    have h1 := h d List.mem_cons_self
    have h2 := bulk_all fun e he => h e (List.mem_cons_of_mem _ he)
    omega
theorem shw_tuple {n B : Nat} {ds : List PyData} (h : ∀ d ∈ ds, Shw n B d) : Shw (n + 1) (ds.length * (B + 1)) (.tuple ds) :=
  ⟨plain_tuple fun d hd => (h d hd).p, by simp only [PyData.leavesShort]; exact short_all fun d hd => (h d hd).s, by simp only [PyData.bulk]; exact bulk_all fun d hd => (h d hd).b⟩
theorem shw_list {n B : Nat} {ds : List PyData} (h : ∀ d ∈ ds, Shw n B d) : Shw (n + 1) (ds.length * (B + 1)) (.list ds) :=
  ⟨plain_list fun d hd => (h d hd).p, by simp only [PyData.leavesShort]; exact short_all fun d hd => (h d hd).s, by simp only [PyData.bulk]; exact bulk_all fun d hd => (h d hd).b⟩
/-! ### networks -/
def netD (N : Net) : PyData := .tuple [.int N.base, .int N.many, .tuple (N.tubes.map tubeD)]
theorem dp_net {K : PySem.W.Frag} {H : Hp} {a : Addr} {N : Net} (h : NetAt K H a N) : Dp K H (.ref a) (netD N) := by
  obtain ⟨b, xs, ha, hb, hts⟩ := h
  exact .tup ha (.cons (.int _) (.cons (.int _) (.cons (.tup hb (dp_tubes hts)) .nil)))
theorem shw_tube {base : Int} {many : Nat} {p : Tube} (ok : TubeOk base many p) (hb : base ≤ 1000000) (hm : many ≤ 24) : Shw 1 5 (tubeD p) := by
  have o1 := ok.s
  have o2 := ok.t
  have o3 := ok.lo
  have o4 := ok.lh
  have o5 := ok.hi
  unfold tubeD
  refine (shw_tuple (n := 0) (B := 0) (ds := [.int p.s, .int p.t, .int p.lo, .int p.hi, optD p.me]) fun d hd => ?_).mono (Nat.le_refl _) (by show 5 * 1 ≤ 5; decide)
  simp only [List.mem_cons, List.not_mem_nil, or_false] at hd
  have big : (1000000000000 : Nat) < 10 ^ 18 := by decide
  rcases hd with rfl | rfl | rfl | rfl | rfl
  · exact shw_int (by omega)
  · exact shw_int (by omega)
  · exact shw_int (by omega)
  · exact shw_int (by omega)
  · cases hme : p.me with
    | none => exact shw_none
    | some i =>
      have z := ok.me i hme
      exact shw_int (by omega)
theorem shw_net {N : Net} (ok : NetOk N) : Shw 3 2000 (netD N) := by
  have hl := ok.len
  have b2 := ok.b2
  have b6 := ok.b6
  have m := ok.m24
  have big : (1000000000000 : Nat) < 10 ^ 18 := by decide
  have t : Shw 2 360 (.tuple (N.tubes.map tubeD)) := (shw_tuple (n := 1) (B := 5) fun d hd => by
    obtain ⟨p, hp, rfl⟩ := List.mem_map.mp hd
    exact shw_tube (ok.ok p hp) b6 m).mono (Nat.le_refl _) (by rw [List.length_map]; omega)
  refine (shw_tuple (n := 2) (B := 360) (ds := [.int N.base, .int N.many, .tuple (N.tubes.map tubeD)]) fun d hd => ?_).mono (Nat.le_refl _) (by show 3 * 361 ≤ 2000; decide)
  simp only [List.mem_cons, List.not_mem_nil, or_false] at hd
  rcases hd with rfl | rfl | rfl
  · exact (shw_int (by omega)).mono (by decide) (by decide)
  · exact (shw_int (by omega)).mono (by decide) (by decide)
  · exact t
/-! ### groups with sums -/
noncomputable def pairD (N : Net) (x : Nat) : PyData := .tuple [natsD (comp (OEdge N.tubes none) N.many x), .int (N.total (comp (OEdge N.tubes none) N.many x))]
theorem shw_nats {S : List Nat} (h : ∀ x ∈ S, x < 24) (hl : S.length ≤ 24) : Shw 1 24 (natsD S) :=
  (shw_tuple (n := 0) (B := 0) fun d hd => by
    obtain ⟨x, hx, rfl⟩ := List.mem_map.mp hd
    have := h x hx
    have big : (24 : Nat) < 10 ^ 18 := by decide
    exact shw_int (by omega)).mono (Nat.le_refl _) (by rw [List.length_map]; omega)
end Wc

set_option Elab.async false
set_option linter.all false
set_option maxRecDepth 100000
namespace Wc
open PySem PySem.Spec PyProof.Rows L2
def Tube.turned (p : Tube) : Tube := ⟨p.t, p.s, p.lo, p.hi, p.me⟩
def Net.turned (N : Net) (k : Nat) (p : Tube) : Net := ⟨N.base, N.many, N.tubes.take k ++ [p.turned] ++ N.tubes.drop (k + 1)⟩
def sumR (rs : List Int) (L : List Nat) : Int := (L.map fun k => rs.getD k 0).sum
section
variable {P : Program} {w : World} {K : PySem.W.Frag} {mg : Str → Option Value} {base : Heap}
end
end Wc

set_option Elab.async false
set_option linter.all false
/-! The residues, as the document tells them. -/
namespace Wc
open PySem L2
/-- the residue of the pipe at k -/
noncomputable def Net.resAt (N : Net) (k : Nat) : Int := match N.tubes[k]? with
  | some p => if p.wide = true then N.total (comp (OEdge N.tubes (some k)) N.many p.s) else p.shown N.base
  | none => 0
noncomputable def Net.resL (N : Net) (i : Nat) : List Int := (List.range i).map N.resAt
theorem resL_succ (N : Net) (i : Nat) : N.resL (i + 1) = N.resL i ++ [N.resAt i] := by
  unfold Net.resL
  rw [List.range_succ, List.map_append]
  rfl
theorem comp_lt {E : Nat → Nat → Prop} {n x : Nat} : ∀ y ∈ comp E n x, y < n := fun y hy => (mem_comp.mp hy).1
end Wc

set_option Elab.async false
set_option linter.all false
/-! The bounds of a pipe with a residue. -/
namespace Wc
open PySem L2
def bdp (b : Int) (p : Tube) (r : Int) : Int × Int := (p.lo + (r - p.lo) % b, p.hi - (p.hi - r) % b)
def bdo (b : Int) (p : Tube) (r : Int) : Option (Int × Int) := if (bdp b p r).1 ≤ (bdp b p r).2 then some (bdp b p r) else none
/-- the bounds of the pipe at k when the residues are r -/
def bndAt (N : Net) (r : Nat → Int) (k : Nat) : Option (Int × Int) := match N.tubes[k]? with
  | some p => bdo N.base p (r k)
  | none => none
def bndL (N : Net) (r : Nat → Int) (i : Nat) : List (Option (Int × Int)) := (List.range i).map (bndAt N r)
def bdpAt (N : Net) (r : Nat → Int) (k : Nat) : Int × Int := match N.tubes[k]? with
  | some p => bdp N.base p (r k)
  | none => (0, 0)
def bdpL (N : Net) (r : Nat → Int) (i : Nat) : List (Int × Int) := (List.range i).map (bdpAt N r)
theorem bndL_succ (N : Net) (r : Nat → Int) (i : Nat) : bndL N r (i + 1) = bndL N r i ++ [bndAt N r i] := by
  unfold bndL
  rw [List.range_succ, List.map_append]
  rfl
theorem bdpL_succ (N : Net) (r : Nat → Int) (i : Nat) : bdpL N r (i + 1) = bdpL N r i ++ [bdpAt N r i] := by
  unfold bdpL
  rw [List.range_succ, List.map_append]
  rfl
theorem bndL_len (N : Net) (r : Nat → Int) (i : Nat) : (bndL N r i).length = i := by
  unfold bndL
  rw [List.length_map, List.length_range]
theorem bdpL_len (N : Net) (r : Nat → Int) (i : Nat) : (bdpL N r i).length = i := by
  unfold bdpL
  rw [List.length_map, List.length_range]
theorem bndL_get {N : Net} {r : Nat → Int} {i k : Nat} (h : k < i) : (bndL N r i)[k]? = some (bndAt N r k) := by
  unfold bndL
  rw [List.getElem?_map, List.getElem?_range h]
  rfl
theorem bdpL_get {N : Net} {r : Nat → Int} {i k : Nat} (h : k < i) : (bdpL N r i)[k]? = some (bdpAt N r k) := by
  unfold bdpL
  rw [List.getElem?_map, List.getElem?_range h]
  rfl
theorem bndL_congr {N : Net} {r r' : Nat → Int} {i : Nat} (h : ∀ k, k < i → r k = r' k) : bndL N r i = bndL N r' i := by
  unfold bndL
  refine List.map_congr_left fun k hk => ?_
  unfold bndAt
  rw [h k (List.mem_range.mp hk)]
theorem bndAt_eq {N : Net} {r : Nat → Int} {k : Nat} (h : k < N.tubes.length) : bndAt N r k = if (bdpAt N r k).1 ≤ (bdpAt N r k).2 then some (bdpAt N r k) else none := by
  unfold bndAt bdpAt bdo
  rw [List.getElem?_eq_getElem h]
/-- a pair as a value -/
def BndV (K : PySem.W.Frag) (H : Hp) (v : V) : Option (Int × Int) → Prop
  | none => v = .non
  | some q => ∃ t, v = .ref t ∧ SqT K H t [.int q.1, .int q.2]
theorem BndV.keep {K : PySem.W.Frag} {H H' : Hp} (s : KeepT H H') {v : V} {o : Option (Int × Int)} (h : BndV K H v o) : BndV K H' v o := by
  cases o with
  | none => exact h
  | some q =>
    obtain ⟨t, h1, h2⟩ := h
    exact ⟨t, h1, s.seq h2⟩
/-- the bounds of all pipes, as values -/
def BndsV (K : PySem.W.Frag) (H : Hp) (vs : List V) (os : List (Option (Int × Int))) : Prop := Paired (fun v o => BndV K H v o) vs os
theorem BndsV.keep {K : PySem.W.Frag} {H H' : Hp} (s : KeepT H H') {vs : List V} {os : List (Option (Int × Int))} (h : BndsV K H vs os) : BndsV K H' vs os := Paired.mapP h fun _ _ h => h.keep s
end Wc
namespace Wc
open PySem L2
/-- the bounds of all pipes -/
noncomputable def Net.bL (N : Net) : List (Option (Int × Int)) := bndL N (fun k => (N.resL N.tubes.length).getD k 0) N.tubes.length
noncomputable def Net.pL (N : Net) : List (Int × Int) := bdpL N (fun k => (N.resL N.tubes.length).getD k 0) N.tubes.length
/-- the first pipe without bounds -/
noncomputable def Net.noB (N : Net) : Option Nat := N.bL.findIdx? Option.isNone
theorem bL_len' (N : Net) : N.bL.length = N.tubes.length := bndL_len _ _ _
theorem pL_len (N : Net) : N.pL.length = N.tubes.length := bdpL_len _ _ _
theorem bL_of_pL {N : Net} (h : N.noB = none) : N.bL = N.pL.map some := by
  unfold Net.noB at h
  rw [List.findIdx?_eq_none_iff] at h
  refine List.ext_getElem? fun k => ?_
  by_cases hk : k < N.tubes.length
  · unfold Net.bL Net.pL
    rw [bndL_get hk, List.getElem?_map, bdpL_get hk, bndAt_eq hk]
    have hm : bndAt N (fun k => (N.resL N.tubes.length).getD k 0) k ∈ N.bL := List.mem_of_getElem? (bndL_get hk)
    have := h _ hm
    rw [bndAt_eq hk] at this
    by_cases c : (bdpAt N (fun k => (N.resL N.tubes.length).getD k 0) k).1 ≤ (bdpAt N (fun k => (N.resL N.tubes.length).getD k 0) k).2
    · rw [if_pos c]
      rfl
    · rw [if_neg c] at this
      exact absurd this (by decide)
  · rw [List.getElem?_eq_none (by rw [bL_len']; omega), List.getElem?_eq_none (by rw [List.length_map, pL_len]; omega)]
/-- all pairs, as values -/
def PairsV (K : PySem.W.Frag) (H : Hp) (vs : List V) (qs : List (Int × Int)) : Prop := Paired (fun v q => ∃ t, v = .ref t ∧ SqT K H t [.int (Prod.fst q), .int (Prod.snd q)]) vs qs
theorem PairsV.keep {K : PySem.W.Frag} {H H' : Hp} (s : KeepT H H') {vs : List V} {qs : List (Int × Int)} (h : PairsV K H vs qs) : PairsV K H' vs qs := Paired.mapP h fun _ _ ⟨t, h1, h2⟩ => ⟨t, h1, s.seq h2⟩
theorem BndsV.pairs {K : PySem.W.Frag} {H : Hp} : ∀ {vs : List V} {qs : List (Int × Int)}, BndsV K H vs (qs.map some) → PairsV K H vs qs
  | [], [], _ => .nil
  | _ :: _, [], h => by cases h
  | [], _ :: _, h => by cases h
  | _ :: _, _ :: _, h => by
    cases h with
    | cons r h => exact .cons r (BndsV.pairs h)
theorem PairsV.bnds {K : PySem.W.Frag} {H : Hp} : ∀ {vs : List V} {qs : List (Int × Int)}, PairsV K H vs qs → BndsV K H vs (qs.map some)
  | [], [], _ => .nil
  | _ :: _, [], h => by cases h
  | [], _ :: _, h => by cases h
  | _ :: _, _ :: _, h => by
    cases h with
    | cons r h => exact .cons r (PairsV.bnds h)
/-- the excess of a set of places when the bounds are L -/
def exS (N : Net) (L : List (Int × Int)) (S : List Nat) (i : Nat) : Int := ((hits (ent S) N.tubes i).map fun k => (L.getD k (0, 0)).1).sum - ((hits (exi S) N.tubes i).map fun k => (L.getD k (0, 0)).2).sum
theorem exS_succ {N : Net} {L : List (Int × Int)} {S : List Nat} {i : Nat} {p : Tube} (h : N.tubes[i]? = some p) : exS N L S (i + 1) = exS N L S i + (if ent S p = true then (L.getD i (0, 0)).1 else 0) - (if exi S p = true then (L.getD i (0, 0)).2 else 0) := by
  unfold exS
  rw [hits_succ h, hits_succ h, List.map_append, List.map_append, List.sum_append, List.sum_append]
  by_cases h1 : ent S p = true <;> by_cases h2 : exi S p = true
  · rw [if_pos h1, if_pos h2, if_pos h1, if_pos h2]
    simp only [List.map_cons, List.map_nil, List.sum_cons, List.sum_nil]
    omega
  · rw [if_pos h1, if_neg h2, if_pos h1, if_neg h2]
    simp only [List.map_cons, List.map_nil, List.sum_cons, List.sum_nil]
    omega
  · rw [if_neg h1, if_pos h2, if_neg h1, if_pos h2]
    simp only [List.map_cons, List.map_nil, List.sum_cons, List.sum_nil]
    omega
  · rw [if_neg h1, if_neg h2, if_neg h1, if_neg h2]
    simp only [List.map_nil, List.sum_nil]
    omega
end Wc

set_option Elab.async false
set_option linter.all false
/-! The least and the greatest number with a residue between limits. -/
namespace Wc
open PySem L2
theorem lo_form (b r lo : Int) : lo + (r - lo) % b = r + b * (-((r - lo) / b)) := by
  have := Int.emod_add_mul_ediv (r - lo) b
  rw [Int.mul_neg]
  omega
theorem hi_form (b r hi : Int) : hi - (hi - r) % b = r + b * ((hi - r) / b) := by
  have := Int.emod_add_mul_ediv (hi - r) b
  omega
theorem lo_mod {b r lo : Int} (hr0 : 0 ≤ r) (hr1 : r < b) : (lo + (r - lo) % b) % b = r := by
  rw [lo_form, Int.add_mul_emod_self_left]
  exact Int.emod_eq_of_lt hr0 hr1
theorem hi_mod {b r hi : Int} (hr0 : 0 ≤ r) (hr1 : r < b) : (hi - (hi - r) % b) % b = r := by
  rw [hi_form, Int.add_mul_emod_self_left]
  exact Int.emod_eq_of_lt hr0 hr1
theorem mod_gap {b r x y : Int} (hb : 0 < b) (hx : x % b = r) (hy : y % b = r) (h : x - b < y) : x ≤ y := by
  have ex := Int.emod_add_mul_ediv x b
  have ey := Int.emod_add_mul_ediv y b
  have k : x / b - 1 < y / b := by
    refine Int.lt_of_mul_lt_mul_left (a := b) ?_ (by omega)
    rw [Int.mul_sub, Int.mul_one]
    omega
  have k2 : x / b ≤ y / b := by omega
  have := Int.mul_le_mul_of_nonneg_left k2 (show 0 ≤ b by omega)
  omega
theorem lo_range {b r lo : Int} (hb : 0 < b) : lo ≤ lo + (r - lo) % b ∧ lo + (r - lo) % b < lo + b := by
  have h1 := Int.emod_nonneg (r - lo) (show b ≠ 0 by omega)
  have h2 := Int.emod_lt_of_pos (r - lo) hb
  omega
theorem hi_range {b r hi : Int} (hb : 0 < b) : hi - (hi - r) % b ≤ hi ∧ hi - b < hi - (hi - r) % b := by
  have h1 := Int.emod_nonneg (hi - r) (show b ≠ 0 by omega)
  have h2 := Int.emod_lt_of_pos (hi - r) hb
  omega
theorem lo_le {b r lo x : Int} (hb : 0 < b) (hr0 : 0 ≤ r) (hr1 : r < b) (hx : x % b = r) (h : lo ≤ x) : lo + (r - lo) % b ≤ x :=
  mod_gap hb (lo_mod hr0 hr1) hx (by have := (lo_range (r := r) (lo := lo) hb).2; omega)
theorem hi_ge {b r hi x : Int} (hb : 0 < b) (hr0 : 0 ≤ r) (hr1 : r < b) (hx : x % b = r) (h : x ≤ hi) : x ≤ hi - (hi - r) % b :=
  mod_gap hb hx (hi_mod hr0 hr1) (by have := (hi_range (r := r) (hi := hi) hb).2; omega)
theorem lo_uniq {b r lo x : Int} (hb : 0 < b) (hr0 : 0 ≤ r) (hr1 : r < b) (hx : x % b = r) (h : lo ≤ x) (h2 : x < lo + b) : x = lo + (r - lo) % b := by
  have h3 := lo_le hb hr0 hr1 hx h
  have h4 := mod_gap hb hx (lo_mod (lo := lo) hr0 hr1) (by have := (lo_range (r := r) (lo := lo) hb).1; omega)
  omega
theorem hi_uniq {b r hi x : Int} (hb : 0 < b) (hr0 : 0 ≤ r) (hr1 : r < b) (hx : x % b = r) (h : x ≤ hi) (h2 : hi - b < x) : x = hi - (hi - r) % b := by
  have h3 := hi_ge hb hr0 hr1 hx h
  have h4 := mod_gap hb (hi_mod (hi := hi) hr0 hr1) hx (by have := (hi_range (r := r) (hi := hi) hb).1; omega)
  omega
theorem bd_ok {b r : Int} {p : Tube} (hb : 0 < b) (hr0 : 0 ≤ r) (hr1 : r < b) : (bdp b p r).1 ≤ (bdp b p r).2 ↔ p.lo + (r - p.lo) % b ≤ p.hi := by
  unfold bdp
  constructor
  · intro h
    have := (hi_range (r := r) (hi := p.hi) hb).1
    have h : p.lo + (r - p.lo) % b ≤ p.hi - (p.hi - r) % b := h
    omega
  · intro h
    exact hi_ge hb hr0 hr1 (lo_mod hr0 hr1) h
/-- as the law finds the least -/
theorem law_lo {b r lo : Int} (hb : 0 < b) (hr0 : 0 ≤ r) (hr1 : r < b) : (if lo ≤ lo / b * b + r then lo / b * b + r else lo / b * b + r + b) = lo + (r - lo) % b := by
  have h1 := Int.emod_add_mul_ediv lo b
  have h2 := Int.emod_nonneg lo (show b ≠ 0 by omega)
  have h3 := Int.emod_lt_of_pos lo hb
  have em : lo / b * b = b * (lo / b) := Int.mul_comm _ _
  by_cases c : lo ≤ lo / b * b + r
  · rw [if_pos c]
    refine lo_uniq hb hr0 hr1 ?_ c (by omega)
    rw [Int.add_comm, Int.add_mul_emod_self_right]
    exact Int.emod_eq_of_lt hr0 hr1
  · rw [if_neg c]
    refine lo_uniq hb hr0 hr1 ?_ (by omega) (by omega)
    rw [Int.add_emod_right, Int.add_comm, Int.add_mul_emod_self_right]
    exact Int.emod_eq_of_lt hr0 hr1
theorem law_hi {b r hi : Int} (hb : 0 < b) (hr0 : 0 ≤ r) (hr1 : r < b) : (if hi / b * b + r ≤ hi then hi / b * b + r else hi / b * b + r - b) = hi - (hi - r) % b := by
  have h1 := Int.emod_add_mul_ediv hi b
  have h2 := Int.emod_nonneg hi (show b ≠ 0 by omega)
  have h3 := Int.emod_lt_of_pos hi hb
  have em : hi / b * b = b * (hi / b) := Int.mul_comm _ _
  by_cases c : hi / b * b + r ≤ hi
  · rw [if_pos c]
    refine hi_uniq hb hr0 hr1 ?_ c (by omega)
    rw [Int.add_comm, Int.add_mul_emod_self_right]
    exact Int.emod_eq_of_lt hr0 hr1
  · rw [if_neg c]
    refine hi_uniq hb hr0 hr1 ?_ (by omega) (by omega)
    have e : hi / b * b + r - b = r + (hi / b - 1) * b := by rw [Int.sub_mul]; omega
    rw [e, Int.add_mul_emod_self_right]
    exact Int.emod_eq_of_lt hr0 hr1
/-- the numbers from lo on, n of them, that have the residue r -/
def resd (b r lo : Int) (n : Nat) : List Int := ((List.range n).map fun i : Nat => lo + (i : Int)).filter fun x => decide (x % b = r)
theorem resd_succ (b r lo : Int) (n : Nat) : resd b r lo (n + 1) = resd b r lo n ++ if (lo + (n : Int)) % b = r then [lo + (n : Int)] else [] := by
  unfold resd
  rw [List.range_succ, List.map_append, List.filter_append]
  congr 1
  by_cases c : (lo + (n : Int)) % b = r
  · rw [if_pos c]
    simp [c]
  · rw [if_neg c]
    simp [c]
theorem mem_resd {b r lo x : Int} {n : Nat} : x ∈ resd b r lo n ↔ lo ≤ x ∧ x < lo + n ∧ x % b = r := by
  unfold resd
  rw [List.mem_filter, List.mem_map]
  constructor
  · rintro ⟨⟨i, hi, rfl⟩, h⟩
    have := List.mem_range.mp hi
    exact ⟨by omega, by omega, of_decide_eq_true h⟩
  · rintro ⟨h1, h2, h3⟩
    exact ⟨⟨(x - lo).toNat, List.mem_range.mpr (by omega), by omega⟩, decide_eq_true h3⟩
theorem resd_sorted (b r lo : Int) (n : Nat) : (resd b r lo n).Pairwise (· < ·) := by
  unfold resd
  refine List.Pairwise.filter _ (List.pairwise_map.mpr ?_)
  exact List.pairwise_lt_range.imp fun h => by omega
theorem resd_len (b r lo : Int) (n : Nat) : (resd b r lo n).length ≤ n := by
  have h := List.length_filter_le (fun x => decide (x % b = r)) ((List.range n).map fun i : Nat => lo + (i : Int))
  rw [List.length_map, List.length_range] at h
  exact h
theorem sorted_first {l : List Int} {m : Int} (hs : l.Pairwise (· < ·)) (hm : m ∈ l) (h : ∀ x ∈ l, m ≤ x) : l[0]? = some m := by
  cases l with
  | nil => exact absurd hm List.not_mem_nil
  | cons x l =>
    have h1 := h x List.mem_cons_self
    rcases List.mem_cons.mp hm with e | e
    · rw [e]; rfl
    · have := (List.pairwise_cons.mp hs).1 m e
      omega
theorem sorted_last {l : List Int} {m : Int} (hs : l.Pairwise (· < ·)) (hm : m ∈ l) (h : ∀ x ∈ l, x ≤ m) : l[l.length - 1]? = some m := by
  obtain ⟨k, hk, e⟩ := List.getElem_of_mem hm
  by_cases hl : k = l.length - 1
  · rw [← hl, List.getElem?_eq_getElem hk, e]
  · have h1 := List.pairwise_iff_getElem.mp hs k (l.length - 1) hk (by omega) (by omega)
    have h2 := h _ (List.getElem_mem (show l.length - 1 < l.length by omega))
    omega
theorem resd_bounds {b r : Int} {p : Tube} (hb : 0 < b) (hr0 : 0 ≤ r) (hr1 : r < b) (hlh : p.lo ≤ p.hi) (l : List Int) (hl : l = resd b r p.lo (p.hi + 1 - p.lo).toNat) :
    (l = [] ∧ bdo b p r = none) ∨ (l ≠ [] ∧ bdo b p r = some (bdp b p r) ∧ l[0]? = some (bdp b p r).1 ∧ l[l.length - 1]? = some (bdp b p r).2) := by
  have hm : ∀ x, x ∈ l ↔ p.lo ≤ x ∧ x ≤ p.hi ∧ x % b = r := fun x => by
    rw [hl, mem_resd]
    constructor
    · rintro ⟨h1, h2, h3⟩
      exact ⟨h1, by omega, h3⟩
    · rintro ⟨h1, h2, h3⟩
      exact ⟨h1, by omega, h3⟩
  have hs : l.Pairwise (· < ·) := by rw [hl]; exact resd_sorted _ _ _ _
  unfold bdo
  by_cases c : (bdp b p r).1 ≤ (bdp b p r).2
  · rw [if_pos c]
    have c2 := (bd_ok hb hr0 hr1).mp c
    have r1 := lo_range (r := r) (lo := p.lo) hb
    have r2 := hi_range (r := r) (hi := p.hi) hb
    have m1 : (bdp b p r).1 ∈ l := (hm _).mpr ⟨r1.1, c2, lo_mod hr0 hr1⟩
    have m2 : (bdp b p r).2 ∈ l := (hm _).mpr ⟨by have : p.lo + (r - p.lo) % b ≤ p.hi - (p.hi - r) % b := c; show p.lo ≤ p.hi - (p.hi - r) % b; omega, r2.1, hi_mod hr0 hr1⟩
    refine .inr ⟨fun z => by rw [z] at m1; exact absurd m1 List.not_mem_nil, rfl, sorted_first hs m1 fun x hx => ?_, sorted_last hs m2 fun x hx => ?_⟩
    · obtain ⟨h1, h2, h3⟩ := (hm x).mp hx
      exact lo_le hb hr0 hr1 h3 h1
    · obtain ⟨h1, h2, h3⟩ := (hm x).mp hx
      exact hi_ge hb hr0 hr1 h3 h2
  · rw [if_neg c]
    refine .inl ⟨List.eq_nil_iff_forall_not_mem.mpr fun x hx => ?_, rfl⟩
    obtain ⟨h1, h2, h3⟩ := (hm x).mp hx
    exact c ((bd_ok hb hr0 hr1).mpr (by have := lo_le hb hr0 hr1 h3 h1; omega))
end Wc

set_option Elab.async false
set_option linter.all false
set_option maxRecDepth 100000
/-! What repr wants of what the law is told of bounds and excess. -/
namespace Wc
open PySem PySem.Spec PyProof PyProof.Rows L2
theorem rep_two5 {n B : Nat} {d : PyData} (h : Shw n B d) (hn : n ≤ 50) (hB : B ≤ 20000) : (PyData.list [d, d]).showable = true ∧ (PyData.list [d, d]).canLay0 = true ∧ (PyData.list [d, d]).depth ≤ 60 ∧ (PyData.list [d, d]).shown.length ≤ sizeLine :=
  (shw_list (ds := [d, d]) fun e he => by
    simp only [List.mem_cons, List.not_mem_nil, or_false, or_self] at he
    rw [he]
    exact h).repr (by omega) (by show 2 * (B + 1) ≤ 100000; omega)
theorem shw_str5 {x : Str} (h1 : (PyData.str x).canLay0 = true) (h2 : (PyData.str x).leavesShort 20 = true) (h3 : x.cps.size ≤ 10) : Shw 0 10 (.str x) := ⟨⟨h1, by simp only [PyData.depth]; exact Nat.zero_le _, by simp only [PyData.showable]⟩, h2, by simp only [PyData.bulk]; exact h3⟩
theorem shw_told5 {n : Nat} {x : Str} {d : PyData} {B : Nat} (hx : Shw 0 10 (.str x)) (h : Shw n B d) (hB : 10 ≤ B) : Shw (n + 1) (2 * (B + 1)) (.tuple [.str x, d]) := shw_tuple (n := n) (B := B) (ds := [.str x, d]) fun e he => by
  simp only [List.mem_cons, List.not_mem_nil, or_false] at he
  rcases he with rfl | rfl
  · exact hx.mono (Nat.zero_le _) hB
  · exact h
theorem sum_abs {B : Int} : ∀ {l : List Int}, (∀ x ∈ l, -B ≤ x ∧ x ≤ B) → -(B * l.length) ≤ l.sum ∧ l.sum ≤ B * l.length
  | [], _ => by simp
  | x :: l, h => by
    have h1 := h x List.mem_cons_self
    have h2 := sum_abs (l := l) fun y hy => h y (List.mem_cons_of_mem _ hy)
    rw [List.sum_cons, List.length_cons]
    have e : B * ((l.length + 1 : Nat) : Int) = B * (l.length : Int) + B := by
      rw [Int.natCast_add, Int.mul_add]
      simp
    rw [e]
    omega
theorem pL_range {N : Net} (ok : NetOk N) (k : Nat) : (-1000000 ≤ (N.pL.getD k (0, 0)).1 ∧ (N.pL.getD k (0, 0)).1 ≤ 1000001000000) ∧ (-1000000 ≤ (N.pL.getD k (0, 0)).2 ∧ (N.pL.getD k (0, 0)).2 ≤ 1000001000000) := by
  by_cases hk : k < N.tubes.length
  · have e : N.pL.getD k (0, 0) = bdpAt N (fun k => (N.resL N.tubes.length).getD k 0) k := by
      rw [List.getD_eq_getElem?_getD]
      unfold Net.pL
      rw [bdpL_get hk]
      rfl
    rw [e]
    unfold bdpAt bdp
    rw [List.getElem?_eq_getElem hk]
    have okp := ok.ok _ (List.getElem_mem hk)
    generalize N.tubes[k] = p at okp
    have h1 := okp.lo
    have h2 := okp.lh
    have h3 := okp.hi
    have hb := ok.b2
    have hb6 := ok.b6
    have r1 := lo_range (b := N.base) (r := (N.resL N.tubes.length).getD k 0) (lo := p.lo) (by omega)
    have r2 := hi_range (b := N.base) (r := (N.resL N.tubes.length).getD k 0) (hi := p.hi) (by omega)
    show (-1000000 ≤ p.lo + ((N.resL N.tubes.length).getD k 0 - p.lo) % N.base ∧ p.lo + ((N.resL N.tubes.length).getD k 0 - p.lo) % N.base ≤ 1000001000000) ∧ (-1000000 ≤ p.hi - (p.hi - (N.resL N.tubes.length).getD k 0) % N.base ∧ p.hi - (p.hi - (N.resL N.tubes.length).getD k 0) % N.base ≤ 1000001000000)
    generalize (N.resL N.tubes.length).getD k 0 = r at r1 r2 ⊢
    omega
  · rw [List.getD_eq_getElem?_getD, List.getElem?_eq_none (by rw [pL_len]; omega)]
    exact ⟨by decide, by decide⟩
theorem exS_small {N : Net} (ok : NetOk N) (S : List Nat) : (exS N N.pL S N.tubes.length).natAbs < 10 ^ 15 := by
  have hl := ok.len
  have h1 := sum_abs (B := 1000001000000) (l := (hits (ent S) N.tubes N.tubes.length).map fun k => (N.pL.getD k (0, 0)).1) fun x hx => by
    obtain ⟨k, _, rfl⟩ := List.mem_map.mp hx
    have := (pL_range ok k).1
    omega
  have h2 := sum_abs (B := 1000001000000) (l := (hits (exi S) N.tubes N.tubes.length).map fun k => (N.pL.getD k (0, 0)).2) fun x hx => by
    obtain ⟨k, _, rfl⟩ := List.mem_map.mp hx
    have := (pL_range ok k).2
    omega
  have l1 := hits_le (ent S) N.tubes N.tubes.length
  have l2 := hits_le (exi S) N.tubes N.tubes.length
  rw [List.length_map] at h1 h2
  unfold exS
  omega
end Wc

set_option Elab.async false
set_option linter.all false
/-! Plain mathematics: with all residues, what enters a place and what leaves it are equal modulo the modulus. -/
namespace Wc
open PySem L2
theorem conn_comp {E : Nat → Nat → Prop} {n x y : Nat} (h : Conn E x y) : comp E n x = comp E n y := by
  unfold comp
  refine List.filter_congr fun z _ => ?_
  exact decide_eq_decide.mpr ⟨fun k => h.symm.trans k, fun k => h.trans k⟩
theorem ex_first {E : Nat → Nat → Prop} {n : Nat} : ∀ {x : Nat}, x < n → ∃ y ∈ firsts E n, Conn E x y := by
  intro x
  induction x using Nat.strongRecOn with
  | _ x ih =>
    intro hx
    by_cases h : ∀ y, y < x → ¬ Conn E x y
    · exact ⟨x, mem_firsts.mpr ⟨hx, h⟩, .refl⟩
    · obtain ⟨y, h2⟩ := Classical.not_forall.mp h
      obtain ⟨hy, hc⟩ := Classical.not_imp.mp h2
      obtain ⟨z, hz, hcz⟩ := ih y hy (by omega)
      exact ⟨z, hz, (Classical.not_not.mp hc).trans hcz⟩
theorem calm_all {N : Net} (c : Calm N) {x : Nat} (hx : x < N.many) : N.total (comp (OEdge N.tubes none) N.many x) = 0 := by
  obtain ⟨y, hy, h⟩ := ex_first (E := OEdge N.tubes none) hx
  rw [conn_comp h]
  exact c y hy
section
variable {ts : List Tube} {k : Nat} {p : Tube}
theorem skip_less {skip : Option Nat} : ∀ x y, OEdge ts skip x y → OEdge ts none x y := fun x y ⟨j, q, h1, h2, _, h4, h5⟩ => ⟨j, q, h1, h2, by simp, h4, h5⟩
/-- without one open pipe a group falls into the places behind its two ends -/
theorem conn_split (hp : ts[k]? = some p) (hw : p.wide = true) {y : Nat} (h : Conn (OEdge ts none) p.s y) : Conn (OEdge ts (some k)) p.s y ∨ Conn (OEdge ts (some k)) p.t y := by
  induction h with
  | refl => exact .inl .refl
  | @step x y _ e ih =>
    have key : (OEdge ts (some k) x y ∨ OEdge ts (some k) y x) ∨ (x = p.s ∧ y = p.t) ∨ (x = p.t ∧ y = p.s) := by
      rcases e with ⟨j, q, h1, h2, _, rfl, rfl⟩ | ⟨j, q, h1, h2, _, rfl, rfl⟩
      · by_cases hj : j = k
        · subst hj
          have : q = p := Option.some.inj (h1.symm.trans hp)
          subst this
          exact .inr (.inl ⟨rfl, rfl⟩)
        · exact .inl (.inl (edge_of h1 h2 fun z => hj (Option.some.inj z).symm))
      · by_cases hj : j = k
        · subst hj
          have : q = p := Option.some.inj (h1.symm.trans hp)
          subst this
          exact .inr (.inr ⟨rfl, rfl⟩)
        · exact .inl (.inr (edge_of h1 h2 fun z => hj (Option.some.inj z).symm))
    rcases key with e | ⟨_, rfl⟩ | ⟨_, rfl⟩
    · exact ih.imp (fun h => h.step e) (fun h => h.step e)
    · exact .inr .refl
    · exact .inl .refl
end
/-- what enters and leaves a set, as it stands -/
def raw (N : Net) (S : List Nat) : Int := over N.tubes fun p => p.cl N.base * sgS S p.s p.t
theorem total_raw (N : Net) (S : List Nat) : N.total S = raw N S % N.base := total_over N S
theorem raw_append (N : Net) {S T U : List Nat} (hd : ∀ x ∈ S, x ∉ T) (hu : ∀ x, x ∈ U ↔ x ∈ S ∨ x ∈ T) : raw N U = raw N S + raw N T := by
  unfold raw
  rw [← over_add]
  refine over_congr fun p _ => ?_
  rw [← Int.mul_add]
  congr 1
  have e : ∀ z, (if z ∈ U then (1 : Int) else 0) = (if z ∈ S then 1 else 0) + (if z ∈ T then 1 else 0) := fun z => by
    by_cases h1 : z ∈ S
    · rw [if_pos ((hu z).mpr (.inl h1)), if_pos h1, if_neg (hd z h1)]
      rfl
    · by_cases h2 : z ∈ T
      · rw [if_pos ((hu z).mpr (.inr h2)), if_neg h1, if_pos h2]
        rfl
      · rw [if_neg fun h => ((hu z).mp h).elim h1 h2, if_neg h1, if_neg h2]
        rfl
  unfold sgS
  rw [e, e]
  omega
/-- the two sides of an open pipe -/
theorem sides {N : Net} (ok : NetOk N) (c : Calm N) {k : Nat} {p : Tube} (hp : N.tubes[k]? = some p) (hw : p.wide = true) :
    N.base ∣ raw N (comp (OEdge N.tubes (some k)) N.many p.s) + raw N (comp (OEdge N.tubes (some k)) N.many p.t) := by
  have okp := ok.ok p (List.mem_of_getElem? hp)
  have hf := ok.forest k p hp hw
  rw [← raw_append N (U := comp (OEdge N.tubes none) N.many p.s)]
  · have h := calm_all c okp.s
    rw [total_raw] at h
    exact Int.dvd_of_emod_eq_zero h
  · intro x h1 h2
    exact hf ((mem_comp.mp h1).2.trans (mem_comp.mp h2).2.symm)
  · intro x
    rw [mem_comp, mem_comp, mem_comp]
    refine ⟨fun h => (conn_split hp hw h.2).imp (fun q => ⟨h.1, q⟩) (fun q => ⟨h.1, q⟩), fun h => ?_⟩
    rcases h with ⟨h1, h2⟩ | ⟨h1, h2⟩
    · exact ⟨h1, h2.mono skip_less⟩
    · exact ⟨h1, (Conn.refl.step (.inl (edge_of hp hw (by simp)))).trans (h2.mono skip_less)⟩
theorem res_near {N : Net} (ok : NetOk N) {k : Nat} {p : Tube} (hp : N.tubes[k]? = some p) (hw : p.wide = true) : N.resAt k = N.total (comp (OEdge N.tubes (some k)) N.many p.s) := by
  unfold Net.resAt
  rw [hp]
  show (if p.wide = true then _ else _) = _
  rw [if_pos hw]
theorem res_far {N : Net} (ok : NetOk N) (c : Calm N) {k : Nat} {p : Tube} (hp : N.tubes[k]? = some p) (hw : p.wide = true) : N.resAt k = (0 - N.total (comp (OEdge N.tubes (some k)) N.many p.t)) % N.base := by
  rw [res_near ok hp hw, total_raw, total_raw]
  have h := Int.emod_eq_zero_of_dvd (sides ok c hp hw)
  generalize raw N (comp (OEdge N.tubes (some k)) N.many p.s) = A at h
  generalize raw N (comp (OEdge N.tubes (some k)) N.many p.t) = B at h
  rw [Int.sub_emod, Int.emod_emod, ← Int.sub_emod]
  have e : A = (0 - B) + (A + B) := by omega
  rw [e, Int.add_emod, h, Int.add_zero, Int.emod_emod]
end Wc

set_option Elab.async false
set_option linter.all false
/-! Plain mathematics: every place is even. -/
namespace Wc
open PySem L2
/-- the residues of all pipes, weighed -/
noncomputable def wsum (N : Net) (g : Tube → Int) : Int := ((List.range N.tubes.length).map fun k => N.resAt k * (N.tubes[k]?).elim 0 g).sum
theorem sum_map_add (l : List Nat) (f g : Nat → Int) : (l.map fun k => f k + g k).sum = (l.map f).sum + (l.map g).sum := by
  induction l with
  | nil => rfl
  | cons k l ih =>
    rw [List.map_cons, List.sum_cons, ih, List.map_cons, List.sum_cons, List.map_cons, List.sum_cons]
    omega
theorem sum_map_zero {l : List Nat} {f : Nat → Int} (h : ∀ k ∈ l, f k = 0) : (l.map f).sum = 0 := by
  induction l with
  | nil => rfl
  | cons k l ih =>
    rw [List.map_cons, List.sum_cons, h k List.mem_cons_self, ih fun j hj => h j (List.mem_cons_of_mem _ hj)]
    rfl
theorem sum_map_one {l : List Nat} {f : Nat → Int} {k : Nat} (hl : l.Nodup) (hk : k ∈ l) (h : ∀ j ∈ l, j ≠ k → f j = 0) : (l.map f).sum = f k := by
  induction l with
  | nil => exact absurd hk List.not_mem_nil
  | cons j l ih =>
    have hn := List.nodup_cons.mp hl
    rw [List.map_cons, List.sum_cons]
    rcases List.mem_cons.mp hk with e | e
    · subst e
      rw [sum_map_zero fun i hi => h i (List.mem_cons_of_mem _ hi) fun z => hn.1 (z ▸ hi), Int.add_zero]
    · rw [ih hn.2 e fun i hi => h i (List.mem_cons_of_mem _ hi), h j List.mem_cons_self fun z => hn.1 (z ▸ e), Int.zero_add]
theorem over_range (ts : List Tube) (g : Tube → Int) : ((List.range ts.length).map fun k => (ts[k]?).elim 0 g).sum = over ts g := by
  unfold over
  congr 1
  refine List.ext_getElem? fun i => ?_
  rw [List.getElem?_map, List.getElem?_map]
  by_cases h : i < ts.length
  · rw [List.getElem?_range h, List.getElem?_eq_getElem h]
    show some ((ts[i]?).elim 0 g) = some (g ts[i])
    rw [List.getElem?_eq_getElem h]
    rfl
  · rw [List.getElem?_eq_none (by rw [List.length_range]; omega), List.getElem?_eq_none (by omega)]
    rfl
theorem resAt_closed {N : Net} {k : Nat} {p : Tube} (hp : N.tubes[k]? = some p) (hw : ¬ p.wide = true) : N.resAt k = p.cl N.base := by
  unfold Net.resAt Tube.cl
  rw [hp]
  show (if p.wide = true then _ else _) = _
  rw [if_neg hw, if_neg hw]
/-- where one open pipe crosses -/
theorem wsum_cut {N : Net} {S : List Nat} {k : Nat} {p : Tube} (hp : N.tubes[k]? = some p) (hw : p.wide = true) (hc : ∀ j q, N.tubes[j]? = some q → q.wide = true → j ≠ k → (q.s ∈ S ↔ q.t ∈ S)) :
    wsum N (fun q => sgS S q.s q.t) = raw N S + N.resAt k * sgS S p.s p.t := by
  unfold wsum raw
  rw [← over_range]
  have hk := (List.getElem?_eq_some_iff.mp hp).1
  have one := sum_map_one (l := List.range N.tubes.length) (f := fun j => N.resAt j * (N.tubes[j]?).elim 0 (fun q => sgS S q.s q.t) - (N.tubes[j]?).elim 0 (fun q => q.cl N.base * sgS S q.s q.t)) (k := k) List.nodup_range (List.mem_range.mpr hk) fun j hj hjk => by
    have hjl := List.mem_range.mp hj
    rw [List.getElem?_eq_getElem hjl]
    have hq : N.tubes[j]? = some (N.tubes[j]) := List.getElem?_eq_getElem hjl
    generalize N.tubes[j] = q at hq
    show N.resAt j * sgS S q.s q.t - q.cl N.base * sgS S q.s q.t = 0
    by_cases hqw : q.wide = true
    · have h := hc j q hq hqw hjk
      have e : sgS S q.s q.t = 0 := by
        unfold sgS
        by_cases h1 : q.s ∈ S
        · rw [if_pos h1, if_pos (h.mp h1)]
          rfl
        · rw [if_neg h1, if_neg fun z => h1 (h.mpr z)]
          rfl
      rw [e, Int.mul_zero, Int.mul_zero]
      rfl
    · rw [resAt_closed hq hqw, Int.sub_self]
  have e1 : p.cl N.base = 0 := by
    unfold Tube.cl
    rw [if_pos hw]
  have one' : ((List.range N.tubes.length).map fun j => N.resAt j * (N.tubes[j]?).elim 0 (fun q => sgS S q.s q.t) - (N.tubes[j]?).elim 0 (fun q => q.cl N.base * sgS S q.s q.t)).sum = N.resAt k * sgS S p.s p.t := by
    rw [one, hp]
    show N.resAt k * sgS S p.s p.t - p.cl N.base * sgS S p.s p.t = _
    rw [e1, Int.zero_mul, Int.sub_zero]
  rw [← one', ← sum_map_add]
  congr 1
  refine List.map_congr_left fun j _ => ?_
  omega
theorem wsum_shut {N : Net} {S : List Nat} (hc : Shut N.tubes S) : wsum N (fun q => sgS S q.s q.t) = raw N S := by
  unfold wsum raw
  rw [← over_range]
  congr 1
  refine List.map_congr_left fun j hj => ?_
  have hjl := List.mem_range.mp hj
  rw [List.getElem?_eq_getElem hjl]
  have hq : N.tubes[j]? = some (N.tubes[j]) := List.getElem?_eq_getElem hjl
  generalize N.tubes[j] = q at hq
  show N.resAt j * sgS S q.s q.t = q.cl N.base * sgS S q.s q.t
  by_cases hqw : q.wide = true
  · have h := hc q (List.mem_of_getElem? hq) hqw
    have e : sgS S q.s q.t = 0 := by
      unfold sgS
      by_cases h1 : q.s ∈ S
      · rw [if_pos h1, if_pos (h.mp h1)]
        rfl
      · rw [if_neg h1, if_neg fun z => h1 (h.mpr z)]
        rfl
    rw [e, Int.mul_zero, Int.mul_zero]
  · rw [resAt_closed hq hqw]
/-- what a place gets and gives, with all residues -/
noncomputable def evenAt (N : Net) (v : Nat) : Int := wsum N fun q => sgn v q.s q.t
theorem wsum_places (N : Net) {S : List Nat} (hS : S.Nodup) : wsum N (fun q => sgS S q.s q.t) = (S.map (evenAt N)).sum := by
  induction S with
  | nil =>
    unfold wsum
    refine sum_map_zero fun k _ => ?_
    cases N.tubes[k]? with
    | none => exact Int.mul_zero _
    | some q =>
      show N.resAt k * sgS [] q.s q.t = 0
      unfold sgS
      simp
  | cons v S ih =>
    have hv := (List.nodup_cons.mp hS).1
    rw [List.map_cons, List.sum_cons, ← ih (List.nodup_cons.mp hS).2]
    unfold evenAt wsum
    rw [← sum_map_add]
    congr 1
    refine List.map_congr_left fun k _ => ?_
    rw [← Int.mul_add]
    congr 1
    cases N.tubes[k]? with
    | none => rfl
    | some q =>
      show sgS (v :: S) q.s q.t = sgn v q.s q.t + sgS S q.s q.t
      unfold sgS sgn
      simp only [List.mem_cons]
      by_cases h1 : q.t = v <;> by_cases h2 : q.s = v <;> by_cases h3 : q.t ∈ S <;> by_cases h4 : q.s ∈ S <;> simp_all
/-- the places behind an end of an open pipe are even together -/
theorem side_even {N : Net} (ok : NetOk N) (c : Calm N) {k : Nat} {p : Tube} (hp : N.tubes[k]? = some p) (hw : p.wide = true) {x : Nat} (hx : x = p.s ∨ x = p.t) :
    N.base ∣ wsum N (fun q => sgS (comp (OEdge N.tubes (some k)) N.many x) q.s q.t) := by
  have okp := ok.ok p (List.mem_of_getElem? hp)
  have hf := ok.forest k p hp hw
  rw [wsum_cut hp hw fun j q hq hqw hjk => by
    have e := edge_of (skip := some k) hq hqw fun z => hjk (Option.some.inj z).symm
    have okq := ok.ok q (List.mem_of_getElem? hq)
    rw [mem_comp, mem_comp]
    exact ⟨fun h => ⟨okq.t, h.2.step (.inl e)⟩, fun h => ⟨okq.s, h.2.step (.inr e)⟩⟩]
  have hres : N.base ∣ raw N (comp (OEdge N.tubes (some k)) N.many p.s) - N.resAt k := by
    rw [res_near ok hp hw, total_raw]
    have := Int.emod_add_mul_ediv (raw N (comp (OEdge N.tubes (some k)) N.many p.s)) N.base
    exact ⟨raw N (comp (OEdge N.tubes (some k)) N.many p.s) / N.base, by omega⟩
  rcases hx with rfl | rfl
  · have e : sgS (comp (OEdge N.tubes (some k)) N.many p.s) p.s p.t = -1 := by
      unfold sgS
      rw [if_neg fun h => hf (mem_comp.mp h).2, if_pos (mem_comp.mpr ⟨okp.s, .refl⟩)]
      rfl
    rw [e]
    have e2 : raw N (comp (OEdge N.tubes (some k)) N.many p.s) + N.resAt k * -1 = raw N (comp (OEdge N.tubes (some k)) N.many p.s) - N.resAt k := by omega
    rw [e2]
    exact hres
  · have e : sgS (comp (OEdge N.tubes (some k)) N.many p.t) p.s p.t = 1 := by
      unfold sgS
      rw [if_pos (mem_comp.mpr ⟨okp.t, .refl⟩), if_neg fun h => hf (mem_comp.mp h).2.symm]
      rfl
    rw [e]
    have e2 : raw N (comp (OEdge N.tubes (some k)) N.many p.t) + N.resAt k * 1 = (raw N (comp (OEdge N.tubes (some k)) N.many p.s) + raw N (comp (OEdge N.tubes (some k)) N.many p.t)) - (raw N (comp (OEdge N.tubes (some k)) N.many p.s) - N.resAt k) := by omega
    rw [e2]
    exact Int.dvd_sub (sides ok c hp hw) hres
theorem dvd_rest {b : Int} {f : Nat → Int} {S : List Nat} {x : Nat} (hS : S.Nodup) (hx : x ∈ S) (hs : b ∣ (S.map f).sum) (h : ∀ y ∈ S, y ≠ x → b ∣ f y) : b ∣ f x := by
  induction S with
  | nil => exact absurd hx List.not_mem_nil
  | cons y S ih =>
    have hn := List.nodup_cons.mp hS
    rw [List.map_cons, List.sum_cons] at hs
    rcases List.mem_cons.mp hx with e | e
    · subst e
      have rest : ∀ {T : List Nat}, (∀ z ∈ T, b ∣ f z) → b ∣ (T.map f).sum := by
        intro T
        induction T with
        | nil => exact fun _ => Int.dvd_zero b
        | cons z T ih =>
          intro h
          rw [List.map_cons, List.sum_cons]
          exact Int.dvd_add (h z List.mem_cons_self) (ih fun w hw => h w (List.mem_cons_of_mem _ hw))
      have r := rest (T := S) fun z hz => h z (List.mem_cons_of_mem _ hz) fun q => hn.1 (q ▸ hz)
      have e2 : f x = (f x + (S.map f).sum) - (S.map f).sum := by omega
      rw [e2]
      exact Int.dvd_sub hs r
    · have hy := h y List.mem_cons_self fun z => hn.1 (z ▸ e)
      refine ih hn.2 e ?_ fun z hz => h z (List.mem_cons_of_mem _ hz)
      have e2 : (S.map f).sum = (f y + (S.map f).sum) - f y := by omega
      rw [e2]
      exact Int.dvd_sub hs hy
/-- the first pipe of a way -/
theorem first_step {ts : List Tube} {k x y : Nat} (h : Conn (OEdge ts (some k)) x y) : y ≠ x → ∃ k' p' z, k' ≠ k ∧ ts[k']? = some p' ∧ p'.wide = true ∧ ((p'.s = x ∧ p'.t = z) ∨ (p'.t = x ∧ p'.s = z)) ∧ Conn (OEdge ts (some k')) z y := by
  induction h with
  | refl => exact fun h => absurd rfl h
  | @step u y _ e ih =>
    intro hy
    obtain ⟨j, q, hq, hqw, hjk, hends⟩ : ∃ j q, ts[j]? = some q ∧ q.wide = true ∧ j ≠ k ∧ ((q.s = u ∧ q.t = y) ∨ (q.t = u ∧ q.s = y)) := by
      rcases e with ⟨j, q, h1, h2, h3, h4, h5⟩ | ⟨j, q, h1, h2, h3, h4, h5⟩
      · exact ⟨j, q, h1, h2, fun z => h3 (z ▸ rfl), .inl ⟨h4, h5⟩⟩
      · exact ⟨j, q, h1, h2, fun z => h3 (z ▸ rfl), .inr ⟨h5, h4⟩⟩
    by_cases hu : u = x
    · subst hu
      exact ⟨j, q, y, hjk, hq, hqw, hends, .refl⟩
    · obtain ⟨k', p', z, h1, h2, h3, h4, h5⟩ := ih hu
      refine ⟨k', p', z, h1, h2, h3, h4, ?_⟩
      have hjk' : j ≠ k' := by
        rintro rfl
        have : q = p' := Option.some.inj (hq.symm.trans h2)
        subst this
        rcases hends with ⟨a1, a2⟩ | ⟨a1, a2⟩ <;> rcases h4 with ⟨b1, b2⟩ | ⟨b1, b2⟩ <;> omega
      have ed := edge_of (skip := some k') hq hqw fun z => hjk' (Option.some.inj z).symm
      rcases hends with ⟨rfl, rfl⟩ | ⟨rfl, rfl⟩
      · exact h5.step (.inl ed)
      · exact h5.step (.inr ed)
theorem even_side {N : Net} (ok : NetOk N) (c : Calm N) : ∀ (m k x : Nat) (p : Tube), N.tubes[k]? = some p → p.wide = true → (x = p.s ∨ x = p.t) → (comp (OEdge N.tubes (some k)) N.many x).length ≤ m →
    ∀ y ∈ comp (OEdge N.tubes (some k)) N.many x, N.base ∣ evenAt N y := by
  intro m
  induction m with
  | zero =>
    intro k x p _ _ _ hl y hy
    have : comp (OEdge N.tubes (some k)) N.many x = [] := List.length_eq_zero_iff.mp (by omega)
    rw [this] at hy
    exact absurd hy List.not_mem_nil
  | succ m ih =>
    intro k x p hp hw hx hl
    have okp := ok.ok p (List.mem_of_getElem? hp)
    have hxn : x < N.many := by
      rcases hx with rfl | rfl
      · exact okp.s
      · exact okp.t
    have others : ∀ y ∈ comp (OEdge N.tubes (some k)) N.many x, y ≠ x → N.base ∣ evenAt N y := by
      intro y hy hyx
      have hyc := mem_comp.mp hy
      obtain ⟨k', p', z, h1, h2, h3, h4, h5⟩ := first_step hyc.2 hyx
      refine ih k' z p' h2 h3 (h4.elim (fun q => .inr q.2.symm) fun q => .inl q.2.symm) ?_ y (mem_comp.mpr ⟨hyc.1, h5⟩)
      have sub : ∀ w ∈ x :: comp (OEdge N.tubes (some k')) N.many z, w ∈ comp (OEdge N.tubes (some k)) N.many x := fun w hw => by
        rcases List.mem_cons.mp hw with rfl | hw
        · exact mem_comp.mpr ⟨hxn, .refl⟩
        · have := mem_comp.mp hw
          exact mem_comp.mpr ⟨this.1, (inner ok.forest hp hx h1 h2 h3 h4 this.2).1⟩
      have nd : (x :: comp (OEdge N.tubes (some k')) N.many z).Nodup := List.nodup_cons.mpr ⟨fun hm => (inner ok.forest hp hx h1 h2 h3 h4 (mem_comp.mp hm).2).2 rfl, comp_nodup _ _ _⟩
      have := List.Nodup.length_le_of_subset nd sub
      rw [List.length_cons] at this
      omega
    intro y hy
    by_cases hyx : y = x
    · subst hyx
      have h := side_even ok c hp hw hx
      rw [wsum_places N (comp_nodup _ _ _)] at h
      exact dvd_rest (comp_nodup _ _ _) hy h others
    · exact others y hy hyx
/-- every place is even -/
theorem even_place {N : Net} (ok : NetOk N) (c : Calm N) {v : Nat} (hv : v < N.many) : N.base ∣ evenAt N v := by
  by_cases h : ∃ (k : Nat) (p : Tube), N.tubes[k]? = some p ∧ p.wide = true ∧ (v = p.s ∨ v = p.t)
  · obtain ⟨k, p, hp, hw, hx⟩ := h
    exact even_side ok c _ k v p hp hw hx (Nat.le_refl _) v (mem_comp.mpr ⟨hv, .refl⟩)
  · have e : ∀ y, Conn (OEdge N.tubes none) v y → y = v := fun y hy => by
      refine hy.closed (S := fun z => z = v) rfl fun a b ha hab => ?_
      subst ha
      rcases hab with ⟨j, q, h1, h2, _, h4, h5⟩ | ⟨j, q, h1, h2, _, h4, h5⟩
      · exact absurd ⟨j, q, h1, h2, .inl h4.symm⟩ h
      · exact absurd ⟨j, q, h1, h2, .inr h5.symm⟩ h
    have h1 := calm_all c hv
    rw [total_raw] at h1
    have h2 := Int.dvd_of_emod_eq_zero h1
    rw [← wsum_shut (shut_comp ok.lt), wsum_places N (comp_nodup _ _ _)] at h2
    refine dvd_rest (comp_nodup _ _ _) (mem_comp.mpr ⟨hv, .refl⟩) h2 fun y hy hyv => ?_
    exact absurd (e y (mem_comp.mp hy).2) hyv
theorem even_set {N : Net} (ok : NetOk N) (c : Calm N) {S : List Nat} (hS : S.Nodup) (hlt : ∀ x ∈ S, x < N.many) : N.base ∣ wsum N (fun q => sgS S q.s q.t) := by
  rw [wsum_places N hS]
  clear hS
  induction S with
  | nil => exact Int.dvd_zero _
  | cons v S ih =>
    rw [List.map_cons, List.sum_cons]
    exact Int.dvd_add (even_place ok c (hlt v List.mem_cons_self)) (ih fun x hx => hlt x (List.mem_cons_of_mem _ hx))
theorem sumR_hits {N : Net} (g : Tube → Bool) : sumR (N.resL N.tubes.length) (hits g N.tubes N.tubes.length) = wsum N fun q => if g q = true then 1 else 0 := by
  have key : ∀ n, n ≤ N.tubes.length → sumR (N.resL N.tubes.length) (hits g N.tubes n) = ((List.range n).map fun k => N.resAt k * (N.tubes[k]?).elim 0 fun q => if g q = true then 1 else 0).sum := by
    intro n
    induction n with
    | zero => exact fun _ => rfl
    | succ n ih =>
      intro hn
      have hp : N.tubes[n]? = some (N.tubes[n]) := List.getElem?_eq_getElem (by omega)
      have hr : (N.resL N.tubes.length).getD n 0 = N.resAt n := by
        unfold Net.resL
        rw [List.getD_eq_getElem?_getD, List.getElem?_map, List.getElem?_range (by omega)]
        rfl
      rw [hits_succ hp, List.range_succ, List.map_append, List.sum_append, ← ih (by omega)]
      unfold sumR
      rw [List.map_append, List.sum_append]
      congr 1
      rw [List.map_cons, List.map_nil, List.sum_cons, List.sum_nil, hp, Int.add_zero]
      show _ = N.resAt n * (if g (N.tubes[n]) = true then 1 else 0)
      by_cases hg : g (N.tubes[n]) = true
      · rw [if_pos hg, if_pos hg, List.map_cons, List.map_nil, List.sum_cons, List.sum_nil, hr, Int.add_zero, Int.mul_one]
      · rw [if_neg hg, if_neg hg, Int.mul_zero]
        rfl
  exact key _ (Nat.le_refl _)
theorem is_even {N : Net} (ok : NetOk N) (c : Calm N) {S : List Nat} (hS : S.Nodup) (hlt : ∀ x ∈ S, x < N.many) :
    (sumR (N.resL N.tubes.length) (hits (ent S) N.tubes N.tubes.length) - sumR (N.resL N.tubes.length) (hits (exi S) N.tubes N.tubes.length)) % N.base = 0 := by
  have e : sumR (N.resL N.tubes.length) (hits (ent S) N.tubes N.tubes.length) = sumR (N.resL N.tubes.length) (hits (exi S) N.tubes N.tubes.length) + wsum N fun q => sgS S q.s q.t := by
    rw [sumR_hits, sumR_hits]
    unfold wsum
    rw [← sum_map_add]
    congr 1
    refine List.map_congr_left fun k _ => ?_
    rw [← Int.mul_add]
    congr 1
    cases N.tubes[k]? with
    | none => rfl
    | some q =>
      show (if ent S q = true then (1 : Int) else 0) = (if exi S q = true then 1 else 0) + sgS S q.s q.t
      unfold ent exi sgS
      by_cases h1 : q.t ∈ S <;> by_cases h2 : q.s ∈ S <;> simp [h1, h2]
  refine Int.emod_eq_zero_of_dvd ?_
  have e2 : ∀ A B : Int, A + B - A = B := fun A B => by omega
  rw [e, e2]
  exact even_set ok c hS hlt
end Wc

set_option Elab.async false
set_option linter.all false
/-! Plain mathematics: an open pipe with exchanged ends. -/
namespace Wc
open PySem L2
section
variable {N : Net} {k : Nat} {p : Tube}
theorem turned_get (hp : N.tubes[k]? = some p) (j : Nat) : (N.turned k p).tubes[j]? = if j = k then some p.turned else N.tubes[j]? := by
  have hk := (List.getElem?_eq_some_iff.mp hp).1
  have e : (N.turned k p).tubes = N.tubes.set k p.turned := by
    show N.tubes.take k ++ [p.turned] ++ N.tubes.drop (k + 1) = _
    rw [List.set_eq_take_append_cons_drop, if_pos hk, List.append_assoc]
    rfl
  rw [e]
  by_cases h : j = k
  · subst h
    rw [if_pos rfl, List.getElem?_set_self hk]
  · rw [if_neg h, List.getElem?_set_ne (Ne.symm h)]
theorem turned_len (hp : N.tubes[k]? = some p) : (N.turned k p).tubes.length = N.tubes.length := by
  have hk := (List.getElem?_eq_some_iff.mp hp).1
  show (N.tubes.take k ++ [p.turned] ++ N.tubes.drop (k + 1)).length = _
  simp only [List.length_append, List.length_take, List.length_drop, List.length_singleton]
  omega
theorem turned_wide (p : Tube) : p.turned.wide = p.wide := rfl
theorem turned_edge (hp : N.tubes[k]? = some p) (skip : Option Nat) (x y : Nat) : (OEdge (N.turned k p).tubes skip x y ∨ OEdge (N.turned k p).tubes skip y x) ↔ (OEdge N.tubes skip x y ∨ OEdge N.tubes skip y x) := by
  have one : ∀ x y, OEdge (N.turned k p).tubes skip x y → OEdge N.tubes skip x y ∨ OEdge N.tubes skip y x := by
    rintro x y ⟨j, q, h1, h2, h3, h4, h5⟩
    rw [turned_get hp] at h1
    by_cases hj : j = k
    · rw [if_pos hj] at h1
      have := Option.some.inj h1
      subst this
      exact .inr ⟨j, p, hj ▸ hp, h2, h3, h5, h4⟩
    · rw [if_neg hj] at h1
      exact .inl ⟨j, q, h1, h2, h3, h4, h5⟩
  have two : ∀ x y, OEdge N.tubes skip x y → OEdge (N.turned k p).tubes skip x y ∨ OEdge (N.turned k p).tubes skip y x := by
    rintro x y ⟨j, q, h1, h2, h3, h4, h5⟩
    by_cases hj : j = k
    · subst hj
      have : q = p := Option.some.inj (h1.symm.trans hp)
      subst this
      exact .inr ⟨j, q.turned, by rw [turned_get hp, if_pos rfl], h2, h3, h5, h4⟩
    · exact .inl ⟨j, q, by rw [turned_get hp, if_neg hj]; exact h1, h2, h3, h4, h5⟩
  constructor
  · rintro (h | h)
    · exact one _ _ h
    · exact (one _ _ h).symm
  · rintro (h | h)
    · exact two _ _ h
    · exact (two _ _ h).symm
theorem turned_conn (hp : N.tubes[k]? = some p) (skip : Option Nat) (x y : Nat) : Conn (OEdge (N.turned k p).tubes skip) x y ↔ Conn (OEdge N.tubes skip) x y := by
  constructor
  · intro h
    induction h with
    | refl => exact .refl
    | step _ e ih => exact ih.step ((turned_edge hp skip _ _).mp e)
  · intro h
    induction h with
    | refl => exact .refl
    | step _ e ih => exact ih.step ((turned_edge hp skip _ _).mpr e)
theorem turned_comp (hp : N.tubes[k]? = some p) (skip : Option Nat) (n x : Nat) : comp (OEdge (N.turned k p).tubes skip) n x = comp (OEdge N.tubes skip) n x := by
  unfold comp
  exact List.filter_congr fun z _ => decide_eq_decide.mpr (turned_conn hp skip x z)
theorem turned_firsts (hp : N.tubes[k]? = some p) (n : Nat) : firsts (OEdge (N.turned k p).tubes none) n = firsts (OEdge N.tubes none) n := by
  unfold firsts
  refine List.filter_congr fun z _ => decide_eq_decide.mpr ?_
  exact ⟨fun h y hy hc => h y hy ((turned_conn hp none z y).mpr hc), fun h y hy hc => h y hy ((turned_conn hp none z y).mp hc)⟩
theorem turned_ok (ok : NetOk N) (hp : N.tubes[k]? = some p) : NetOk (N.turned k p) := by
  refine ⟨ok.b2, ok.b6, ok.m1, ok.m24, by rw [turned_len hp]; exact ok.len, fun q hq => ?_, fun j q hj hw hc => ?_⟩
  · obtain ⟨j, hj⟩ := List.getElem?_of_mem hq
    rw [turned_get hp] at hj
    by_cases h : j = k
    · rw [if_pos h] at hj
      have okp := ok.ok p (List.mem_of_getElem? hp)
      rw [← Option.some.inj hj]
      exact ⟨okp.t, okp.s, fun z => okp.st z.symm, okp.lo, okp.lh, okp.hi, okp.me⟩
    · rw [if_neg h] at hj
      exact ok.ok q (List.mem_of_getElem? hj)
  · rw [turned_conn hp] at hc
    rw [turned_get hp] at hj
    by_cases h : j = k
    · rw [if_pos h] at hj
      have e := Option.some.inj hj
      subst e h
      exact ok.forest j p hp hw hc.symm
    · rw [if_neg h] at hj
      exact ok.forest j q hj hw hc
theorem turned_over (hp : N.tubes[k]? = some p) {g : Tube → Int} (h : g p.turned = g p) : over (N.turned k p).tubes g = over N.tubes g := by
  have hk := (List.getElem?_eq_some_iff.mp hp).1
  have e : N.tubes = N.tubes.take k ++ [p] ++ N.tubes.drop (k + 1) := by
    have e1 : N.tubes.set k p = N.tubes := by
      refine List.ext_getElem? fun j => ?_
      by_cases h : j = k
      · subst h
        rw [List.getElem?_set_self hk, hp]
      · rw [List.getElem?_set_ne (Ne.symm h)]
    conv => lhs; rw [← e1, List.set_eq_take_append_cons_drop, if_pos hk]
    rw [List.append_assoc]
    rfl
  show over (N.tubes.take k ++ [p.turned] ++ N.tubes.drop (k + 1)) g = _
  conv => rhs; rw [e]
  rw [over_append, over_append, over_append, over_append, over_cons, over_cons, h]
theorem turned_raw (hp : N.tubes[k]? = some p) (hw : p.wide = true) (S : List Nat) : raw (N.turned k p) S = raw N S := by
  have z : ∀ q : Tube, q.wide = true → ∀ b, q.cl b = 0 := fun q hq b => by
    unfold Tube.cl
    rw [if_pos hq]
  exact turned_over hp (by rw [z p.turned hw, z p hw, Int.zero_mul, Int.zero_mul])
theorem turned_total (hp : N.tubes[k]? = some p) (hw : p.wide = true) (S : List Nat) : (N.turned k p).total S = N.total S := by
  rw [total_raw, total_raw, turned_raw hp hw]
  rfl
theorem turned_calm (hp : N.tubes[k]? = some p) (hw : p.wide = true) (c : Calm N) : Calm (N.turned k p) := by
  intro x hx
  have hx' : x ∈ firsts (OEdge N.tubes none) N.many := turned_firsts hp N.many ▸ hx
  show (N.turned k p).total (comp (OEdge (N.turned k p).tubes none) N.many x) = 0
  rw [turned_comp hp, turned_total hp hw]
  exact c x hx'
theorem turned_res (ok : NetOk N) (c : Calm N) (hp : N.tubes[k]? = some p) (hw : p.wide = true) (j : Nat) : (N.turned k p).resAt j = if j = k then (0 - N.resAt k) % N.base else N.resAt j := by
  have ok' := turned_ok ok hp
  by_cases h : j = k
  · subst h
    rw [if_pos rfl]
    have hp' : (N.turned j p).tubes[j]? = some p.turned := by rw [turned_get hp, if_pos rfl]
    rw [res_near ok' hp' hw]
    show (N.turned j p).total (comp (OEdge (N.turned j p).tubes (some j)) N.many p.t) = _
    rw [turned_comp hp, turned_total hp hw, res_far ok c hp hw, Int.sub_emod 0 ((0 - _) % _), Int.emod_emod, ← Int.sub_emod]
    have e : ∀ A : Int, 0 - (0 - A) = A := fun A => by omega
    rw [e, total_raw, Int.emod_emod]
  · rw [if_neg h]
    cases hj : N.tubes[j]? with
    | none =>
      unfold Net.resAt
      rw [turned_get hp, if_neg h, hj]
    | some q =>
      have hj' : (N.turned k p).tubes[j]? = some q := by rw [turned_get hp, if_neg h]; exact hj
      by_cases hq : q.wide = true
      · rw [res_near ok' hj' hq, res_near ok hj hq]
        show (N.turned k p).total (comp (OEdge (N.turned k p).tubes (some j)) N.many q.s) = _
        rw [turned_comp hp, turned_total hp hw]
      · rw [resAt_closed hj' hq, resAt_closed hj hq]
        rfl
theorem turned_list (ok : NetOk N) (c : Calm N) (hp : N.tubes[k]? = some p) (hw : p.wide = true) :
    (N.turned k p).resL (N.turned k p).tubes.length = (N.resL N.tubes.length).take k ++ [(0 - N.resAt k) % N.base] ++ (N.resL N.tubes.length).drop (k + 1) := by
  have hk := (List.getElem?_eq_some_iff.mp hp).1
  have hl : (N.resL N.tubes.length).length = N.tubes.length := by
    unfold Net.resL
    rw [List.length_map, List.length_range]
  have e : (N.resL N.tubes.length).take k ++ [(0 - N.resAt k) % N.base] ++ (N.resL N.tubes.length).drop (k + 1) = (N.resL N.tubes.length).set k ((0 - N.resAt k) % N.base) := by
    rw [List.set_eq_take_append_cons_drop, if_pos (by omega), List.append_assoc]
    rfl
  rw [e, turned_len hp]
  refine List.ext_getElem? fun j => ?_
  unfold Net.resL
  by_cases hj : j < N.tubes.length
  · rw [List.getElem?_map, List.getElem?_range hj]
    show some ((N.turned k p).resAt j) = _
    rw [turned_res ok c hp hw]
    by_cases h : j = k
    · subst h
      rw [if_pos rfl, List.getElem?_set_self (by rw [List.length_map, List.length_range]; exact hj)]
    · rw [if_neg h, List.getElem?_set_ne (Ne.symm h), List.getElem?_map, List.getElem?_range hj]
      rfl
  · rw [List.getElem?_eq_none (by rw [List.length_map, List.length_range]; omega), List.getElem?_eq_none (by rw [List.length_set, List.length_map, List.length_range]; omega)]
/-- residues lie from 0 to base - 1 -/
theorem res_range {N : Net} (ok : NetOk N) (k : Nat) : 0 ≤ N.resAt k ∧ N.resAt k < N.base := by
  have hb := ok.b2
  unfold Net.resAt
  cases hp : N.tubes[k]? with
  | none => exact ⟨Int.le_refl 0, by show (0 : Int) < N.base; omega⟩
  | some p =>
    show 0 ≤ (if p.wide = true then _ else _) ∧ (if p.wide = true then _ else _) < _
    by_cases hw : p.wide = true
    · rw [if_pos hw]
      exact ⟨Int.emod_nonneg _ (by omega), Int.emod_lt_of_pos _ (by omega)⟩
    · rw [if_neg hw]
      unfold Tube.shown
      cases hm : p.me with
      | none => exact ⟨Int.emod_nonneg _ (by omega), Int.emod_lt_of_pos _ (by omega)⟩
      | some m => exact (ok.ok p (List.mem_of_getElem? hp)).me m hm
end
end Wc

set_option Elab.async false
set_option linter.all false
/-! Plain mathematics: any numbers that balance at every place are the residues; the sums of groups. -/
namespace Wc
open PySem L2
/-- numbers of all pipes, weighed -/
noncomputable def wR (ts : List Tube) (r : Nat → Int) (g : Tube → Int) : Int := ((List.range ts.length).map fun k => r k * (ts[k]?).elim 0 g).sum
section
variable {N : Net} {r : Nat → Int}
theorem wR_shut (hr : ∀ k p, N.tubes[k]? = some p → ¬ p.wide = true → r k = p.cl N.base) {S : List Nat} (hc : Shut N.tubes S) : wR N.tubes r (fun q => sgS S q.s q.t) = raw N S := by
  unfold wR raw
  rw [← over_range]
  congr 1
  refine List.map_congr_left fun j hj => ?_
  have hjl := List.mem_range.mp hj
  rw [List.getElem?_eq_getElem hjl]
  have hq : N.tubes[j]? = some (N.tubes[j]) := List.getElem?_eq_getElem hjl
  generalize N.tubes[j] = q at hq
  show r j * sgS S q.s q.t = q.cl N.base * sgS S q.s q.t
  by_cases hqw : q.wide = true
  · have h := hc q (List.mem_of_getElem? hq) hqw
    have e : sgS S q.s q.t = 0 := by
      unfold sgS
      by_cases h1 : q.s ∈ S
      · rw [if_pos h1, if_pos (h.mp h1)]
        rfl
      · rw [if_neg h1, if_neg fun z => h1 (h.mpr z)]
        rfl
    rw [e, Int.mul_zero, Int.mul_zero]
  · rw [hr j q hq hqw]
theorem wR_cut (hr : ∀ k p, N.tubes[k]? = some p → ¬ p.wide = true → r k = p.cl N.base) {S : List Nat} {k : Nat} {p : Tube} (hp : N.tubes[k]? = some p) (hw : p.wide = true)
    (hc : ∀ j q, N.tubes[j]? = some q → q.wide = true → j ≠ k → (q.s ∈ S ↔ q.t ∈ S)) : wR N.tubes r (fun q => sgS S q.s q.t) = raw N S + r k * sgS S p.s p.t := by
  unfold wR raw
  rw [← over_range]
  have hk := (List.getElem?_eq_some_iff.mp hp).1
  have one := sum_map_one (l := List.range N.tubes.length) (f := fun j => r j * (N.tubes[j]?).elim 0 (fun q => sgS S q.s q.t) - (N.tubes[j]?).elim 0 (fun q => q.cl N.base * sgS S q.s q.t)) (k := k) List.nodup_range (List.mem_range.mpr hk) fun j hj hjk => by
    have hjl := List.mem_range.mp hj
    rw [List.getElem?_eq_getElem hjl]
    have hq : N.tubes[j]? = some (N.tubes[j]) := List.getElem?_eq_getElem hjl
    generalize N.tubes[j] = q at hq
    show r j * sgS S q.s q.t - q.cl N.base * sgS S q.s q.t = 0
    by_cases hqw : q.wide = true
    · have h := hc j q hq hqw hjk
      have e : sgS S q.s q.t = 0 := by
        unfold sgS
        by_cases h1 : q.s ∈ S
        · rw [if_pos h1, if_pos (h.mp h1)]
          rfl
        · rw [if_neg h1, if_neg fun z => h1 (h.mpr z)]
          rfl
      rw [e, Int.mul_zero, Int.mul_zero]
      rfl
    · rw [hr j q hq hqw, Int.sub_self]
  have e1 : p.cl N.base = 0 := by
    unfold Tube.cl
    rw [if_pos hw]
  have one' : ((List.range N.tubes.length).map fun j => r j * (N.tubes[j]?).elim 0 (fun q => sgS S q.s q.t) - (N.tubes[j]?).elim 0 (fun q => q.cl N.base * sgS S q.s q.t)).sum = r k * sgS S p.s p.t := by
    rw [one, hp]
    show r k * sgS S p.s p.t - p.cl N.base * sgS S p.s p.t = _
    rw [e1, Int.zero_mul, Int.sub_zero]
  rw [← one', ← sum_map_add]
  congr 1
  refine List.map_congr_left fun j _ => ?_
  omega
theorem wR_places (ts : List Tube) (r : Nat → Int) {S : List Nat} (hS : S.Nodup) : wR ts r (fun q => sgS S q.s q.t) = (S.map fun v => wR ts r fun q => sgn v q.s q.t).sum := by
  induction S with
  | nil =>
    unfold wR
    refine sum_map_zero fun k _ => ?_
    cases ts[k]? with
    | none => exact Int.mul_zero _
    | some q =>
      show r k * sgS [] q.s q.t = 0
      unfold sgS
      simp
  | cons v S ih =>
    have hv := (List.nodup_cons.mp hS).1
    rw [List.map_cons, List.sum_cons, ← ih (List.nodup_cons.mp hS).2]
    unfold wR
    rw [← sum_map_add]
    congr 1
    refine List.map_congr_left fun k _ => ?_
    rw [← Int.mul_add]
    congr 1
    cases ts[k]? with
    | none => rfl
    | some q =>
      show sgS (v :: S) q.s q.t = sgn v q.s q.t + sgS S q.s q.t
      unfold sgS sgn
      simp only [List.mem_cons]
      by_cases h1 : q.t = v <;> by_cases h2 : q.s = v <;> by_cases h3 : q.t ∈ S <;> by_cases h4 : q.s ∈ S <;> simp_all
theorem dvd_sum {b : Int} {f g : Nat → Int} {S : List Nat} (h : ∀ v ∈ S, b ∣ f v - g v) : b ∣ (S.map f).sum - (S.map g).sum := by
  induction S with
  | nil => exact ⟨0, by simp⟩
  | cons v S ih =>
    rw [List.map_cons, List.sum_cons, List.map_cons, List.sum_cons]
    have e : f v + (S.map f).sum - (g v + (S.map g).sum) = (f v - g v) + ((S.map f).sum - (S.map g).sum) := by omega
    rw [e]
    exact Int.dvd_add (h v List.mem_cons_self) (ih fun x hx => h x (List.mem_cons_of_mem _ hx))
end
/-- what the program reads off the meters: numbers of all pipes, and what is left over at the places -/
structure Read (N : Net) (B : List Br) (R L : List Int) : Prop where
  rl : R.length = N.tubes.length
  ll : L.length = N.many
  cl : ∀ k p, N.tubes[k]? = some p → ¬ p.wide = true → R.getD k 0 = p.cl N.base
  rg : ∀ k, k < N.tubes.length → 0 ≤ R.getD k 0 ∧ R.getD k 0 < N.base
  lg : ∀ v, v < N.many → 0 ≤ L.getD v 0 ∧ L.getD v 0 < N.base
  ev : ∀ v, v < N.many → N.base ∣ wR N.tubes (fun k => R.getD k 0) (fun q => sgn v q.s q.t) - L.getD v 0
  ze : ∀ b ∈ B, L.getD b.2.1 0 = 0
theorem exists_stems {ts : List Tube} {n : Nat} (hlt : ∀ p ∈ ts, p.s < n ∧ p.t < n ∧ p.s ≠ p.t) : ∀ {B : List Br}, (∀ k v o, (k, v, o) ∈ B → ∃ p, ts[k]? = some p ∧ p.wide = true ∧ ((p.s = v ∧ p.t = o) ∨ (p.t = v ∧ p.s = o))) →
    B.Pairwise (fun a b => b.2.1 ≠ a.2.1 ∧ b.2.2 ≠ a.2.1) → ∃ st, Stems B n st
  | [], _, _ => ⟨_, Stems.nil n⟩
  | (k, v, o) :: B, h, hp => by
    have h2 := List.pairwise_cons.mp hp
    obtain ⟨st, hst⟩ := exists_stems hlt (B := B) (fun k v o hm => h k v o (List.mem_cons_of_mem _ hm)) h2.2
    obtain ⟨p, hpk, _, he⟩ := h k v o List.mem_cons_self
    have b := hlt p (List.mem_of_getElem? hpk)
    exact ⟨_, hst.cons (k := k) (by rcases he with ⟨a, c⟩ | ⟨a, c⟩ <;> omega) (by rcases he with ⟨a, c⟩ | ⟨a, c⟩ <;> omega) (by rcases he with ⟨a, c⟩ | ⟨a, c⟩ <;> omega) h2.1⟩
section
variable {N : Net} {B : List Br} {R L : List Int}
theorem NetOk.ends (ok : NetOk N) : ∀ p ∈ N.tubes, p.s < N.many ∧ p.t < N.many ∧ p.s ≠ p.t := fun p hp => ⟨(ok.ok p hp).s, (ok.ok p hp).t, (ok.ok p hp).st⟩
theorem Read.group (h : Read N B R L) (ok : NetOk N) (hB : BrsOf N.tubes B) {x : Nat} : sumR L (comp (OEdge N.tubes none) N.many x) = N.total (comp (OEdge N.tubes none) N.many x) := by
  obtain ⟨st, hst⟩ := exists_stems ok.ends hB.at_ hB.last
  have hn := comp_nodup (OEdge N.tubes none) N.many x
  have d := dvd_sum (S := comp (OEdge N.tubes none) N.many x) fun v hv => h.ev v (mem_comp.mp hv).1
  rw [← wR_places N.tubes _ hn, wR_shut h.cl (shut_comp ok.lt)] at d
  have root : ∀ v, v < N.many → L.getD v 0 ≠ 0 → st.getD v 0 = v := fun v hv hne => (hst.fix v hv).mpr fun b hb e => hne (e ▸ h.ze b hb)
  have range : 0 ≤ sumR L (comp (OEdge N.tubes none) N.many x) ∧ sumR L (comp (OEdge N.tubes none) N.many x) < N.base := by
    unfold sumR
    by_cases hex : ∃ v ∈ comp (OEdge N.tubes none) N.many x, L.getD v 0 ≠ 0
    · obtain ⟨v, hv, hne⟩ := hex
      rw [sum_map_one hn hv fun y hy hyv => ?_]
      · exact h.lg v (mem_comp.mp hv).1
      · by_cases hy0 : L.getD y 0 = 0
        · exact hy0
        · have c := (mem_comp.mp hy).2.symm.trans (mem_comp.mp hv).2
          have e := (hst.con y v (mem_comp.mp hy).1 (mem_comp.mp hv).1).mp ((hB.conn y v).mpr c)
          rw [root y (mem_comp.mp hy).1 hy0, root v (mem_comp.mp hv).1 hne] at e
          exact absurd e hyv
    · rw [sum_map_zero fun v hv => by
        by_cases z : L.getD v 0 = 0
        · exact z
        · exact absurd ⟨v, hv, z⟩ hex]
      have := ok.b2
      omega
  rw [total_raw]
  have e2 : raw N (comp (OEdge N.tubes none) N.many x) % N.base = sumR L (comp (OEdge N.tubes none) N.many x) % N.base := Int.emod_eq_emod_iff_emod_sub_eq_zero.mpr (Int.emod_eq_zero_of_dvd d)
  rw [e2, Int.emod_eq_of_lt range.1 range.2]
theorem Read.calm (h : Read N B R L) (ok : NetOk N) (hB : BrsOf N.tubes B) (c : Calm N) : ∀ v, v < N.many → L.getD v 0 = 0 := by
  intro v hv
  have e := h.group ok hB (x := v)
  rw [calm_all c hv] at e
  unfold sumR at e
  have key : ∀ {S : List Nat}, (∀ y ∈ S, 0 ≤ L.getD y 0) → (S.map fun k => L.getD k 0).sum = 0 → ∀ y ∈ S, L.getD y 0 = 0 := by
    intro S
    have nn : ∀ {S : List Nat}, (∀ y ∈ S, 0 ≤ L.getD y 0) → 0 ≤ (S.map fun k => L.getD k 0).sum := by
      intro S
      induction S with
      | nil => exact fun _ => Int.le_refl _
      | cons a S ih =>
        intro h
        rw [List.map_cons, List.sum_cons]
        have h1 := h a List.mem_cons_self
        have h2 := ih fun y hy => h y (List.mem_cons_of_mem _ hy)
        omega
    induction S with
    | nil => exact fun _ _ y hy => absurd hy List.not_mem_nil
    | cons a S ih =>
      intro h e y hy
      rw [List.map_cons, List.sum_cons] at e
      have h1 := h a List.mem_cons_self
      have h2 := nn fun y hy => h y (List.mem_cons_of_mem _ hy)
      rcases List.mem_cons.mp hy with z | z
      · rw [z]
        omega
      · exact ih (fun y hy => h y (List.mem_cons_of_mem _ hy)) (by omega) y z
  exact key (fun y hy => (h.lg y (mem_comp.mp hy).1).1) e v (mem_comp.mpr ⟨hv, .refl⟩)
/-- numbers that balance at every place are the residues -/
theorem Read.res (h : Read N B R L) (ok : NetOk N) (hB : BrsOf N.tubes B) (c : Calm N) : R = N.resL N.tubes.length := by
  have hz := h.calm ok hB c
  refine List.ext_getElem? fun k => ?_
  unfold Net.resL
  rw [List.getElem?_map]
  by_cases hk : k < N.tubes.length
  · rw [List.getElem?_range hk]
    have hp : N.tubes[k]? = some N.tubes[k] := List.getElem?_eq_getElem hk
    generalize N.tubes[k] = p at hp
    have eR : R[k]? = some (R.getD k 0) := by
      rw [List.getD_eq_getElem?_getD, List.getElem?_eq_getElem (by rw [h.rl]; exact hk)]
      rfl
    rw [eR]
    congr 1
    by_cases hw : p.wide = true
    · have hf := ok.forest k p hp hw
      have okp := ok.ok p (List.mem_of_getElem? hp)
      have hn := comp_nodup (OEdge N.tubes (some k)) N.many p.s
      have d := dvd_sum (b := N.base) (f := fun v => wR N.tubes (fun k => R.getD k 0) (fun q => sgn v q.s q.t)) (g := fun v => L.getD v 0) (S := comp (OEdge N.tubes (some k)) N.many p.s) fun v hv => h.ev v (mem_comp.mp hv).1
      rw [← wR_places N.tubes _ hn, sum_map_zero (f := fun v => L.getD v 0) fun v hv => hz v (mem_comp.mp hv).1, Int.sub_zero, wR_cut h.cl hp hw fun j q hq hqw hjk => by
        have e := edge_of (skip := some k) hq hqw fun z => hjk (Option.some.inj z).symm
        have okq := ok.ok q (List.mem_of_getElem? hq)
        rw [mem_comp, mem_comp]
        exact ⟨fun h => ⟨okq.t, h.2.step (.inl e)⟩, fun h => ⟨okq.s, h.2.step (.inr e)⟩⟩] at d
      have e : sgS (comp (OEdge N.tubes (some k)) N.many p.s) p.s p.t = -1 := by
        unfold sgS
        rw [if_neg fun h => hf (mem_comp.mp h).2, if_pos (mem_comp.mpr ⟨okp.s, .refl⟩)]
        rfl
      rw [e] at d
      rw [res_near ok hp hw, total_raw]
      have e3 : raw N (comp (OEdge N.tubes (some k)) N.many p.s) + R.getD k 0 * -1 = raw N (comp (OEdge N.tubes (some k)) N.many p.s) - R.getD k 0 := by omega
      rw [e3] at d
      rw [Int.emod_eq_emod_iff_emod_sub_eq_zero.mpr (Int.emod_eq_zero_of_dvd d)]
      exact (Int.emod_eq_of_lt (h.rg k hk).1 (h.rg k hk).2).symm
    · rw [h.cl k p hp hw, resAt_closed hp hw]
  · rw [List.getElem?_eq_none (by rw [h.rl]; omega), List.getElem?_eq_none (by rw [List.length_range]; omega)]
    rfl
end
end Wc

set_option Elab.async false
set_option linter.all false
set_option maxRecDepth 100000
/-! zip of two sequences, each a list or a tuple. -/
namespace Wc
open PySem PySem.Spec PyProof PyProof.Rows L2
/-- a tuple (k) or a list -/
def SqK (K : PySem.W.Frag) (k : Bool) (H : Hp) (a : Addr) (xs : List V) : Prop := if k = true then SqT K H a xs else SqL K H a xs
def itK (k : Bool) (a : Addr) : Obj := if k = true then { cls := .type "tuple_iterator", data := .fields #[.ref a, .int 0 0] } else { cls := .type "list_iterator", data := .fields #[.ref a, .int 0 0] }
def IterK (k : Bool) (h : Heap) (it a : Addr) (i : Nat) : Prop := if k = true then h.IsTupleIter it a i else h.IsListIter it a i
def SeqK (k : Bool) (h : Heap) (a : Addr) (items : Array Value) : Prop := if k = true then h.IsTuple a items else h.IsList a items
theorem begins_K (k : Bool) (a : Addr) (items : Array Value) : Begins (.ref a) (itK k a) fun h => SeqK k h a items := by
  cases k
  · exact begins_list a items
  · exact begins_tuple a items
theorem draws_K {prog : Program} {w : World} {A : Around} (k : Bool) (hh : A.handled = none) (it a : Addr) (hne : a ≠ it) (items : Array Value) :
    Draws prog w A it [it, a] items.size (fun i v => items[i]? = some v) (fun i h => IterK k h it a i ∧ SeqK k h a items) := by
  cases k
  · exact Draws.list hh it a hne items
  · exact Draws.tuple hh it a hne items
theorem IterK.obj {k : Bool} {h : Heap} {it a : Addr} {i : Nat} (x : IterK k h it a i) : ∃ o, h.get? it = some o ∧ ∀ v, o.data ≠ .cell v := by
  cases k
  · obtain ⟨o, e, _, d⟩ := (show h.IsListIter it a i from x)
    exact ⟨o, e, fun v q => nomatch (d.symm.trans q)⟩
  · obtain ⟨o, e, _, d⟩ := (show h.IsTupleIter it a i from x)
    exact ⟨o, e, fun v q => nomatch (d.symm.trans q)⟩
theorem IterK.at {k : Bool} {h h' : Heap} {it a : Addr} {i : Nat} (x : IterK k h it a i) (e : ∀ o, h.get? it = some o → h'.get? it = some o) : IterK k h' it a i := by
  cases k
  · exact (show h.IsListIter it a i from x).at e
  · exact (show h.IsTupleIter it a i from x).at e
theorem IterK.lt {k : Bool} {h : Heap} {it a : Addr} {i : Nat} (x : IterK k h it a i) : it < h.objs.size := by
  obtain ⟨o, e, _⟩ := x.obj
  exact Heap.lt_size e
theorem seqK_of {X : Cx} {pins : List (Addr × Obj)} {σ : L2.St} {H : Hp} {s : Shared} {k : Bool} {a : Addr} {xs : List V} (I : Inv X pins σ H s) (h : SqK X.K k H a xs) : ∃ its : List Value, Vals xs its ∧ SeqK k s.heap a its.toArray ∧ a < s.heap.objs.size := by
  cases k
  · obtain ⟨its, rv, p, _⟩ := I.list (show SqL X.K H a xs from h)
    exact ⟨its, rv, p.isList, p.lt⟩
  · obtain ⟨its, rv, p, _⟩ := I.tuple (show SqT X.K H a xs from h)
    exact ⟨its, rv, p, p.lt⟩
theorem seqK_inj {X : Cx} {pins : List (Addr × Obj)} {σ : L2.St} {H : Hp} {s : Shared} {k : Bool} {a : Addr} {xs ys : List V} (I : Inv X pins σ H s) (h : SqK X.K k H a xs) (h' : SqK X.K k H a ys) : xs = ys := by
  cases k
  · exact I.list_inj (show SqL X.K H a xs from h) h'
  · exact I.tuple_inj (show SqT X.K H a xs from h) h'
/-- the items of both in new pairs -/
def ItZ (K : PySem.W.Frag) (k1 k2 : Bool) (a b : Addr) : It where
  go := fun i H => ∃ (xs ys : List V) (x y : V), SqK K k1 H a xs ∧ SqK K k2 H b ys ∧ xs[i]? = some x ∧ ys[i]? = some y
  yld := fun i H v H' => ∃ T x y, v = .ref T ∧ H T = none ∧ H' = upd H T (.tup [x, y]) ∧ (∀ xs, SqK K k1 H a xs → xs[i]? = some x) ∧ ∀ ys, SqK K k2 H b ys → ys[i]? = some y
  stop := fun i H => ∃ xs ys : List V, SqK K k1 H a xs ∧ SqK K k2 H b ys ∧ xs.length = i ∧ ys.length = i
theorem turn_Z {P : Program} {w : World} {K : PySem.W.Frag} {elts : List Expr} {kk : Nat} {tpos : Pos} (k1 k2 : Bool) {a b z TI TO i1 i2 : Addr} (D : ZipSep2 z TI TO i1 i2 [i1, a] [i2, b]) (n1 : a ≠ i1) (n2 : b ≠ i2) (n12 : i1 ≠ i2) :
    Turn P w K (.Tuple elts kk tpos) (ItZ K k1 k2 a b) [z, TI, TO, i1, i2] z (fun i h => IsZip h z TI TO .none ∧ IsTupOf2 h TI (.ref i1) (.ref i2) ∧ (∃ x y, IsTupOf2 h TO x y) ∧ IterK k1 h i1 a i ∧ IterK k2 h i2 b i) where
  mem := by simp
  obj := fun i h st c hc => by
    obtain ⟨hz, hTI, ⟨x, y, hTO⟩, h1, h2⟩ := st
    have e' : c = z ∨ c = TI ∨ c = TO ∨ c = i1 ∨ c = i2 := by simpa using hc
    rcases e' with q | q | q | q | q
    · rw [q]; exact ⟨_, hz, fun v q => nomatch q⟩
    · rw [q]; exact ⟨_, hTI, fun v q => nomatch q⟩
    · rw [q]; exact ⟨_, hTO, fun v q => nomatch q⟩
    · rw [q]; exact h1.obj
    · rw [q]; exact h2.obj
  keep := fun i h h' st k => by
    obtain ⟨hz, hTI, ⟨x, y, hTO⟩, h1, h2⟩ := st
    exact ⟨k z (by simp) _ hz, k TI (by simp) _ hTI, ⟨x, y, k TO (by simp) _ hTO⟩, h1.at fun o q => k i1 (by simp) o q, h2.at fun o q => k i2 (by simp) o q⟩
  item := by
    intro X hP hw hK hc i pins s σ H E I hf st hg
    subst hP hw hK
    obtain ⟨hz, hTI, ⟨x0, y0, hTO⟩, h1, h2⟩ := st
    obtain ⟨xs, ys, x, y, hqx, hqy, hx, hy⟩ := hg
    obtain ⟨its, rv, p, _⟩ := seqK_of I hqx
    obtain ⟨its2, rv2, p2, _⟩ := seqK_of I hqy
    obtain ⟨u, hu, ru⟩ := rv.get hx
    obtain ⟨u2, hu2, ru2⟩ := rv2.get hy
    have hzl : z < s.heap.objs.size := Heap.lt_size hz
    refine wpAny_pyNext_zipD2_item D (draws_K (A := X.A.in1) k1 (I.ok.hd hc) i1 a n1 its.toArray) (draws_K (A := X.A.in1) k2 (I.ok.hd hc) i2 b n2 its2.toArray) hz hTI hTO ⟨h1, p⟩ ⟨h2, p2⟩ (by rw [List.size_toArray]; exact (List.getElem?_eq_some_iff.mp hu).1) (by rw [List.size_toArray]; exact (List.getElem?_eq_some_iff.mp hu2).1) fun v1 v2 h' tk e1 e2 z' TO' st1 st2 hT hsz hk => ?_
    have ev1 : v1 = u := Option.some.inj (e1.symm.trans (by simpa using hu))
    have ev2 : v2 = u2 := Option.some.inj (e2.symm.trans (by simpa using hu2))
    subst ev1 ev2
    refine ⟨_, rfl, wpAny_letOwnedTupleGo_zip (s := { s with heap := h', toks := tk }) z' fun h'' z'' sb => ?_⟩
    have hT2 : h''.get? s.heap.objs.size = some { cls := .type "tuple", data := .seq #[v1, v2] } := (sb.2 _ (Nat.ne_of_gt hzl)).trans hT
    have I1 : Inv X pins σ (upd H s.heap.objs.size (.tup [x, y])) { s with heap := h'', toks := tk } :=
      I.turnedNew (ch := [z, TI, TO, i1, i2]) (fun c o hb q => (sb.2 c (fun q' => hb (by simp [q']))).trans (hk c o (fun q' => hb (by simp [q'])) (fun q' => hb (by simp [q'])) (fun q' => hb (by simp [q'])) (fun q' => hb (by simp [q'])) q)) hf (Nat.le_refl _)
        ⟨by show 2 ≤ sizeLine; decide, [v1, v2], .cons ru (.cons ru2 .nil), ⟨_, hT2, rfl, _, rfl⟩⟩
    refine ⟨.ref s.heap.objs.size, _, I1, rfl, ⟨_, x, y, rfl, I.hok.fresh (Nat.le_refl _), rfl, fun l hl => by rw [seqK_inj I hl hqx]; exact hx, fun l hl => by rw [seqK_inj I hl hqy]; exact hy⟩, ⟨z'', ?_, ⟨v1, v2, ?_⟩, ?_, ?_⟩, fun c hcm => ?_⟩
    · exact (sb.2 _ D.TIz).trans (hk _ _ D.TIz D.TITO D.TIi1 D.TIi2 hTI)
    · exact (sb.2 _ D.TOz).trans TO'
    · exact st1.1.at fun o q => (sb.2 _ (Ne.symm D.zi1)).trans q
    · exact st2.1.at fun o q => (sb.2 _ (Ne.symm D.zi2)).trans q
    · have hlt : c < s.heap.objs.size := by
        have e' : c = z ∨ c = TI ∨ c = TO ∨ c = i1 ∨ c = i2 := by simpa using hcm
        rcases e' with q | q | q | q | q
        · rw [q]; exact hzl
        · rw [q]; exact Heap.lt_size hTI
        · rw [q]; exact Heap.lt_size hTO
        · rw [q]; exact h1.lt
        · rw [q]; exact h2.lt
      rw [upd_ne (Nat.ne_of_lt hlt)]
      exact (hf c hcm).1
  done := by
    intro X hP hw hK hc i pins s σ H E I hf st hg
    subst hP hw hK
    obtain ⟨hz, hTI, ⟨x0, y0, hTO⟩, h1, h2⟩ := st
    obtain ⟨xs, ys, hqx, hqy, l1, l2⟩ := hg
    obtain ⟨its, rv, p, _⟩ := seqK_of I hqx
    obtain ⟨its2, rv2, p2, _⟩ := seqK_of I hqy
    have m1 := rv.length
    have m2 := rv2.length
    refine wpAny_pyNext_zipD2_end D (draws_K (A := X.A.in1) k1 (I.ok.hd hc) i1 a n1 its.toArray) (draws_K (A := X.A.in1) k2 (I.ok.hd hc) i2 b n2 its2.toArray) hz hTI hTO ⟨h1, p⟩ ⟨h2, p2⟩ (by rw [List.size_toArray]; omega) (by rw [List.size_toArray]; omega) (.inl (by rw [List.size_toArray]; omega)) fun h' tk hk => ⟨rfl, I.turnedL (ch := [z, TI, TO, i1, i2]) (fun c o hb q =>
      hk c o (fun q' => hb (by simp [q'])) (fun q' => hb (by simp [q'])) (fun q' => hb (by simp [q'])) (fun q' => hb (by simp [q'])) q) hf⟩
  self := fun A i s Q E st h => wpAny_pyIter_zip st.1 h
def iZipK (K : PySem.W.Frag) (ta : TA) : TI := fun σ H R => ta σ H fun vs H1 => ∃ k1 k2 a b xs ys, vs = [.ref a, .ref b] ∧ SqK K k1 H1 a xs ∧ SqK K k2 H1 b ys ∧ R (ItZ K k1 k2 a b) H1
theorem pi_zipK {X : Cx} {e e2 : Expr} {ta : TA} {p pos tpos : Pos} {elts : List Expr} {kk : Nat} (hg : Gl X "zip") (hm : X.mg "zip" = none) (ha : PA X [e, e2] ta)
    (hs : starEach [e, e2] X.env = (false, eval e X.env) :: starEach [e2] X.env := by rfl) (hpl : (backTo pos (starEach [e2] X.env)).any (·.1) = false := by rfl) :
    PI X (.Tuple elts kk tpos) (.Call (.Name "zip" p) [e, e2] [] pos) (iZipK X.K ta) := by
  refine ⟨fun pins s σ H R I h => ?_⟩
  refine Call_ (ld_blt I hg hm PyProof.Rows.boot_zip (PyProof.Rows.callWith_type1 (thn (ha.run pos pins s σ H _ I h) fun us s1 ⟨vs, H1, I1, r1, q1⟩ => ?_) hs hpl))
  obtain ⟨k1, k2, a, b, xs, ys, ex, hqx, hqy, q⟩ := q1
  subst ex
  cases r1 with
  | cons r rr =>
    cases rr with
    | cons r' rr =>
      cases rr
      cases r
      cases r'
      obtain ⟨its, rv, p1, l1⟩ := seqK_of I1 hqx
      obtain ⟨its2, rv2, p2, l2⟩ := seqK_of I1 hqy
      have fresh5 : ∀ c, c ∈ [s1.heap.objs.size + 4, s1.heap.objs.size + 2, s1.heap.objs.size + 3, s1.heap.objs.size, s1.heap.objs.size + 1] → FpOk X pins H1 c := fun c hcm => by
        have e' : c = s1.heap.objs.size + 4 ∨ c = s1.heap.objs.size + 2 ∨ c = s1.heap.objs.size + 3 ∨ c = s1.heap.objs.size ∨ c = s1.heap.objs.size + 1 := by simpa using hcm
        have hle : s1.heap.objs.size ≤ c := by rcases e' with z | z | z | z | z <;> (rw [z]; first | exact Nat.le_refl _ | exact Nat.le_add_right _ _)
        exact I1.fpOk hle (I1.hok.fresh hle)
      refine zip_begins2 (begins_K k1 a its.toArray) (begins_K k2 b its2.toArray) p1 p2 fun h' hz hTI hTO g1 g2 hsz hk => wpAny_pyIter_zip hz ?_
      have I2 : Inv X pins σ H1 { s1 with heap := h' } := I1.kept (t' := s1.toks) hk
      have it1 : IterK k1 h' s1.heap.objs.size a 0 := by
        cases k1
        · exact ⟨_, g1, rfl, rfl⟩
        · exact ⟨_, g1, rfl, rfl⟩
      have it2 : IterK k2 h' (s1.heap.objs.size + 1) b 0 := by
        cases k2
        · exact ⟨_, g2, rfl, rfl⟩
        · exact ⟨_, g2, rfl, rfl⟩
      exact ⟨s1.heap.objs.size + 4, [s1.heap.objs.size + 4, s1.heap.objs.size + 2, s1.heap.objs.size + 3, s1.heap.objs.size, s1.heap.objs.size + 1], _, _, H1, rfl, I2,
        turn_Z k1 k2 (zip_sep2 (fp1 := [a]) (fp2 := [b]) (fun c hc => by rw [List.mem_singleton.mp hc]; exact l1) (fun c hc => by rw [List.mem_singleton.mp hc]; exact l2)) (Nat.ne_of_lt l1) (Nat.ne_of_lt (Nat.lt_succ_of_lt l2)) (Nat.ne_of_lt (Nat.lt_succ_self _)), ⟨hz, hTI, ⟨_, _, hTO⟩, it1, it2⟩, fresh5, q⟩
theorem walk_Z {K : PySem.W.Frag} {k1 k2 : Bool} {a b : Addr} {xs ys : List V} (hl : xs.length = ys.length) : Walk (ItZ K k1 k2 a b) xs.length (fun H => SqK K k1 H a xs ∧ SqK K k2 H b ys) (YPair (fun i => xs[i]?) (fun i => ys[i]?)) where
  goes := fun i H hi h => ⟨xs, ys, xs[i], ys[i]'(by omega), h.1, h.2, List.getElem?_eq_getElem hi, List.getElem?_eq_getElem (by omega)⟩
  stops := fun H h => ⟨xs, ys, h.1, h.2, rfl, hl.symm⟩
  yields := fun i H v H' _ h ⟨T, x, y, h1, h2, h3, h4, h5⟩ => ⟨T, x, y, h1, h2, h3, h4 xs h.1, h5 ys h.2⟩
end Wc
namespace Wc
open PySem PySem.Spec PyProof PyProof.Rows L2
theorem pi_tupK {X : Cx} {tg l : Expr} {tl : TE} (K : PySem.W.Frag) (hl : PE X l tl) (h : X.K = K := by rfl) : PI X tg l (iTup K tl) := h ▸ pi_tup hl
theorem pi_listK {X : Cx} {tg l : Expr} {tl : TE} (K : PySem.W.Frag) (hl : PE X l tl) (h : X.K = K := by rfl) : PI X tg l (iList K tl) := h ▸ pi_list hl
end Wc

set_option Elab.async false
set_option linter.all false
set_option maxRecDepth 100000
namespace Wc
open PySem PySem.Spec PyProof.Rows L2
/-- what the first i pipes bring to a place -/
noncomputable def wRi (ts : List Tube) (r : Nat → Int) (i : Nat) (g : Tube → Int) : Int := ((List.range i).map fun k => r k * (ts[k]?).elim 0 g).sum
theorem wRi_succ {ts : List Tube} {r : Nat → Int} {i : Nat} {g : Tube → Int} {p : Tube} (hp : ts[i]? = some p) : wRi ts r (i + 1) g = wRi ts r i g + r i * g p := by
  unfold wRi
  rw [List.range_succ, List.map_append, List.sum_append, List.map_cons, List.map_nil, List.sum_cons, List.sum_nil, hp, Int.add_zero]
  rfl
noncomputable def bL (ts : List Tube) (r : Nat → Int) (i n : Nat) : List Int := (List.range n).map fun v => wRi ts r i fun p => sgn v p.s p.t
theorem bL_get {ts : List Tube} {r : Nat → Int} {i n v : Nat} (h : v < n) : ((bL ts r i n).map V.int)[v]? = some (V.int (wRi ts r i fun p => sgn v p.s p.t)) := by
  unfold bL
  rw [List.getElem?_map, map_get h]
  rfl
theorem bL_len (ts : List Tube) (r : Nat → Int) (i n : Nat) : ((bL ts r i n).map V.int).length = n := by
  unfold bL
  rw [List.length_map, List.length_map, List.length_range]
theorem bL_zero (ts : List Tube) (r : Nat → Int) (n : Nat) : bL ts r 0 n = List.replicate n 0 := const_map n _ fun v => rfl
theorem bL_step {ts : List Tube} {r : Nat → Int} {i n : Nat} {p : Tube} (hp : ts[i]? = some p) (hs : p.s < n) (ht : p.t < n) (hst : p.s ≠ p.t) :
    ((bL ts r i n).set p.t ((wRi ts r i fun q => sgn p.t q.s q.t) + r i)).set p.s ((wRi ts r i fun q => sgn p.s q.s q.t) - r i) = bL ts r (i + 1) n := by
  have e := map_set2 (f := fun v => wRi ts r i fun q => sgn v q.s q.t) (g := fun v => wRi ts r (i + 1) fun q => sgn v q.s q.t) ht hs hst.symm fun v h1 h2 => by
    show wRi ts r (i + 1) _ = _
    rw [wRi_succ hp]
    unfold sgn
    rw [if_neg (Ne.symm h1), if_neg (Ne.symm h2)]
    omega
  have e1 : (wRi ts r (i + 1) fun q => sgn p.t q.s q.t) = (wRi ts r i fun q => sgn p.t q.s q.t) + r i := by
    rw [wRi_succ hp]
    unfold sgn
    rw [if_pos rfl, if_neg hst]
    omega
  have e2 : (wRi ts r (i + 1) fun q => sgn p.s q.s q.t) = (wRi ts r i fun q => sgn p.s q.s q.t) - r i := by
    rw [wRi_succ hp]
    unfold sgn
    rw [if_pos rfl, if_neg (Ne.symm hst)]
    omega
  rw [e1, e2] at e
  exact e
theorem SqK.same {K : PySem.W.Frag} {k : Bool} {H H' : Hp} {a : Addr} {xs : List V} (s : Same H H') (h : SqK K k H a xs) : SqK K k H' a xs := by
  cases k
  · exact Same.seqL s (show SqL K H a xs from h)
  · exact s.keepT.seq (show SqT K H a xs from h)
section
variable {P : Program} {w : World} {K : PySem.W.Frag} {mg : Str → Option Value} {base : Heap}
abbrev s_place_balances : Stmt := top 20
theorem sc_place_balances : FnScope ["network", "counts", "balances", "pipe", "count"] ["network", "counts"] (defScope s_place_balances) := ⟨rfl, rfl, rfl, by decide +kernel, rfl, by decide +kernel, by decide +kernel⟩
def sp_place_balances (K : PySem.W.Frag) : Sp := fun vs H Q _ => ∃ (na ca : Addr) (k : Bool) (N : Net) (R : List Int), vs = [.ref na, .ref ca] ∧ NetAt K H na N ∧ NetOk N ∧ SqK K k H ca (R.map V.int) ∧ R.length = N.tubes.length ∧
  ∀ H' l, Same H H' → H l = none → H' l = some (.lst ((bL N.tubes (fun k => R.getD k 0) N.tubes.length N.many).map V.int)) → Q (.ref l) H'
theorem has_place_balances (D : DefAt K mg "place_balances" s_place_balances ["network", "counts"]) (T : Blt mg) : Has P w K mg base "place_balances" 1 ["network", "counts"] (sp_place_balances K) := by
  refine D.ok sc_place_balances (fun vs H Q E h => ?_) (fun f cdv A outer s H vs Q E hr h => ?_)
  · obtain ⟨na, ca, k, N, R, rfl, _⟩ := h
    rfl
  · obtain ⟨na, ca, k, N, R, rfl, hN, ok, hc, hRl, q⟩ := h
    obtain ⟨b, xs, ha, hb, hts⟩ := id hN
    have hxl : xs.length = N.tubes.length := Paired.length hts
    have hm := ok.m24
    refine ⟨_, (pss_cons (ps_set (i := 2) sc_place_balances.nd rfl (.inl rfl) (pe_op op_rep (pe_lst (pa_cons pe_int pa_nil)) (pe_ix ix_tup (pv 0) pe_int (fun _ _ => rfl))))
      (pss_cons (ps_for PassesOwn.never rfl (pi_zipK (by rfl) T.b_zip (pa_cons (pe_ix ix_tup (pv 0) pe_int (fun _ _ => rfl)) (pa_cons (pv 1) pa_nil))) (pg_tup rfl (pgs_cons (pg_name (i := 3) sc_place_balances.nd rfl (.inl rfl)) (pgs_cons (pg_name (i := 4) sc_place_balances.nd rfl (.inl rfl)) pgs_nil))) (pss_cons (ps_augS (pv 2) (pe_ix ix_tup (pv 3) pe_int (fun _ _ => rfl)) get_list (pv 4) ip_add set_list)
      (pss_one (ps_augS (pv 2) (pe_ix ix_tup (pv 3) pe_int (fun _ _ => rfl)) get_list (pv 4) ip_sub set_list))))
      (pss_one (ps_ret (pv 2))))), ?_⟩
    refine ⟨(by show 1 ≤ sizeLine; decide), fun l0 hl0 => ⟨_, rfl, na, _, 1, _, rfl, rfl, (same_upd hl0).keepT.seq ha, atI_nat (j := 1) rfl, l0, (N.many : Int), _, rfl, rfl, upd_same, by omega, by omega, (Nat.le_trans (by show 1 * (N.many : Int).toNat ≤ 1000; omega) (by decide)), fun bd hbd => ?_⟩⟩
    rw [zeros_flat]
    have s1 := (same_upd (o := .lst [.int 0]) hl0).trans (same_upd (o := .lst ((List.replicate N.many (0 : Int)).map V.int)) hbd)
    have hbd0 : H bd = none := (same_upd (o := .lst [.int 0]) hl0).free hbd
    have hbd1 : (upd (upd H l0 (.lst [.int 0])) bd (.lst ((List.replicate N.many (0 : Int)).map V.int))) bd = some (.lst ((List.replicate N.many (0 : Int)).map V.int)) := upd_same
    generalize upd (upd H l0 (.lst [.int 0])) bd (.lst ((List.replicate N.many (0 : Int)).map V.int)) = H1 at s1 hbd1
    refine ⟨_, rfl, na, _, 2, _, rfl, rfl, s1.keepT.seq ha, atI_nat (j := 2) rfl, _, rfl, true, k, b, ca, xs, R.map V.int, rfl, s1.keepT.seq hb, hc.same s1, ?_⟩
    refine for_it (walk_Z (k1 := true) (k2 := k) (xs := xs) (ys := R.map V.int) (by rw [List.length_map]; omega)) (fun i σ H' => (∃ y3 y4, σ = [some (.ref na), some (.ref ca), some (.ref bd), y3, y4]) ∧ Same H H' ∧ H' bd = some (.lst ((bL N.tubes (fun k => R.getD k 0) i N.many).map V.int)))
      ⟨⟨none, none, rfl⟩, s1, by rw [bL_zero]; exact hbd1⟩ (fun i σ H' _ h => ⟨h.2.1.keepT.seq hb, hc.same h.2.1⟩) ?_ ?_
    · rintro i v σ H2 H3 hi ⟨⟨y3, y4, rfl⟩, s2, hl2⟩ ⟨T0, x1, x2, rfl, hT0, rfl, e1, e2⟩
      rw [hxl] at hi
      obtain ⟨p, hp, a1, rfl, hpa⟩ := paired_get hts e1
      have okp := ok.ok p (List.mem_of_getElem? hp)
      have e3 : (R.map V.int)[i]? = some x2 := e2
      have eR : R[i]? = some (R.getD i 0) := by
        rw [List.getD_eq_getElem?_getD, List.getElem?_eq_getElem (by omega)]
        rfl
      rw [List.getElem?_map, eR] at e3
      have ex2 : V.int (R.getD i 0) = x2 := Option.some.inj e3
      subst ex2
      have sT : Same H2 (upd H2 T0 (.tup [.ref a1, .int (R.getD i 0)])) := same_upd hT0
      have s3 := s2.trans sT
      have hl3 := sT _ _ hl2
      have hpa3 := s3.keepT.seq hpa
      refine ⟨T0, _, rfl, SqT.of upd_same, rfl, _, _, rfl, _, _, rfl, rfl, ?_⟩
      generalize upd H2 T0 (.tup [.ref a1, .int (R.getD i 0)]) = H4 at s3 hl3 hpa3
      refine ⟨_, rfl, _, rfl, a1, _, 1, _, rfl, rfl, hpa3, atI_nat (j := 1) rfl, bd, _, p.t, _, rfl, rfl, SqL.of hl3, bL_get okp.t, _, rfl, _, _, rfl, rfl, bd, _, (p.t : Int), p.t, rfl, rfl, hl3, ixN_nat (by rw [bL_len]; exact okp.t), ?_⟩
      have hpa4 := (keepT_upd_lst (zs := ((bL N.tubes (fun k => R.getD k 0) i N.many).map V.int).set p.t (V.int ((wRi N.tubes (fun k => R.getD k 0) i fun q => sgn p.t q.s q.t) + R.getD i 0))) hl3).seq hpa3
      refine ⟨_, rfl, _, rfl, a1, _, 0, _, rfl, rfl, hpa4, atI_nat (j := 0) rfl, bd, _, p.s, _, rfl, rfl, SqL.of upd_same, (by rw [List.getElem?_set_ne (Ne.symm okp.st)]; exact bL_get okp.s), _, rfl, _, _, rfl, rfl, bd, _, (p.s : Int), p.s, rfl, rfl, upd_same, ixN_nat (by rw [List.length_set, bL_len]; exact okp.s), ?_⟩
      refine ⟨⟨_, _, rfl⟩, fun x o e => ?_, ?_⟩
      · rw [upd_ne (ne_of_none e hbd0), upd_ne (ne_of_none e hbd0)]
        exact s3 _ _ e
      · rw [upd_same, ← bL_step hp okp.s okp.t okp.st, List.map_set, List.map_set]
    · rintro σ H2 ⟨⟨y3, y4, rfl⟩, s2, hl2⟩
      rw [hxl] at hl2
      exact ⟨_, rfl, q _ bd s2 hbd0 hl2⟩
end
end Wc

set_option Elab.async false
set_option linter.all false
/-! Plain mathematics: reading the meters, branch by branch. -/
namespace Wc
open PySem L2
theorem getD_set {l : List Int} {k x : Nat} {a : Int} (hk : k < l.length) : (l.set k a).getD x 0 = if x = k then a else l.getD x 0 := by
  rw [List.getD_eq_getElem?_getD, List.getD_eq_getElem?_getD]
  by_cases e : x = k
  · subst e
    rw [List.getElem?_set_self hk, if_pos rfl]
    rfl
  · rw [List.getElem?_set_ne (Ne.symm e), if_neg e]
theorem getD_map {n : Nat} {f : Nat → Int} {k : Nat} (h : k < n) : ((List.range n).map f).getD k 0 = f k := by
  rw [List.getD_eq_getElem?_getD, map_get h]
  rfl
/-- branches among the pipes: each leads away from its place, no later one touches the place -/
structure Twigs (ts : List Tube) (B : List Br) : Prop where
  at_ : ∀ k v o, (k, v, o) ∈ B → ∃ p, ts[k]? = some p ∧ ((p.s = v ∧ p.t = o) ∨ (p.t = v ∧ p.s = o))
  nd : (idx B).Nodup
  last : B.Pairwise fun a b => b.2.1 ≠ a.2.1 ∧ b.2.2 ≠ a.2.1
theorem BrsOf.twigs {ts : List Tube} {B : List Br} (h : BrsOf ts B) : Twigs ts B :=
  ⟨fun k v o hm => by obtain ⟨p, a, _, c⟩ := h.at_ k v o hm; exact ⟨p, a, c⟩, h.nd, h.last⟩
/-- the counts, with 0 for the first i branches -/
noncomputable def knG (C : List Int) (B : List Br) (i : Nat) : List Int := (List.range C.length).map fun k => if k ∈ idx (B.take i) then 0 else C.getD k 0
theorem knG_len (C : List Int) (B : List Br) (i : Nat) : (knG C B i).length = C.length := by
  unfold knG
  rw [List.length_map, List.length_range]
theorem knG_zero (C : List Int) (B : List Br) : knG C B 0 = C := by
  refine List.ext_getElem? fun k => ?_
  by_cases hk : k < C.length
  · unfold knG
    rw [map_get hk, if_neg (by rw [List.take_zero]; exact List.not_mem_nil), List.getD_eq_getElem?_getD, List.getElem?_eq_getElem hk]
    rfl
  · rw [List.getElem?_eq_none (by rw [knG_len]; omega), List.getElem?_eq_none (by omega)]
theorem take_idx {B : List Br} {i : Nat} {bb : Br} (h : B[i]? = some bb) : idx (B.take (i + 1)) = idx (B.take i) ++ [bb.1] := by
  unfold idx
  rw [List.take_add_one, h, List.map_append]
  rfl
theorem knG_step {C : List Int} {B : List Br} {i : Nat} {bb : Br} (h : B[i]? = some bb) (hk : bb.1 < C.length) : (knG C B i).set bb.1 0 = knG C B (i + 1) := by
  refine List.ext_getElem? fun k => ?_
  by_cases hkl : k < C.length
  · unfold knG
    rw [map_get hkl, take_idx h]
    by_cases e : k = bb.1
    · subst e
      rw [List.getElem?_set_self (by rw [List.length_map, List.length_range]; exact hkl), if_pos (by simp)]
    · rw [List.getElem?_set_ne (Ne.symm e), map_get hkl]
      simp only [List.mem_append, List.mem_singleton, e, or_false]
  · rw [List.getElem?_eq_none (by rw [List.length_set, knG_len]; omega), List.getElem?_eq_none (by rw [knG_len]; omega)]
/-- behind i branches: the counts R, what is left over L; C the counts to begin with -/
structure CSt (N : Net) (B : List Br) (C : List Int) (i : Nat) (R L : List Int) : Prop where
  rl : R.length = N.tubes.length
  ll : L.length = N.many
  cl : ∀ k, k ∉ idx B → R.getD k 0 = C.getD k 0
  la : ∀ b ∈ B.drop i, R.getD b.1 0 = 0
  ev : ∀ v, v < N.many → wR N.tubes (fun k => R.getD k 0) (fun q => sgn v q.s q.t) = L.getD v 0
  ze : ∀ b ∈ B.take i, L.getD b.2.1 0 = 0
theorem getD_ge {l : List Int} {k : Nat} (h : l.length ≤ k) : l.getD k 0 = 0 := by
  rw [List.getD_eq_getElem?_getD, List.getElem?_eq_none h]
  rfl
theorem CSt.begin {N : Net} {B : List Br} {C : List Int} (hl : C.length = N.tubes.length) (hB : Twigs N.tubes B) : CSt N B C 0 (knG C B B.length) (bL N.tubes (fun k => (knG C B B.length).getD k 0) N.tubes.length N.many) := by
  have get : ∀ k, k < C.length → (knG C B B.length).getD k 0 = if k ∈ idx B then 0 else C.getD k 0 := fun k hk => by
    unfold knG
    rw [getD_map hk, List.take_length]
  refine ⟨by rw [knG_len]; exact hl, ?_, fun k hk => ?_, fun b hb => ?_, fun v hv => ?_, fun b hb => ?_⟩
  · have := bL_len N.tubes (fun k => (knG C B B.length).getD k 0) N.tubes.length N.many
    rw [List.length_map] at this
    exact this
  · by_cases hkl : k < C.length
    · rw [get k hkl, if_neg hk]
    · rw [getD_ge (by rw [knG_len]; omega), getD_ge (by omega)]
  · rw [List.drop_zero] at hb
    have hm : b.1 ∈ idx B := List.mem_map.mpr ⟨b, hb, rfl⟩
    obtain ⟨k, v, o⟩ := b
    obtain ⟨p, hp, _⟩ := hB.at_ k v o hb
    rw [get k (by rw [hl]; exact (List.getElem?_eq_some_iff.mp hp).1), if_pos hm]
  · unfold bL
    rw [getD_map hv]
    rfl
  · cases hb
theorem wR_set {ts : List Tube} {R : List Int} {k : Nat} {p : Tube} {a : Int} (hp : ts[k]? = some p) (hl : R.length = ts.length) (h0 : R.getD k 0 = 0) (g : Tube → Int) :
    wR ts (fun j => (R.set k a).getD j 0) g = wR ts (fun j => R.getD j 0) g + a * g p := by
  have hk := (List.getElem?_eq_some_iff.mp hp).1
  unfold wR
  have one := sum_map_one (l := List.range ts.length) (f := fun j => ((R.set k a).getD j 0 - R.getD j 0) * (ts[j]?).elim 0 g) (k := k) List.nodup_range (List.mem_range.mpr hk) fun j _ hjk => by
    rw [getD_set (by rw [hl]; exact hk), if_neg hjk, Int.sub_self, Int.zero_mul]
  have e : ((R.set k a).getD k 0 - R.getD k 0) * (ts[k]?).elim 0 g = a * g p := by
    rw [getD_set (by rw [hl]; exact hk), if_pos rfl, h0, Int.sub_zero, hp]
    rfl
  rw [e] at one
  rw [← one, ← sum_map_add]
  congr 1
  refine List.map_congr_left fun j _ => ?_
  show (R.set k a).getD j 0 * (ts[j]?).elim 0 g = R.getD j 0 * (ts[j]?).elim 0 g + ((R.set k a).getD j 0 - R.getD j 0) * (ts[j]?).elim 0 g
  rw [Int.sub_mul]
  omega
theorem CSt.step {N : Net} {B : List Br} {C : List Int} {i : Nat} {R L : List Int} (h : CSt N B C i R L) (hB : Twigs N.tubes B) {k v o : Nat} {p : Tube} (hb : B[i]? = some (k, v, o)) (hp : N.tubes[k]? = some p) (hv : v < N.many) (ho : o < N.many) (hvo : v ≠ o)
    (he : (p.s = v ∧ p.t = o) ∨ (p.s ≠ v ∧ p.t = v ∧ p.s = o)) :
    CSt N B C (i + 1) (R.set k (if p.s = v then L.getD v 0 else -(L.getD v 0))) ((L.set v 0).set o (L.getD o 0 + L.getD v 0)) := by
  have hk := (List.getElem?_eq_some_iff.mp hp).1
  have hil := (List.getElem?_eq_some_iff.mp hb).1
  have edrop : B.drop i = (k, v, o) :: B.drop (i + 1) := by
    rw [List.drop_eq_getElem_cons hil]
    congr 1
    exact (List.getElem?_eq_some_iff.mp hb).2
  have hk0 : R.getD k 0 = 0 := h.la (k, v, o) (by rw [edrop]; exact List.mem_cons_self)
  have hsplit : B = B.take i ++ (k, v, o) :: B.drop (i + 1) := by rw [← edrop, List.take_append_drop]
  have hlast := hB.last
  rw [hsplit] at hlast
  have hpre := (List.pairwise_append.mp hlast).2.2
  have gL : ∀ x, ((L.set v 0).set o (L.getD o 0 + L.getD v 0)).getD x 0 = if x = o then L.getD o 0 + L.getD v 0 else if x = v then 0 else L.getD x 0 := fun x => by
    rw [getD_set (by rw [List.length_set, h.ll]; exact ho), getD_set (by rw [h.ll]; exact hv)]
  refine ⟨by rw [List.length_set]; exact h.rl, by rw [List.length_set, List.length_set]; exact h.ll, fun j hj => ?_, fun b hb' => ?_, fun x hx => ?_, fun b hb' => ?_⟩
  · rw [getD_set (by rw [h.rl]; exact hk), if_neg]
    · exact h.cl j hj
    · rintro rfl
      exact hj (List.mem_map.mpr ⟨_, List.mem_of_getElem? hb, rfl⟩)
  · rw [getD_set (by rw [h.rl]; exact hk), if_neg]
    · exact h.la b (by rw [edrop]; exact List.mem_cons_of_mem _ hb')
    · intro e
      have nd := hB.nd
      rw [hsplit] at nd
      unfold idx at nd
      rw [List.map_append, List.map_cons] at nd
      have := (List.nodup_cons.mp (List.nodup_append.mp nd).2.1).1
      exact this (List.mem_map.mpr ⟨b, hb', e⟩)
  · rw [wR_set hp h.rl hk0, gL]
    have hx0 := h.ev x hx
    generalize wR N.tubes (fun j => R.getD j 0) (fun q => sgn x q.s q.t) = W at hx0
    generalize hc : L.getD v 0 = c at hx0
    rcases he with ⟨rfl, rfl⟩ | ⟨hs, rfl, rfl⟩
    · rw [if_pos rfl]
      unfold sgn
      by_cases x1 : x = p.t
      · subst x1
        rw [if_pos rfl, if_pos rfl, if_neg hvo]
        omega
      · rw [if_neg x1, if_neg (Ne.symm x1)]
        by_cases x2 : x = p.s
        · subst x2
          rw [if_pos rfl, if_pos rfl]
          rw [hc] at hx0
          omega
        · rw [if_neg x2, if_neg (Ne.symm x2)]
          omega
    · rw [if_neg hs]
      unfold sgn
      by_cases x1 : x = p.s
      · subst x1
        rw [if_pos rfl, if_neg hvo, if_pos rfl]
        omega
      · rw [if_neg x1, if_neg (Ne.symm x1)]
        by_cases x2 : x = p.t
        · subst x2
          rw [if_pos rfl, if_pos rfl]
          rw [hc] at hx0
          omega
        · rw [if_neg x2, if_neg (Ne.symm x2)]
          omega
  · rw [gL]
    rw [List.take_add_one, hb] at hb'
    rcases List.mem_append.mp hb' with z | z
    · have ne := hpre b z (k, v, o) List.mem_cons_self
      have n1 : v ≠ b.2.1 := ne.1
      have n2 : o ≠ b.2.1 := ne.2
      rw [if_neg (Ne.symm n2), if_neg (Ne.symm n1)]
      exact h.ze b z
    · have e : b = (k, v, o) := by simpa using z
      subst e
      rw [if_neg hvo, if_pos rfl]
/-- the residues of the first i branches brought below the modulus -/
noncomputable def mdL (R : List Int) (b : Int) (B : List Br) (i : Nat) : List Int := (List.range R.length).map fun k => if k ∈ idx (B.take i) then R.getD k 0 % b else R.getD k 0
theorem mdL_len (R : List Int) (b : Int) (B : List Br) (i : Nat) : (mdL R b B i).length = R.length := by
  unfold mdL
  rw [List.length_map, List.length_range]
theorem mdL_get {R : List Int} {b : Int} {B : List Br} {i k : Nat} (hk : k < R.length) : (mdL R b B i).getD k 0 = if k ∈ idx (B.take i) then R.getD k 0 % b else R.getD k 0 := by
  unfold mdL
  rw [getD_map hk]
theorem mdL_zero (R : List Int) (b : Int) (B : List Br) : mdL R b B 0 = R := by
  refine List.ext_getElem? fun k => ?_
  by_cases hk : k < R.length
  · unfold mdL
    rw [map_get hk, if_neg (by rw [List.take_zero]; exact List.not_mem_nil), List.getD_eq_getElem?_getD, List.getElem?_eq_getElem hk]
    rfl
  · rw [List.getElem?_eq_none (by rw [mdL_len]; omega), List.getElem?_eq_none (by omega)]
theorem mdL_at {R : List Int} {b : Int} {B : List Br} {i : Nat} {bb : Br} (nd : (idx B).Nodup) (h : B[i]? = some bb) (hk : bb.1 < R.length) : (mdL R b B i).getD bb.1 0 = R.getD bb.1 0 := by
  rw [mdL_get hk, if_neg]
  intro hm
  have hil := (List.getElem?_eq_some_iff.mp h).1
  have hsplit : B = B.take i ++ bb :: B.drop (i + 1) := by
    have e : B.drop i = bb :: B.drop (i + 1) := by
      rw [List.drop_eq_getElem_cons hil]
      congr 1
      exact (List.getElem?_eq_some_iff.mp h).2
    rw [← e, List.take_append_drop]
  rw [hsplit] at nd
  unfold idx at nd hm
  rw [List.map_append, List.map_cons] at nd
  exact (List.nodup_append.mp nd).2.2 _ hm _ List.mem_cons_self rfl
theorem mdL_step {R : List Int} {b : Int} {B : List Br} {i : Nat} {bb : Br} (h : B[i]? = some bb) (hk : bb.1 < R.length) : (mdL R b B i).set bb.1 (R.getD bb.1 0 % b) = mdL R b B (i + 1) := by
  refine List.ext_getElem? fun k => ?_
  by_cases hkl : k < R.length
  · unfold mdL
    rw [map_get hkl, take_idx h]
    by_cases e : k = bb.1
    · subst e
      rw [List.getElem?_set_self (by rw [List.length_map, List.length_range]; exact hkl), if_pos (by simp)]
    · rw [List.getElem?_set_ne (Ne.symm e), map_get hkl]
      simp only [List.mem_append, List.mem_singleton, e, or_false]
  · rw [List.getElem?_eq_none (by rw [List.length_set, mdL_len]; omega), List.getElem?_eq_none (by rw [mdL_len]; omega)]
theorem shown_range {b : Int} {n : Nat} {p : Tube} (ok : TubeOk b n p) (hb : 2 ≤ b) : 0 ≤ p.shown b ∧ p.shown b < b := by
  unfold Tube.shown
  cases h : p.me with
  | none => exact ⟨Int.emod_nonneg _ (by omega), Int.emod_lt_of_pos _ (by omega)⟩
  | some m => exact ok.me m h
theorem dvd_mod (b x : Int) : b ∣ x - x % b := ⟨x / b, by have := Int.emod_add_mul_ediv x b; omega⟩
theorem wR_dvd {ts : List Tube} {r s : Nat → Int} {g : Tube → Int} {b : Int} (h : ∀ k, k < ts.length → b ∣ r k - s k) : b ∣ wR ts r g - wR ts s g := by
  unfold wR
  refine dvd_sum fun k hk => ?_
  rw [← Int.sub_mul]
  exact Int.dvd_mul_of_dvd_left (h k (List.mem_range.mp hk))
theorem CSt.read {N : Net} {B : List Br} {R L : List Int} (h : CSt N B (N.tubes.map fun p => p.shown N.base) B.length R L) (ok : NetOk N) (hB : BrsOf N.tubes B) : Read N B (mdL R N.base B B.length) (L.map (· % N.base)) := by
  have b2 := ok.b2
  have g : ∀ v, (L.map (· % N.base)).getD v 0 = L.getD v 0 % N.base := fun v => by
    rw [List.getD_eq_getElem?_getD, List.getD_eq_getElem?_getD, List.getElem?_map]
    cases L[v]? with
    | none => exact (Int.zero_emod _).symm
    | some a => rfl
  have gm : ∀ k, k < N.tubes.length → (mdL R N.base B B.length).getD k 0 = if k ∈ idx B then R.getD k 0 % N.base else R.getD k 0 := fun k hk => by
    rw [mdL_get (by rw [h.rl]; exact hk), List.take_length]
  have gs : ∀ k p, N.tubes[k]? = some p → (N.tubes.map fun p => p.shown N.base).getD k 0 = p.shown N.base := fun k p hp => by
    rw [List.getD_eq_getElem?_getD, List.getElem?_map, hp]
    rfl
  refine ⟨by rw [mdL_len]; exact h.rl, by rw [List.length_map]; exact h.ll, fun k p hp hw => ?_, fun k hk => ?_, fun v _ => ?_, fun v hv => ?_, fun b hb => ?_⟩
  · have hk := (List.getElem?_eq_some_iff.mp hp).1
    have hn : k ∉ idx B := by
      intro hm
      obtain ⟨bb, hbb, e⟩ := List.mem_map.mp hm
      obtain ⟨k', v, o⟩ := bb
      obtain ⟨p', hp', hw', _⟩ := hB.at_ k' v o hbb
      have e' : k' = k := e
      subst e'
      have : p' = p := Option.some.inj (hp'.symm.trans hp)
      subst this
      exact hw hw'
    rw [gm k hk, if_neg hn, h.cl k hn, gs k p hp]
    unfold Tube.cl
    rw [if_neg hw]
  · rw [gm k hk]
    split
    · exact ⟨Int.emod_nonneg _ (by omega), Int.emod_lt_of_pos _ (by omega)⟩
    · rename_i hn
      rw [h.cl k hn, gs k _ (List.getElem?_eq_getElem hk)]
      exact shown_range (ok.ok _ (List.getElem_mem hk)) b2
  · rw [g]
    exact ⟨Int.emod_nonneg _ (by omega), Int.emod_lt_of_pos _ (by omega)⟩
  · rw [g, ← h.ev v hv]
    have h1 : N.base ∣ wR N.tubes (fun k => R.getD k 0) (fun q => sgn v q.s q.t) - wR N.tubes (fun k => (mdL R N.base B B.length).getD k 0) (fun q => sgn v q.s q.t) := wR_dvd fun k hk => by
      show N.base ∣ R.getD k 0 - (mdL R N.base B B.length).getD k 0
      rw [gm k hk]
      split
      · exact dvd_mod _ _
      · rw [Int.sub_self]
        exact Int.dvd_zero _
    have h2 := dvd_mod N.base (wR N.tubes (fun k => R.getD k 0) (fun q => sgn v q.s q.t))
    have e : ∀ a b c : Int, b - c = (a - c) - (a - b) := fun a b c => by omega
    rw [e (wR N.tubes (fun k => R.getD k 0) fun q => sgn v q.s q.t)]
    exact Int.dvd_sub h2 h1
  · rw [g, h.ze b (by rw [List.take_length]; exact hb)]
    exact Int.zero_emod _
end Wc

set_option Elab.async false
set_option linter.all false
set_option maxRecDepth 100000
namespace Wc
open PySem PySem.Spec PyProof.Rows L2
theorem ip_mod {X : Cx} : PIp X .Mod (rI (fun _ j => 0 < j) fun i j => .int (i % j)) := iop_mod
theorem But.keepT {kd : Addr} {H H' : Hp} {xs : List V} (h : But (· = kd) H H') (hk : H kd = some (.lst xs)) (hk' : ∃ ys, H' kd = some (.lst ys)) : KeepT H H' := fun b ys hr => by
  rcases hr with e | ⟨o, e⟩
  · have hne : ¬ b = kd := fun z => by
      rw [z, hk] at e
      cases e
    exact .inl (h b _ hne e)
  · have hne : ¬ b = kd := fun z => by
      rw [z, hk] at e
      cases e
    exact .inr ⟨o, h b _ hne e⟩
theorem brs_get {N : Net} (ok : NetOk N) {H : Hp} {B : List Br} {rs : List Addr} (hB : Twigs N.tubes B) (hrs : Paired (BrV H) rs B) {i : Nat} {x : V} (hx : (rs.map V.ref)[i]? = some x) :
    ∃ r k v o p, x = .ref r ∧ H r = some (.tup [natV k, natV v, natV o]) ∧ B[i]? = some (k, v, o) ∧ N.tubes[k]? = some p ∧ ((p.s = v ∧ p.t = o) ∨ (p.s ≠ v ∧ p.t = v ∧ p.s = o)) ∧ v < N.many ∧ o < N.many ∧ v ≠ o := by
  rw [List.getElem?_map] at hx
  cases hr1 : rs[i]? with
  | none => rw [hr1] at hx; cases hx
  | some r =>
    rw [hr1] at hx
    obtain ⟨bb, hbb, hbr⟩ := paired_get hrs hr1
    obtain ⟨k, v, o⟩ := bb
    obtain ⟨p, hp, he⟩ := hB.at_ k v o (List.mem_of_getElem? hbb)
    have e1 := ok.ends p (List.mem_of_getElem? hp)
    refine ⟨r, k, v, o, p, (Option.some.inj hx).symm, hbr, hbb, hp, ?_, ?_, ?_, ?_⟩
    · rcases he with ⟨a, c⟩ | ⟨a, c⟩
      · exact .inl ⟨a, c⟩
      · exact .inr ⟨by omega, a, c⟩
    all_goals rcases he with ⟨a, c⟩ | ⟨a, c⟩ <;> omega
section
variable {P : Program} {w : World} {K : PySem.W.Frag} {mg : Str → Option Value} {base : Heap}
abbrev s_carry_along : Stmt := top 22
theorem sc_carry_along : FnScope ["network", "branches", "counts", "index", "_", "left", "place", "other", "carried"] ["network", "branches", "counts"] (defScope s_carry_along) := ⟨rfl, rfl, rfl, by decide +kernel, rfl, by decide +kernel, by decide +kernel⟩
def sp_carry_along (K : PySem.W.Frag) : Sp := fun vs H Q _ => ∃ (na l kd : Addr) (N : Net) (B : List Br) (C : List Int), vs = [.ref na, .ref l, .ref kd] ∧ NetAt K H na N ∧ NetOk N ∧ BrsAt H l B ∧ Twigs N.tubes B ∧ l ≠ kd ∧ H kd = some (.lst (C.map V.int)) ∧ C.length = N.tubes.length ∧
  ∀ H' la R L, But (· = kd) H H' → H la = none → la ≠ kd → H' kd = some (.lst (R.map V.int)) → H' la = some (.lst (L.map V.int)) → CSt N B C B.length R L → Q (.ref la) H'
theorem has_carry_along (D : DefAt K mg "carry_along" s_carry_along ["network", "branches", "counts"]) (h_place_balances : Has P w K mg base "place_balances" 1 ["network", "counts"] (sp_place_balances K)) : Has P w K mg base "carry_along" 2 ["network", "branches", "counts"] (sp_carry_along K) := by
  refine D.ok sc_carry_along (fun vs H Q E h => ?_) (fun f cdv A outer s H vs Q E hr h => ?_)
  · obtain ⟨na, l, kd, N, B, C, rfl, _⟩ := h
    rfl
  · obtain ⟨na, l, kd, N, B, C, rfl, hN, ok, ⟨rs, hl, hrs⟩, hB, hlk, hkd, hCl, q⟩ := h
    obtain ⟨b, xs, ha, hb, hts⟩ := id hN
    have hxl : xs.length = N.tubes.length := Paired.length hts
    have hrl : rs.length = B.length := Paired.length hrs
    have hm := ok.m24
    have hlen := ok.len
    refine ⟨_, (pss_cons (ps_for PassesOwn.never rfl (pi_list (pv 1)) (pg_tup rfl (pgs_cons (pg_name (i := 3) sc_carry_along.nd rfl (.inl rfl)) (pgs_cons (pg_name (i := 4) sc_carry_along.nd rfl (.inl rfl)) (pgs_cons (pg_name (i := 4) sc_carry_along.nd rfl (.inl rfl)) pgs_nil)))) (pss_one (ps_asg pe_int (pg_sub (pv 2) (pv 3) set_list))))
      (pss_cons (ps_set (i := 5) sc_carry_along.nd rfl (.inl rfl) (pe_own h_place_balances (hr.mono (by decide)) (by rfl) (pa_cons (pv 0) (pa_cons (pv 2) pa_nil))))
      (pss_cons (ps_for PassesOwn.never rfl (pi_list (pv 1)) (pg_tup rfl (pgs_cons (pg_name (i := 3) sc_carry_along.nd rfl (.inl rfl)) (pgs_cons (pg_name (i := 6) sc_carry_along.nd rfl (.inl rfl)) (pgs_cons (pg_name (i := 7) sc_carry_along.nd rfl (.inl rfl)) pgs_nil)))) (pss_cons (ps_set (i := 8) sc_carry_along.nd rfl (.inl rfl) (pe_ix ix_list (pv 5) (pv 6) (fun _ _ => rfl)))
      (pss_cons (ps_asg pe_int (pg_sub (pv 5) (pv 6) set_list))
      (pss_cons (ps_augS (pv 5) (pv 7) get_list (pv 8) ip_add set_list)
      (pss_one (ps_asg (pe_ifExp (pt_cmpR op_eq (pe_ix ix_tup (pe_ix ix_tup (pe_ix ix_tup (pv 0) pe_int (fun _ _ => rfl)) (pv 3) (fun _ _ => rfl)) pe_int (fun _ _ => rfl)) (pv 6) (nomark _)) (pv 8) (pe_un un_neg (pv 8))) (pg_sub (pv 2) (pv 3) set_list)))))))
      (pss_one (ps_ret (pv 5)))))), ?_⟩
    have hrne : ∀ {r : Addr} {xs : List V}, H r = some (.tup xs) → ¬ r = kd := fun e z => by
      rw [z, hkd] at e
      cases e
    -- for index, _, _ in branches: counts[index] = 0
    refine ⟨_, rfl, l, rfl, ⟨_, SqL.of hl⟩, ?_⟩
    refine for_it walk_list (fun i σ H' => (∃ y3 y4, σ = [some (.ref na), some (.ref l), some (.ref kd), y3, y4, none, none, none, none]) ∧ But (· = kd) H H' ∧ H' kd = some (.lst ((knG C B i).map V.int)))
      ⟨⟨none, none, rfl⟩, But.refl _ H, by rw [knG_zero]; exact hkd⟩ (fun i σ H' _ h => SqL.of (h.2.1 _ _ hlk hl)) ?_ ?_
    · rintro i v σ H2 H3 hi ⟨⟨y3, y4, rfl⟩, s2, hk2⟩ ⟨rfl, hv⟩
      obtain ⟨r, k, v, o, p, rfl, hr1, hbb, hp, he, hvn, hon, hvo⟩ := brs_get ok hB hrs hv
      have hkl := (List.getElem?_eq_some_iff.mp hp).1
      refine ⟨r, _, rfl, SqT.of (s2 _ _ (hrne hr1) hr1), rfl, _, _, rfl, _, _, rfl, _, _, rfl, rfl, ?_⟩
      refine ⟨_, rfl, _, rfl, kd, _, (k : Int), k, rfl, rfl, hk2, ixN_nat (by rw [List.length_map, knG_len, hCl]; exact hkl), ?_⟩
      refine ⟨⟨_, _, rfl⟩, fun x u hx e => ?_, ?_⟩
      · rw [upd_ne hx]
        exact s2 _ _ hx e
      · rw [upd_same, ← knG_step hbb (by rw [hCl]; exact hkl), List.map_set]
    · rintro σ H2 ⟨⟨y3, y4, rfl⟩, s2, hk2⟩
      rw [List.length_map, hrl] at hk2
      have kt2 : KeepT H H2 := s2.keepT hkd ⟨_, hk2⟩
      -- left = place_balances(network, counts)
      refine ⟨_, rfl, _, rfl, na, kd, false, N, knG C B B.length, rfl, hN.keep kt2, ok, SqL.of hk2, by rw [knG_len]; exact hCl, fun H3 ld s23 hld hl3 => ?_⟩
      have s3 := s2.trans s23.but
      have hk3 := s23 _ _ hk2
      have nkl : kd ≠ ld := ne_of_none hk2 hld
      have hldH : H ld = none := by
        cases e : H ld with
        | none => rfl
        | some u =>
          have := s2 _ _ (Ne.symm nkl) e
          rw [hld] at this
          cases this
      have R0 := CSt.begin hCl hB
      generalize knG C B B.length = Ra at hk3 R0 hl3
      generalize bL N.tubes (fun k => Ra.getD k 0) N.tubes.length N.many = La at R0 hl3
      -- for index, place, other in branches
      refine ⟨_, rfl, l, rfl, ⟨_, SqL.of (s3 _ _ hlk hl)⟩, ?_⟩
      refine for_it walk_list (fun i σ H' => (∃ y3 y4 y6 y7 y8, σ = [some (.ref na), some (.ref l), some (.ref kd), y3, y4, some (.ref ld), y6, y7, y8]) ∧ But (· = kd) H H' ∧ ∃ R L, CSt N B C i R L ∧ H' kd = some (.lst (R.map V.int)) ∧ H' ld = some (.lst (L.map V.int)))
        ⟨⟨_, _, none, none, none, rfl⟩, s3, Ra, La, R0, hk3, hl3⟩ (fun i σ H' _ h => SqL.of (h.2.1 _ _ hlk hl)) ?_ ?_
      · rintro i v σ H4 H5 hi ⟨⟨y3, y4, y6, y7, y8, rfl⟩, s4, R, L, hR, hk4, hl4⟩ ⟨rfl, hv⟩
        obtain ⟨r, k, v, o, p, rfl, hr1, hbb, hp, he, hvn, hon, hvo⟩ := brs_get ok hB hrs hv
        have hkl := (List.getElem?_eq_some_iff.mp hp).1
        have hstep := hR.step hB hbb hp hvn hon hvo he
        have gL : ∀ x, x < N.many → (L.map V.int)[x]? = some (V.int (L.getD x 0)) := fun x hx => by
          rw [List.getElem?_map, List.getD_eq_getElem?_getD, List.getElem?_eq_getElem (by rw [hR.ll]; exact hx)]
          rfl
        have lenL : (L.map V.int).length = N.many := by rw [List.length_map, hR.ll]
        obtain ⟨x1, hx1⟩ : ∃ x1, xs[k]? = some x1 := ⟨xs[k]'(by omega), List.getElem?_eq_getElem (by omega)⟩
        obtain ⟨p', hp', a1, rfl, hpa⟩ := paired_get hts hx1
        have : p' = p := Option.some.inj (hp'.symm.trans hp)
        subst this
        refine ⟨r, _, rfl, SqT.of (s4 _ _ (hrne hr1) hr1), rfl, _, _, rfl, _, _, rfl, _, _, rfl, rfl, ?_⟩
        refine ⟨_, rfl, _, rfl, ld, _, (v : Int), _, rfl, rfl, SqL.of hl4, atI_nat (j := v) (gL v hvn), ?_⟩
        refine ⟨_, rfl, _, rfl, ld, _, (v : Int), v, rfl, rfl, hl4, ixN_nat (by rw [lenL]; exact hvn), ?_⟩
        refine ⟨_, rfl, _, rfl, ld, _, o, _, rfl, rfl, SqL.of upd_same, (by rw [List.getElem?_set_ne hvo]; exact gL o hon), _, rfl, _, _, rfl, rfl, ld, _, (o : Int), o, rfl, rfl, upd_same, ixN_nat (by rw [List.length_set, lenL]; exact hon), ?_⟩
        rw [upd_upd]
        have s6 : But (· = kd) H (upd H5 ld (.lst (((L.map V.int).set v (V.int 0)).set o (V.int (L.getD o 0 + L.getD v 0))))) := fun x u hx e => by
          rw [upd_ne (ne_of_none e hldH)]
          exact s4 _ _ hx e
        have hl6 : (upd H5 ld (.lst (((L.map V.int).set v (V.int 0)).set o (V.int (L.getD o 0 + L.getD v 0))))) ld = some (.lst (((L.set v 0).set o (L.getD o 0 + L.getD v 0)).map V.int)) := by
          rw [upd_same, List.map_set, List.map_set]
        have hk6 : (upd H5 ld (.lst (((L.map V.int).set v (V.int 0)).set o (V.int (L.getD o 0 + L.getD v 0))))) kd = some (.lst (R.map V.int)) := by
          rw [upd_ne nkl]
          exact hk4
        generalize upd H5 ld (.lst (((L.map V.int).set v (V.int 0)).set o (V.int (L.getD o 0 + L.getD v 0)))) = H6 at s6 hl6 hk6
        have kt6 : KeepT H H6 := s6.keepT hkd ⟨_, hk6⟩
        have ha6 := kt6.seq ha
        have hb6 := kt6.seq hb
        have hpa6 := kt6.seq hpa
        have fin : ∀ z : Int, z = (if p'.s = v then L.getD v 0 else -(L.getD v 0)) → But (· = kd) H (upd H6 kd (.lst ((R.map V.int).set k (.int z)))) ∧ ∃ R2 L2, CSt N B C (i + 1) R2 L2 ∧ (upd H6 kd (.lst ((R.map V.int).set k (.int z)))) kd = some (.lst (R2.map V.int)) ∧ (upd H6 kd (.lst ((R.map V.int).set k (.int z)))) ld = some (.lst (L2.map V.int)) := fun z hz => by
          subst hz
          refine ⟨fun x u hx e => ?_, _, _, hstep, ?_, ?_⟩
          · rw [upd_ne hx]
            exact s6 _ _ hx e
          · rw [upd_same, List.map_set]
          · rw [upd_ne nkl.symm]
            exact hl6
        have hkR : k < (R.map V.int).length := by
          rw [List.length_map, hR.rl]
          exact hkl
        refine ⟨_, rfl, na, _, 2, _, rfl, rfl, ha6, atI_nat (j := 2) rfl, _, rfl, b, _, (k : Int), _, rfl, rfl, hb6, atI_nat (j := k) hx1, a1, _, 0, _, rfl, rfl, hpa6, atI_nat (j := 0) rfl, _, rfl, rfl, _, rfl, ite2 (fun ev => ?_) (fun ev => ?_)⟩
        · have hs : p'.s = v := by
            have := V.int.inj (of_decide_eq_true ev)
            omega
          refine ⟨_, rfl, _, rfl, _, rfl, kd, _, (k : Int), k, rfl, rfl, hk6, ixN_nat hkR, ?_⟩
          exact ⟨⟨_, _, _, _, _, rfl⟩, fin _ (by rw [if_pos hs])⟩
        · have hs : ¬ p'.s = v := fun z => ev (decide_eq_true (by rw [z]; rfl))
          refine ⟨_, rfl, _, rfl, _, rfl, _, rfl, kd, _, (k : Int), k, rfl, rfl, hk6, ixN_nat hkR, ?_⟩
          exact ⟨⟨_, _, _, _, _, rfl⟩, fin _ (by rw [if_neg hs])⟩
      · rintro σ H4 ⟨⟨y3, y4, y6, y7, y8, rfl⟩, s4, R, L, hR, hk4, hl4⟩
        rw [List.length_map, hrl] at hR
        exact ⟨_, rfl, q H4 ld R L s4 hldH (Ne.symm nkl) hk4 hl4 hR⟩
abbrev s_read_meters : Stmt := top 23
theorem sc_read_meters : FnScope ["network", "branches", "modulus", "known", "pipe", "left", "index", "_", "rest"] ["network", "branches"] (defScope s_read_meters) := ⟨rfl, rfl, rfl, by decide +kernel, rfl, by decide +kernel, by decide +kernel⟩
def sp_read_meters (K : PySem.W.Frag) : Sp := fun vs H Q _ => ∃ (na l : Addr) (N : Net) (B : List Br), vs = [.ref na, .ref l] ∧ NetAt K H na N ∧ NetOk N ∧ BrsAt H l B ∧ BrsOf N.tubes B ∧
  ∀ H' t ka la R L, Same H H' → H t = none → H ka = none → H la = none → H' t = some (.tup [.ref ka, .ref la]) → H' ka = some (.lst (R.map V.int)) → H' la = some (.lst (L.map V.int)) → Read N B R L → Q (.ref t) H'
theorem has_read_meters (D : DefAt K mg "read_meters" s_read_meters ["network", "branches"]) (h_carry_along : Has P w K mg base "carry_along" 2 ["network", "branches", "counts"] (sp_carry_along K)) : Has P w K mg base "read_meters" 3 ["network", "branches"] (sp_read_meters K) := by
  refine D.ok sc_read_meters (fun vs H Q E h => ?_) (fun f cdv A outer s H vs Q E hr h => ?_)
  · obtain ⟨na, l, N, B, rfl, _⟩ := h
    rfl
  · obtain ⟨na, l, N, B, rfl, hN, ok, ⟨rs, hl, hrs⟩, hB, q⟩ := h
    obtain ⟨b, xs, ha, hb, hts⟩ := id hN
    have hxl : xs.length = N.tubes.length := Paired.length hts
    have hrl : rs.length = B.length := Paired.length hrs
    have hm := ok.m24
    have hb2 := ok.b2
    have hlen := ok.len
    refine ⟨_, (pss_cons (ps_set (i := 2) sc_read_meters.nd rfl (.inr rfl) (pe_ix ix_tup (pv 0) pe_int (fun _ _ => rfl)))
      (pss_cons (ps_setLc (i := 3) (own := [("pipe", 4)]) (g := gName 4) (tt := tYes) rfl sc_read_meters.nd rfl rfl (sw_true rfl rfl rfl (by decide +kernel)) (pi_tup (pe_ix ix_tup (pv 0) pe_int (fun _ _ => rfl))) (blkOk_by (N := ["network", "branches", "modulus", "known", "pipe", "left", "index", "_", "rest"]) (sc := defScope s_read_meters) (by decide +kernel)) (fun _ _ _ _ _ => (pg_name (i := 4) sc_read_meters.nd rfl (Or.inl rfl))) (fun _ _ _ _ _ => pts_nil) (fun _ _ _ _ _ => (pe_ifExp (pt_cmpR op_isN (pe_ix (ix_tupK K) (pv 4) pe_int (fun _ _ => rfl)) pe_non (nomark _)) (pe_op op_mod (pe_ix (ix_tupK K) (pv 4) pe_int (fun _ _ => rfl)) (pv 2)) (pe_ix (ix_tupK K) (pv 4) pe_int (fun _ _ => rfl)))))
      (pss_cons (ps_set (i := 5) sc_read_meters.nd rfl (.inl rfl) (pe_own h_carry_along (hr.mono (by decide)) (by rfl) (pa_cons (pv 0) (pa_cons (pv 1) (pa_cons (pv 3) pa_nil)))))
      (pss_cons (ps_for PassesOwn.never rfl (pi_list (pv 1)) (pg_tup rfl (pgs_cons (pg_name (i := 6) sc_read_meters.nd rfl (.inl rfl)) (pgs_cons (pg_name (i := 7) sc_read_meters.nd rfl (.inl rfl)) (pgs_cons (pg_name (i := 7) sc_read_meters.nd rfl (.inl rfl)) pgs_nil)))) (pss_one (ps_augS (pv 3) (pv 6) get_list (pv 2) ip_mod set_list)))
      (pss_one (ps_ret (pe_tup (pa_cons (pv 3) (pa_cons (pe_lc (own := [("rest", 8)]) (g := gName 8) (tt := tYes) rfl sc_read_meters.nd (pi_list (pv 5)) (blkOk_by (N := ["network", "branches", "modulus", "known", "pipe", "left", "index", "_", "rest"]) (sc := defScope s_read_meters) (by decide +kernel)) (fun _ _ _ _ _ => (pg_name (i := 8) sc_read_meters.nd rfl (Or.inl rfl))) (fun _ _ _ _ _ => pts_nil) (fun _ _ _ _ _ => (pe_op op_mod (pv 8) (pv 2)))) pa_nil))))))))), ?_⟩
    -- modulus = network[0]; known = [..]
    refine ⟨_, rfl, na, _, 0, _, rfl, rfl, ha, atI_nat (j := 0) rfl, ?_⟩
    refine ⟨_, rfl, na, _, 2, _, rfl, rfl, ha, atI_nat (j := 2) rfl, b, rfl, ⟨_, hb⟩, fun kd hkd => ?_⟩
    refine lc_it walk_tup (fun i H' => Same H H' ∧ H' kd = some (.lst (((N.tubes.take i).map fun p => p.shown N.base).map V.int))) ⟨same_upd hkd, upd_same⟩ (fun i H' _ ⟨s2, _⟩ => s2.keepT.seq hb) ?_ ?_
    · rintro i v H2 H3 hi ⟨s2, hacc⟩ ⟨rfl, hv⟩
      obtain ⟨p, hp, a1, rfl, hpa⟩ := paired_get hts hv
      have hpa2 := s2.keepT.seq hpa
      have htk : N.tubes.take (i + 1) = N.tubes.take i ++ [p] := by
        rw [List.take_add_one, hp]
        rfl
      have fin : ∃ acc, H3 kd = some (.lst acc) ∧ acc.length < sizeLine ∧ Same H (upd H3 kd (.lst (acc ++ [.int (p.shown N.base)]))) ∧ (upd H3 kd (.lst (acc ++ [.int (p.shown N.base)]))) kd = some (.lst (((N.tubes.take (i + 1)).map fun p => p.shown N.base).map V.int)) := by
        refine ⟨_, hacc, small1000 (by rw [List.length_map, List.length_map, List.length_take]; omega), fun x o e => ?_, ?_⟩
        · rw [upd_ne (ne_of_none e hkd)]
          exact s2 _ _ e
        · rw [upd_same, htk, List.map_append, List.map_append]
          rfl
      refine ⟨rfl, _, rfl, a1, _, 4, _, rfl, rfl, hpa2, atI_nat (j := 4) rfl, rfl, ?_⟩
      unfold Tube.shown at fin
      cases hme : p.me with
      | none =>
        rw [hme] at fin
        exact ⟨_, rfl, iteT ⟨_, rfl, a1, _, 2, _, rfl, rfl, hpa2, atI_nat (j := 2) rfl, _, rfl, _, _, rfl, rfl, by omega, fin⟩⟩
      | some m =>
        rw [hme] at fin
        exact ⟨_, rfl, iteF ⟨_, rfl, a1, _, 4, _, rfl, rfl, hpa2, atI_nat (j := 4) (by unfold Tube.vs; rw [hme]; rfl), fin⟩⟩
    rintro H1 ⟨s1, hk1⟩
    rw [hxl, List.take_length] at hk1
    have nlk : l ≠ kd := ne_of_none hl hkd
    -- left = carry_along(network, branches, known)
    refine ⟨_, rfl, _, rfl, _, rfl, na, l, kd, N, B, N.tubes.map (fun p => p.shown N.base), rfl, hN.keep s1.keepT, ok, ⟨rs, s1 _ _ hl, Paired.mapP hrs fun _ _ h => s1 _ _ h⟩, hB.twigs, nlk, hk1, by rw [List.length_map], fun H2 la R L s12 hla hlk hk2 hl2 hC => ?_⟩
    have hlaH : H la = none := s1.free hla
    have hread := hC.read ok hB
    have hRl := hC.rl
    have hLl := hC.ll
    have s2 : Same H H2 := fun x u e => s12 _ _ (ne_of_none e hkd) (s1 _ _ e)
    -- for index, _, _ in branches: known[index] %= modulus
    refine ⟨_, rfl, l, rfl, ⟨_, SqL.of (s2 _ _ hl)⟩, ?_⟩
    refine for_it walk_list (fun i σ H' => (∃ y6 y7, σ = [some (.ref na), some (.ref l), some (.int N.base), some (.ref kd), none, some (.ref la), y6, y7, none]) ∧ Same H H' ∧ H' kd = some (.lst ((mdL R N.base B i).map V.int)) ∧ H' la = some (.lst (L.map V.int)))
      ⟨⟨none, none, rfl⟩, s2, by rw [mdL_zero]; exact hk2, hl2⟩ (fun i σ H' _ h => SqL.of (h.2.1 _ _ hl)) ?_ ?_
    · rintro i v σ H3 H4 hi ⟨⟨y6, y7, rfl⟩, s3, hk3, hl3⟩ ⟨rfl, hv⟩
      obtain ⟨r, k, v, o, p, rfl, hr1, hbb, hp, he, hvn, hon, hvo⟩ := brs_get ok hB.twigs hrs hv
      have hkl : k < R.length := by
        rw [hRl]
        exact (List.getElem?_eq_some_iff.mp hp).1
      refine ⟨r, _, rfl, SqT.of (s3 _ _ hr1), rfl, _, _, rfl, _, _, rfl, _, _, rfl, rfl, ?_⟩
      have gk : ((mdL R N.base B i).map V.int)[k]? = some (V.int (R.getD k 0)) := by
        rw [← mdL_at hB.nd hbb hkl, List.getElem?_map, List.getD_eq_getElem?_getD, List.getElem?_eq_getElem (by rw [mdL_len]; exact hkl)]
        rfl
      refine ⟨_, rfl, _, rfl, kd, _, k, _, rfl, rfl, SqL.of hk3, gk, _, rfl, _, _, rfl, rfl, (by show (0 : Int) < N.base; omega), kd, _, (k : Int), k, rfl, rfl, hk3, ixN_nat (by rw [List.length_map, mdL_len]; exact hkl), ?_⟩
      refine ⟨⟨_, _, rfl⟩, fun x u e => ?_, ?_, ?_⟩
      · rw [upd_ne (ne_of_none e hkd)]
        exact s3 _ _ e
      · rw [upd_same, ← mdL_step hbb hkl, List.map_set]
      · rw [upd_ne hlk]
        exact hl3
    · rintro σ H3 ⟨⟨y6, y7, rfl⟩, s3, hk3, hl3⟩
      rw [List.length_map, hrl] at hk3
      refine ⟨_, rfl, _, rfl, la, rfl, ⟨_, SqL.of hl3⟩, fun md hmd => ?_⟩
      refine lc_it (walk_list (xs := L.map V.int)) (fun i H' => Same H3 H' ∧ H' md = some (.lst (((L.take i).map (· % N.base)).map V.int))) ⟨same_upd hmd, upd_same⟩ (fun i H' _ ⟨s5, _⟩ => SqL.of (s5 _ _ hl3)) ?_ ?_
      · rintro i v H5 H6 hi ⟨s5, hacc⟩ ⟨rfl, hv⟩
        rw [List.length_map] at hi
        have hv2 : (L.map V.int)[i]? = some v := hv
        rw [List.getElem?_map, List.getElem?_eq_getElem hi] at hv2
        have ev : V.int L[i] = v := Option.some.inj hv2
        subst ev
        have hL24 : L.length ≤ 24 := by rw [hLl]; exact hm
        have htk : L.take (i + 1) = L.take i ++ [L[i]] := by
          rw [List.take_add_one, List.getElem?_eq_getElem hi]
          rfl
        refine ⟨rfl, _, rfl, _, rfl, _, _, rfl, rfl, by omega, _, hacc, small1000 (by rw [List.length_map, List.length_map, List.length_take]; omega), fun x o e => ?_, ?_⟩
        · rw [upd_ne (ne_of_none e hmd)]
          exact s5 _ _ e
        · rw [upd_same, htk, List.map_append, List.map_append]
          rfl
      · rintro H5 ⟨s5, hacc⟩
        rw [List.length_map, List.take_length] at hacc
        refine ⟨(by show 2 ≤ sizeLine; decide), fun t ht => ?_⟩
        have s6 := s5.trans (same_upd (o := .tup [.ref kd, .ref md]) ht)
        have nm : md ≠ t := ne_of_none hacc ht
        refine q _ t kd md _ _ (s3.trans s6) ((s3.trans s5).free ht) hkd (s3.free hmd) upd_same (s6 _ _ hk3) ?_ hread
        rw [upd_ne nm]
        exact hacc
end
end Wc

set_option Elab.async false
set_option linter.all false
set_option maxRecDepth 100000
/-! A def called by keywords alone. -/
namespace Wc
open PySem PySem.Spec PyProof PyProof.Rows L2
/-- a def that is called by keywords alone, as its callers see it -/
def HasK (P : Program) (w : World) (K : PySem.W.Frag) (mg : Str → Option Value) (base : Heap) (x : Str) (k : Nat) (ps ks : List Str) (sp : Sp) : Prop :=
  ∃ (f : Addr) (fd : FuncData), mg x = some (.ref f) ∧ PySem.W.keepIn K (.ref f) = true ∧ KBn K fd ps 0 ks (fun _ ws => ws) (fun _ zs => zs) ∧ FnOk P w K mg base CX0 k f fd ps sp
def tByKw (n : Nat) (sp : Sp) (tk : TA) : TE := fun σ H Q => tk σ H fun zs H1 => zs.length = n ∧ sp zs H1 Q E0
theorem pe_ownK {X : Cx} {x : Str} {k : Nat} {ps ks : List Str} {sp : Sp} {p pos : Pos} {kws : List Keyword} {tk : TA} (F : HasK X.prog X.w X.K X.mg X.base x k ps ks sp) (hr : Room k X.A) (hg : Gl X x) (ha : PK X kws tk)
    (all : ((backToKw pos (keywordEach kws X.env)).all fun x => x.fst.isSome) = true := by rfl)
    (names : List.filterMap (fun x => x.fst) (backToKw pos (keywordEach kws X.env)) = ks := by rfl)
    (nodebug : (x == ("__debug__" : Str)) = false := by decide)
    (plain : (((backTo pos (starEach [] X.env)).any fun x => x.fst) || (backToKw pos (keywordEach kws X.env)).any fun x => x.fst.isNone) = false := by rfl) :
    PE X (.Call (.Name x p) [] kws pos) (tByKw ks.length sp tk) := by
  obtain ⟨f, fd, hm, hk, hb, F⟩ := F
  refine ⟨fun pins s σ H Q I h => ?_⟩
  refine wpAny_Call_Name_kw (ld_glob I hg hm (W.callWith_KW0 I.ok.mod.kin hk all ?_ plain) nodebug)
  refine thn (ha.run pos pins s σ H (fun zs H1 => zs.length = ks.length ∧ sp zs H1 Q E0) I h) fun ws s1 ⟨zs, H1, I1, rz, hl, q⟩ => ⟨I1.kIn, ?_⟩
  rw [names]
  exact run_fnN F hr hb pass0 I1 (show Vals [] [] from .nil) rz rfl hl q
end Wc

set_option Elab.async false
set_option linter.all false
set_option maxRecDepth 100000
namespace Wc
open PySem PySem.Spec PyProof.Rows L2
/-- groups with their sums -/
def PairsAt (H : Hp) (N : Net) (ps : List Addr) (xs : List Nat) : Prop :=
  Paired (fun p x => ∃ g, H p = some (.tup [.ref g, .int (N.total (comp (OEdge N.tubes none) N.many x))]) ∧ H g = some (.tup ((comp (OEdge N.tubes none) N.many x).map natV))) ps xs
/-- groups with what is left over there -/
def PairsL (H : Hp) (N : Net) (L : List Int) (ps : List Addr) (xs : List Nat) : Prop :=
  Paired (fun p x => ∃ g, H p = some (.tup [.ref g, .int (sumR L (comp (OEdge N.tubes none) N.many x))]) ∧ H g = some (.tup ((comp (OEdge N.tubes none) N.many x).map natV))) ps xs
def lcScope : List Stmt → Scope
  | [.Return (some (.Call _ [.ListComp _ _ sc _] _ _)) _] => sc
  | _ => { kind := .function, names := [], isGenerator := false, isCoroutine := false }
/-- the scope of a comprehension as it stands in its def -/
def lcIn (outer fs : Scope) : Scope := { outer with names := outer.names.map fun (n, k) => if (k == .free && fs.kind == .function && fs.names.lookup n == some .cell) then (n, .cell) else (n, k) }
section
variable {P : Program} {w : World} {K : PySem.W.Frag} {mg : Str → Option Value} {base : Heap}
abbrev s_find_sums : Stmt := top 24
theorem sc_find_sums : FnScope ["network", "branches", "left", "place", "group"] ["network", "branches", "left"] (defScope s_find_sums) := ⟨rfl, rfl, rfl, by decide +kernel, rfl, by decide +kernel, by decide +kernel⟩
def sp_find_sums0 (K : PySem.W.Frag) : Sp := fun vs H Q _ => ∃ (na l la : Addr) (N : Net) (B : List Br) (L : List Int), vs = [.ref na, .ref l, .ref la] ∧ NetAt K H na N ∧ NetOk N ∧ BrsAt H l B ∧ BrsOf N.tubes B ∧ H la = some (.lst (L.map V.int)) ∧ L.length = N.many ∧
  ∀ H' t ps, Same H H' → H t = none → H' t = some (.tup (ps.map V.ref)) → PairsL H' N L ps (firsts (OEdge N.tubes none) N.many) → Q (.ref t) H'
theorem has_find_sums (D : DefAt K mg "find_sums" s_find_sums ["network", "branches", "left"]) (T : Blt mg) (h_find_groups : Has P w K mg base "find_groups" 1 ["places", "branches"] (sp_find_groups K)) : Has P w K mg base "find_sums" 2 ["network", "branches", "left"] (sp_find_sums0 K) := by
  refine D.ok sc_find_sums (fun vs H Q E h => ?_) (fun f cdv A outer s H vs Q E hr h => ?_)
  · obtain ⟨na, l, la, N, B, L, rfl, _⟩ := h
    rfl
  · obtain ⟨na, l, la, N, B, L, rfl, hN, ok, hBA, hB, hla, hLl, q⟩ := h
    obtain ⟨b, xs, ha, hb, hts⟩ := id hN
    have hm := ok.m24
    refine ⟨_, (pss_one (ps_ret (pe_callTy call_tuple_of (by rfl) T.b_tuple (by decide +kernel) (pa_cons (pe_lc (own := [("group", 4)]) (g := gName 4) (tt := tYes) rfl sc_find_sums.nd (pi_tup (pe_own h_find_groups (hr.mono (by decide)) (by rfl) (pa_cons (pe_ix ix_tup (pv 0) pe_int (fun _ _ => rfl)) (pa_cons (pv 1) pa_nil)))) (blkOk_by (N := ["network", "branches", "left", "place", "group"]) (sc := defScope s_find_sums) (by decide +kernel)) (fun _ _ _ _ _ => (pg_name (i := 4) sc_find_sums.nd rfl (Or.inl rfl))) (fun _ _ _ _ _ => pts_nil) (fun _ _ _ _ _ => (pe_tup (pa_cons (pv 4) (pa_cons (pe_callB (sumK K rfl) (by rfl) T.b_sum (by decide +kernel) (pa_cons (pe_lc (own := [("place", 3)]) (g := gName 3) (tt := tYes) rfl sc_find_sums.nd (pi_tupK K (pv 4)) (blkOk_by (N := ["network", "branches", "left", "place", "group"]) (sc := lcIn (lcScope (defBody s_find_sums)) (defScope s_find_sums)) (by decide +kernel)) (fun _ _ _ _ _ => (pg_name (i := 3) sc_find_sums.nd rfl (Or.inl rfl))) (fun _ _ _ _ _ => pts_nil) (fun _ _ _ _ _ => (pe_ix (ix_listK K) (pv 2) (pv 3) (fun _ _ => rfl)))) pa_nil)) pa_nil))))) pa_nil)))), ?_⟩
    refine ⟨_, rfl, na, _, 1, _, rfl, rfl, ha, atI_nat (j := 1) rfl, _, rfl, N.many, l, N.tubes, B, rfl, hBA, hB, ok.ends, hm, ok.len, fun H2 a gs s2 ha2 hgs hG => ⟨a, rfl, ⟨_, SqT.of hgs⟩, fun D1 hD1 => ?_⟩⟩
    have hfl : (firsts (OEdge N.tubes none) N.many).length ≤ N.many := by
      have h2 : (firsts (OEdge N.tubes none) N.many).length ≤ (List.range N.many).length := List.length_filter_le _ _
      rw [List.length_range] at h2
      exact h2
    have hgl : gs.length = (firsts (OEdge N.tubes none) N.many).length := Paired.length hG
    have hla2 := s2 _ _ hla
    refine lc_it (walk_tup (xs := gs.map V.ref)) (fun i H' => Same H2 H' ∧ ∃ ps, H' D1 = some (.lst (ps.map V.ref)) ∧ ps.length = i ∧ PairsL H' N L ps ((firsts (OEdge N.tubes none) N.many).take i))
      ⟨same_upd hD1, [], upd_same, rfl, .nil⟩ (fun i H' _ ⟨s3, _⟩ => s3.keepT.seq (SqT.of hgs)) ?_ ?_
    · rintro i v H3 H4 hi ⟨s3, ps, hps, hpl, hP⟩ ⟨rfl, hv⟩
      have hil : i < gs.length := by rw [List.length_map] at hi; exact hi
      have hgi : gs[i]? = some gs[i] := List.getElem?_eq_getElem hil
      generalize gs[i] = g at hgi
      have hv2 : (gs.map V.ref)[i]? = some v := hv
      rw [List.getElem?_map, hgi] at hv2
      have ev : V.ref g = v := Option.some.inj hv2
      subst ev
      obtain ⟨x, hx, hgx⟩ := paired_get hG hgi
      have hg3 := s3 _ _ hgx
      have htk : (firsts (OEdge N.tubes none) N.many).take (i + 1) = (firsts (OEdge N.tubes none) N.many).take i ++ [x] := by
        rw [List.take_add_one, hx]
        rfl
      have hcl := comp_len (OEdge N.tubes none) N.many x
      refine ⟨rfl, _, rfl, _, rfl, g, rfl, ⟨_, SqT.of hg3⟩, fun D2 hD2 => ?_⟩
      refine lc_it (walk_tup (xs := (comp (OEdge N.tubes none) N.many x).map natV)) (fun j H' => Same H4 H' ∧ H' D2 = some (.lst (((comp (OEdge N.tubes none) N.many x).take j).map fun k => V.int (L.getD k 0))))
        ⟨same_upd hD2, upd_same⟩ (fun j H' _ ⟨s5, _⟩ => SqT.of (s5 _ _ hg3)) ?_ ?_
      · rintro j v H5 H6 hj ⟨s5, hacc⟩ ⟨rfl, hv⟩
        rw [List.length_map] at hj
        have hgj : (comp (OEdge N.tubes none) N.many x)[j]? = some (comp (OEdge N.tubes none) N.many x)[j] := List.getElem?_eq_getElem hj
        have hmem := mem_comp.mp (List.getElem_mem hj)
        have htj : (comp (OEdge N.tubes none) N.many x).take (j + 1) = (comp (OEdge N.tubes none) N.many x).take j ++ [(comp (OEdge N.tubes none) N.many x)[j]] := by
          rw [List.take_add_one, hgj]
          rfl
        generalize (comp (OEdge N.tubes none) N.many x)[j] = k at hgj hmem htj
        have hv2 : ((comp (OEdge N.tubes none) N.many x).map natV)[j]? = some v := hv
        rw [List.getElem?_map, hgj] at hv2
        have ev : natV k = v := Option.some.inj hv2
        subst ev
        have hget : (L.map V.int)[k]? = some (.int (L.getD k 0)) := by
          rw [List.getElem?_map, List.getD_eq_getElem?_getD, List.getElem?_eq_getElem (by rw [hLl]; exact hmem.1)]
          rfl
        refine ⟨rfl, _, rfl, _, rfl, la, _, (k : Int), _, rfl, rfl, SqL.of (s5 _ _ (s3 _ _ hla2)), atI_nat (j := k) hget, _, hacc, small1000 (by rw [List.length_map, List.length_take]; omega), fun x o e => ?_, ?_⟩
        · rw [upd_ne (ne_of_none e hD2)]
          exact s5 _ _ e
        · rw [upd_same, htj, List.map_append]
          rfl
      · rintro H5 ⟨s5, hacc⟩
        have nums : ((comp (OEdge N.tubes none) N.many x).map fun k => V.int (L.getD k 0)) = ((comp (OEdge N.tubes none) N.many x).map fun k => L.getD k 0).map V.int := by
          rw [List.map_map]
          rfl
        rw [List.length_map, List.take_length, nums] at hacc
        refine ⟨D2, _, rfl, SqL.of hacc, (by show 2 ≤ sizeLine; decide), fun tp htp => ?_⟩
        have s6 := same_upd (o := .tup [.ref g, .int (sumR L (comp (OEdge N.tubes none) N.many x))]) htp
        have hps6 := s6 _ _ (s5 _ _ hps)
        have s36 := s5.trans s6
        refine ⟨_, hps6, small1000 (by rw [List.length_map]; omega), fun y o e => ?_, ps ++ [tp], ?_, ?_, ?_⟩
        · rw [upd_ne (ne_of_none e hD1)]
          exact s36 _ _ (s3 _ _ e)
        · rw [upd_same, List.map_append]
          rfl
        · rw [List.length_append, hpl]
          rfl
        · rw [htk]
          have nt : tp ≠ D1 := fun z => by
            rw [z, s5 _ _ hps] at htp
            cases htp
          have keep : ∀ y o, y ≠ D1 → H4 y = some o → (upd (upd H5 tp (.tup [.ref g, .int (sumR L (comp (OEdge N.tubes none) N.many x))])) D1 (.lst (ps.map V.ref ++ [.ref tp]))) y = some o := fun y o hy e => by
            rw [upd_ne hy]
            exact s36 _ _ e
          refine Paired.snoc (Paired.mapP hP fun p' x' ⟨g', h1, h2⟩ => ⟨g', keep _ _ (fun z => by rw [z, hps] at h1; cases h1) h1, keep _ _ (fun z => by rw [z, hps] at h2; cases h2) h2⟩) ⟨g, ?_, keep _ _ (fun z => by rw [z, hps] at hg3; cases hg3) hg3⟩
          rw [upd_ne nt, upd_same]
          rfl
    · rintro H3 ⟨s3, ps, hps, hpl, hP⟩
      rw [List.length_map, hgl, List.take_length] at hP
      refine ⟨D1, _, rfl, .inl ⟨SqL.of hps, fun l hl => ?_⟩⟩
      have s4 := s2.trans s3
      exact q _ l ps (s4.trans (same_upd hl)) (s4.free hl) upd_same (Paired.mapP hP fun p' x' ⟨g', h1, h2⟩ => ⟨g', same_upd hl _ _ h1, same_upd hl _ _ h2⟩)
theorem BrsAt.same {H H' : Hp} {l : Addr} {B : List Br} (s : Same H H') (h : BrsAt H l B) : BrsAt H' l B := by
  obtain ⟨rs, h1, h2⟩ := h
  exact ⟨rs, s _ _ h1, Paired.mapP h2 fun r b e => s _ _ e⟩
theorem PairsL.sums {H : Hp} {N : Net} {B : List Br} {R L : List Int} (hr : Read N B R L) (ok : NetOk N) (hB : BrsOf N.tubes B) {ps : List Addr} {xs : List Nat} (h : PairsL H N L ps xs) : PairsAt H N ps xs :=
  Paired.mapP h fun p x ⟨g, h1, h2⟩ => ⟨g, by rw [← hr.group ok hB]; exact h1, h2⟩
end
end Wc

set_option Elab.async false
set_option linter.all false
set_option maxRecDepth 100000
namespace Wc
open PySem PySem.Spec PyProof.Rows L2
section
variable {P : Program} {w : World} {K : PySem.W.Frag} {mg : Str → Option Value} {base : Heap}
abbrev s_checked_residues : Stmt := top 25
theorem sc_checked_residues : FnScope ["network", "branches", "known", "left", "wrong", "group", "total"] ["network", "branches"] (defScope s_checked_residues) := ⟨rfl, rfl, rfl, by decide +kernel, rfl, by decide +kernel, by decide +kernel⟩
def sp_checked_residues (K : PySem.W.Frag) : Sp := fun vs H Q _ => ∃ (na l : Addr) (N : Net) (B : List Br), vs = [.ref na, .ref l] ∧ NetAt K H na N ∧ NetOk N ∧ BrsAt H l B ∧ BrsOf N.tubes B ∧ Calm N ∧
  ∀ H' ka, Same H H' → H ka = none → H' ka = some (.lst ((N.resL N.tubes.length).map V.int)) → Q (.ref ka) H'
theorem has_checked_residues (D : DefAt K mg "checked_residues" s_checked_residues ["network", "branches"]) (T : Blt mg) (h_read_meters : Has P w K mg base "read_meters" 3 ["network", "branches"] (sp_read_meters K)) (h_find_sums : Has P w K mg base "find_sums" 2 ["network", "branches", "left"] (sp_find_sums0 K)) :
    Has P w K mg base "checked_residues" 4 ["network", "branches"] (sp_checked_residues K) := by
  refine D.ok sc_checked_residues (fun vs H Q E h => ?_) (fun f cdv A outer s H vs Q E hr h => ?_)
  · obtain ⟨na, l, N, B, rfl, _⟩ := h
    rfl
  · obtain ⟨na, l, N, B, rfl, hN, ok, hBA, hB, calm, q⟩ := h
    refine ⟨_, (pss_cons (ps_asg (pe_own h_read_meters (hr.mono (by decide)) (by rfl) (pa_cons (pv 0) (pa_cons (pv 1) pa_nil))) (pg_tup rfl (pgs_cons (pg_name (i := 2) sc_checked_residues.nd rfl (.inl rfl)) (pgs_cons (pg_name (i := 3) sc_checked_residues.nd rfl (.inl rfl)) pgs_nil))))
      (pss_cons (ps_if (pt_val (pe_callB (cr_anyI rfl) (by rfl) T.b_any (by decide +kernel) (pa_cons (pv 3) pa_nil))) (pss_cons (ps_setLc (i := 4) (own := [("group", 5), ("total", 6)]) (g := gTup K 2 (gCons (gName 5) (gCons (gName 6) gNil))) rfl sc_checked_residues.nd rfl rfl (sw_true rfl rfl rfl (by decide +kernel)) (pi_tup (pe_own h_find_sums (hr.mono (by decide)) (by rfl) (pa_cons (pv 0) (pa_cons (pv 1) (pa_cons (pv 3) pa_nil))))) (blkOk_by (N := ["network", "branches", "known", "left", "wrong", "group", "total"]) (sc := defScope s_checked_residues) (by decide +kernel)) (fun _ _ _ _ _ => (pg_tupK K 2 rfl (pgs_cons (pg_name (i := 5) sc_checked_residues.nd rfl (Or.inl rfl)) (pgs_cons (pg_name (i := 6) sc_checked_residues.nd rfl (Or.inl rfl)) pgs_nil)))) (fun _ _ _ _ _ => (pts_one (pt_cmpR op_ne (pv 6) pe_int (nomark _)))) (fun _ _ _ _ _ => (pv 5)))
      (pss_one ps_never)) pss_nil)
      (pss_one (ps_ret (pv 2))))), ?_⟩
    refine ⟨_, rfl, _, rfl, na, l, N, B, rfl, hN, ok, hBA, hB, fun H2 t ka la R L s2 ht hka hla ht2 hk2 hl2 hread => ?_⟩
    refine ⟨t, _, rfl, SqT.of ht2, rfl, _, _, rfl, _, _, rfl, rfl, ?_⟩
    have hz := hread.calm ok hB calm
    have hany : (L.any fun i => i != 0) = false := by
      rw [List.any_eq_false]
      intro x hx
      obtain ⟨v, hv, e⟩ := List.getElem_of_mem hx
      have h0 := hz v (by rw [← hread.ll]; exact hv)
      rw [List.getD_eq_getElem?_getD, List.getElem?_eq_getElem hv] at h0
      have : x = 0 := by
        rw [← e]
        exact h0
      simp [this]
    have hR := hread.res ok hB calm
    refine ⟨_, rfl, la, L, rfl, SqL.of hl2, _, rfl, ?_⟩
    rw [hany]
    exact iteF ⟨_, rfl, q H2 ka s2 hka (by rw [← hR]; exact hk2)⟩
end
end Wc

set_option Elab.async false
set_option linter.all false
set_option maxRecDepth 100000
/-! repr of data that may hold dicts with int and text keys. -/
namespace Wc
open PySem PySem.Spec PyProof PyProof.Rows L2
def keyD : Key → PyData
  | .inl i => .int i
  | .inr x => .str x
mutual
inductive DpX (K : PySem.W.Frag) (H : Hp) : V → PyData → Prop
  | non : DpX K H .non .none
  | bl (b : Bool) : DpX K H (.bl b) (.bool b)
  | int (i : Int) : DpX K H (.int i) (.int i)
  | str (x : Str) : DpX K H (.str x) (.str x)
  | lst {a : Addr} {xs : List V} {ds : List PyData} : SqL K H a xs → DpXs K H xs ds → DpX K H (.ref a) (.list ds)
  | tup {a : Addr} {xs : List V} {ds : List PyData} : SqT K H a xs → DpXs K H xs ds → DpX K H (.ref a) (.tuple ds)
  | dk {a : Addr} {kvs : List (Key × V)} {qs : List (PyData × PyData)} : Rd H a (.dK kvs) → qs.map (·.1) = kvs.map (fun p => keyD p.1) → DpXs K H (kvs.map (·.2)) (qs.map (·.2)) → DpX K H (.ref a) (.dict qs)
inductive DpXs (K : PySem.W.Frag) (H : Hp) : List V → List PyData → Prop
  | nil : DpXs K H [] []
  | cons {v : V} {vs : List V} {d : PyData} {ds : List PyData} : DpX K H v d → DpXs K H vs ds → DpXs K H (v :: vs) (d :: ds)
end
mutual
theorem DpX.of {K : PySem.W.Frag} {H : Hp} : ∀ {v : V} {d : PyData}, Dp K H v d → DpX K H v d
  | _, _, .non => .non
  | _, _, .bl b => .bl b
  | _, _, .int i => .int i
  | _, _, .str x => .str x
  | _, _, .lst h ha => .lst h (DpXs.of ha)
  | _, _, .tup h ha => .tup h (DpXs.of ha)
theorem DpXs.of {K : PySem.W.Frag} {H : Hp} : ∀ {vs : List V} {ds : List PyData}, DpAll K H vs ds → DpXs K H vs ds
  | _, _, .nil => .nil
  | _, _, .cons h ha => .cons (DpX.of h) (DpXs.of ha)
end
mutual
theorem DpX.same {K : PySem.W.Frag} {H H' : Hp} (s : Same H H') : ∀ {v : V} {d : PyData}, DpX K H v d → DpX K H' v d
  | _, _, .non => .non
  | _, _, .bl b => .bl b
  | _, _, .int i => .int i
  | _, _, .str x => .str x
  | _, _, .lst h ha => .lst (Same.seqL s h) (DpXs.same s ha)
  | _, _, .tup h ha => .tup (s.keepT.seq h) (DpXs.same s ha)
  | _, _, .dk h e ha => .dk (by rcases h with h | ⟨o, h⟩; exact .inl (s _ _ h); exact .inr ⟨o, s _ _ h⟩) e (DpXs.same s ha)
theorem DpXs.same {K : PySem.W.Frag} {H H' : Hp} (s : Same H H') : ∀ {vs : List V} {ds : List PyData}, DpXs K H vs ds → DpXs K H' vs ds
  | _, _, .nil => .nil
  | _, _, .cons h ha => .cons (DpX.same s h) (DpXs.same s ha)
end
section
variable {X : Cx} {pins : List (Addr × Obj)} {σ : L2.St} {H : Hp} {s : Shared}
/-- what repr makes of a value -/
def Shows (P : Program) (w : World) (h : Heap) (u : Value) (d : PyData) : Prop :=
  (∃ as, Reads h u d as) ∧ (d.showable = true → d.shown.length ≤ sizeLine → ∃ bs, ReadAtMost h d.depth bs ∧ ReprK P w bs h d.depth u d.shown)
def ShowsAll (P : Program) (w : World) (h : Heap) (us : List Value) (ds : List PyData) : Prop :=
  (∃ as, ReadsAll h us ds as) ∧ (PyData.showableAll ds = true → (∀ t ∈ PyData.shownAll ds, t.length ≤ sizeLine) → ∃ bs, ReadAtMost h (PyData.depthAll ds) bs ∧ ReprAllK P w bs h (PyData.depthAll ds) us (PyData.shownAll ds))
theorem shows_cons {P : Program} {w : World} {h : Heap} {u : Value} {us : List Value} {d : PyData} {ds : List PyData} (a : Shows P w h u d) (b : ShowsAll P w h us ds) : ShowsAll P w h (u :: us) (d :: ds) := by
  obtain ⟨⟨as, r⟩, k⟩ := a
  obtain ⟨⟨bs, rs⟩, ks⟩ := b
  refine ⟨⟨_, .cons r rs⟩, fun hs hz => ?_⟩
  have hs' : d.showable = true ∧ PyData.showableAll ds = true := by simpa [PyData.showableAll] using hs
  obtain ⟨b1, hb1, k1⟩ := k hs'.1 (hz _ (by simp only [PyData.shownAll]; exact List.mem_cons_self ..))
  obtain ⟨b2, hb2, k2⟩ := ks hs'.2 (fun t ht => hz t (by simp only [PyData.shownAll]; exact List.mem_cons_of_mem _ ht))
  refine ⟨b1 ++ b2, fun b hm => ?_, ?_⟩
  · simp only [PyData.depthAll]
    rcases List.mem_append.mp hm with hm | hm
    · obtain ⟨d', as', r', hd'⟩ := hb1 b hm
      exact ⟨d', as', r', Nat.le_trans hd' (Nat.le_max_left _ _)⟩
    · obtain ⟨d', as', r', hd'⟩ := hb2 b hm
      exact ⟨d', as', r', Nat.le_trans hd' (Nat.le_max_right _ _)⟩
  · simp only [PyData.depthAll, PyData.shownAll]
    exact .cons ((k1.more fun b hb => List.mem_append_left _ hb).level_le (Nat.le_max_left _ _)) (k2.more_le (fun b hb => List.mem_append_right _ hb) (Nat.le_max_right _ _))
theorem shows_nil {P : Program} {w : World} {h : Heap} : ShowsAll P w h [] [] :=
  ⟨⟨_, .nil⟩, fun _ _ => ⟨[], (fun _ h => nomatch h), by simp only [PyData.shownAll]; exact .nil⟩⟩
theorem shows_list {P : Program} {w : World} {h : Heap} {a : Addr} {o : Obj} {us : List Value} {n : Nat} {ds : List PyData} (h1 : h.get? a = some o) (h2 : o.cls = .type "list") (h3 : o.data = .seq us.toArray n) (k : ShowsAll P w h us ds) : Shows P w h (.ref a) (.list ds) := by
  obtain ⟨⟨as, rs⟩, ks⟩ := k
  have r : Reads h (.ref a) (.list ds) _ := .list h1 h2 h3 rs
  refine ⟨⟨_, r⟩, fun hs hz => ?_⟩
  have hz' : (listText (PyData.shownAll ds)).length ≤ sizeLine := by simpa only [PyData.shown] using hz
  obtain ⟨bs, hb, hk⟩ := ks (by simpa [PyData.showable] using hs) (fun t ht => Nat.le_trans (listText_mem_le ht) hz')
  have hna : a ∉ bs := not_mem_of_deeper r (by simp only [PyData.depth]; omega) hb
  refine ⟨a :: bs, ReadAtMost.cons r (by simp only [PyData.depth]; omega) hb, ?_⟩
  simp only [PyData.depth, PyData.shown]
  cases us with
  | nil =>
    cases rs
    simp only [PyData.shownAll, listText_nil]
    exact ReprK.listEmpty h1 h2 h3
  | cons x l => exact ReprK.list h1 h2 h3 hna (by simpa using hk.length_eq) (fun i y e => hk.item i y (by simpa using e))
theorem shows_tuple {P : Program} {w : World} {h : Heap} {a : Addr} {o : Obj} {us : List Value} {n : Nat} {ds : List PyData} (h1 : h.get? a = some o) (h2 : o.cls = .type "tuple") (h3 : o.data = .seq us.toArray n) (k : ShowsAll P w h us ds) : Shows P w h (.ref a) (.tuple ds) := by
  obtain ⟨⟨as, rs⟩, ks⟩ := k
  have r : Reads h (.ref a) (.tuple ds) _ := .tuple h1 h2 h3 rs
  refine ⟨⟨_, r⟩, fun hs hz => ?_⟩
  have hz' : (tupleText (PyData.shownAll ds)).length ≤ sizeLine := by simpa only [PyData.shown] using hz
  obtain ⟨bs, hb, hk⟩ := ks (by simpa [PyData.showable] using hs) (fun t ht => Nat.le_trans (tupleText_mem_le ht) hz')
  have hna : a ∉ bs := not_mem_of_deeper r (by simp only [PyData.depth]; omega) hb
  refine ⟨a :: bs, ReadAtMost.cons r (by simp only [PyData.depth]; omega) hb, ?_⟩
  simp only [PyData.depth, PyData.shown]
  exact ReprK.tuple h1 h2 h3 hna hk
theorem shows_dict {P : Program} {w : World} {h : Heap} {a : Addr} {o : Obj} {es : Array DictEntry} {n : Nat} {qs : List (PyData × PyData)} (h1 : h.get? a = some o) (h2 : o.cls = .type "dict") (h3 : o.data = .dict es n) (hsys : (a == sysModules) = false)
    (k1 : ShowsAll P w h (es.toList.map (·.key)) (qs.map (·.1))) (k2 : ShowsAll P w h (es.toList.map (·.val)) (qs.map (·.2))) : Shows P w h (.ref a) (.dict qs) := by
  obtain ⟨⟨as1, rs1⟩, ks1⟩ := k1
  obtain ⟨⟨as2, rs2⟩, ks2⟩ := k2
  have r : Reads h (.ref a) (.dict qs) _ := .dict h1 h2 h3 rs1 rs2
  refine ⟨⟨_, r⟩, fun hs hz => ?_⟩
  have hz' : (dictText (PyData.shownKv qs)).length ≤ sizeLine := by simpa only [PyData.shown] using hz
  obtain ⟨hs1, hs2⟩ := PyData.showableKv_split qs (by simpa [PyData.showable] using hs)
  obtain ⟨b1, hb1, k1⟩ := ks1 hs1 (fun t ht => let ⟨p, hp, hl⟩ := PyData.shownKv_key_le qs t ht; Nat.le_trans hl (Nat.le_trans (dictText_mem_le hp) hz'))
  obtain ⟨b2, hb2, k2⟩ := ks2 hs2 (fun t ht => let ⟨p, hp, hl⟩ := PyData.shownKv_val_le qs t ht; Nat.le_trans hl (Nat.le_trans (dictText_mem_le hp) hz'))
  have hb : ReadAtMost h (PyData.depthKv qs) (b1 ++ b2) := (hb1.mono (PyData.depthAll_keys_le qs)).append (hb2.mono (PyData.depthAll_vals_le qs))
  have hna : a ∉ b1 ++ b2 := not_mem_of_deeper r (by simp only [PyData.depth]; omega) hb
  refine ⟨a :: (b1 ++ b2), ReadAtMost.cons r (by simp only [PyData.depth]; omega) hb, ?_⟩
  simp only [PyData.depth, PyData.shown, PyData.shownKv_eq]
  exact ReprK.dict h1 h2 h3 hsys hna (ReprEntriesK.of_two es.toList _ _
    (k1.more_le (fun b hb => List.mem_append_left _ hb) (PyData.depthAll_keys_le qs)) (k2.more_le (fun b hb => List.mem_append_right _ hb) (PyData.depthAll_vals_le qs)))
theorem shows_leaf {P : Program} {w : World} {h : Heap} {u : Value} {d : PyData} (r : Reads h u d []) (hd : d.hasDict = false) : Shows P w h u d :=
  ⟨⟨_, r⟩, fun hs hz => ReprK.of_reads r hs (fun z => by rw [hd] at z; cases z) hz⟩
theorem pairs_vals {P : Program} {w : World} {es : List DictEntry} {vs : List (Key × Value)} (h : Pairs (mixKind P w) es vs) : ∀ {kvs : List (Key × V)}, KV kvs vs → Vals (kvs.map (·.2)) (es.map (·.val)) := by
  induction h with
  | nil =>
    intro kvs r
    cases r
    exact .nil
  | cons hk hv _ ih =>
    intro kvs r
    cases r with
    | cons r1 r2 => exact .cons (by show L2.RelV _ (DictEntry.val _); rw [hv]; exact r1.2) (ih r2)
theorem pairs_keys {P : Program} {w : World} {h : Heap} {es : List DictEntry} {vs : List (Key × Value)} (hp : Pairs (mixKind P w) es vs) : ∀ {kvs : List (Key × V)}, KV kvs vs → ShowsAll P w h (es.map (·.key)) (kvs.map fun p => keyD p.1) := by
  induction hp with
  | nil =>
    intro kvs r
    cases r
    exact shows_nil
  | @cons e kv es vs hk hv _ ih =>
    intro kvs r
    cases r with
    | @cons p _ kvs' _ r1 r2 =>
      refine shows_cons ?_ (ih r2)
      show Shows P w h e.key (keyD p.1)
      rw [r1.1]
      have hk' : keyIs kv.1 e.key = true := hk
      rcases keyIs_shape hk' with ⟨i, t, e1, e2⟩ | ⟨x, t, e1, e2⟩
      · rw [e1, e2]
        exact shows_leaf (.int i t) rfl
      · rw [e1, e2]
        exact shows_leaf (.str x t) rfl
mutual
theorem DpX.shows (I : Inv X pins σ H s) : ∀ {v : V} {u : Value} {d : PyData}, DpX X.K H v d → RelV v u → Shows X.prog X.w s.heap u d
  | _, _, _, .non, r => by
    cases r
    exact shows_leaf .none rfl
  | _, _, _, .bl b, r => by
    cases r
    exact shows_leaf (.bool b) rfl
  | _, _, _, .int i, r => by
    obtain ⟨t, rfl⟩ := r
    exact shows_leaf (.int i t) rfl
  | _, _, _, .str x, r => by
    obtain ⟨t, rfl⟩ := r
    exact shows_leaf (.str x t) rfl
  | _, _, _, .lst hs ha, r => by
    cases r
    obtain ⟨its, rv, ⟨o, n, ho, hc, _, hd⟩, _⟩ := I.list hs
    exact shows_list ho hc hd (DpXs.shows I ha rv)
  | _, _, _, .tup hs ha, r => by
    cases r
    obtain ⟨its, rv, ⟨o, ho, hc, n, hd⟩, _⟩ := I.tuple hs
    exact shows_tuple ho hc hd (DpXs.shows I ha rv)
  | _, _, _, .dk (kvs := kvs) (qs := qs) hr e ha, r => by
    cases r
    obtain ⟨z, hsys, vs, rel, o, es, ep, ho, hx, hd, ko, pr, nd⟩ := dk_rd I.hok hr
    refine shows_dict ho hx.1 hd hsys ?_ (DpXs.shows I ha (pairs_vals pr rel))
    rw [e]
    exact pairs_keys pr rel
theorem DpXs.shows (I : Inv X pins σ H s) : ∀ {vs : List V} {us : List Value} {ds : List PyData}, DpXs X.K H vs ds → Vals vs us → ShowsAll X.prog X.w s.heap us ds
  | _, _, _, .nil, r => by
    cases r
    exact shows_nil
  | _, _, _, .cons h1 h2, r => by
    cases r with
    | cons r1 r2 => exact shows_cons (DpX.shows I h1 r1) (DpXs.shows I h2 r2)
end
end
/-- repr of a list or a tuple that may hold dicts -/
def rReprX (K : PySem.W.Frag) : List V → Hp → VK → Prop := fun xs H Q => ∃ a d, xs = [.ref a] ∧ DpX K H (.ref a) d ∧ (∀ qs, d ≠ .dict qs) ∧ d.showable = true ∧ d.depth ≤ 60 ∧ d.shown.length ≤ sizeLine ∧ Q (.str d.shown) H
theorem call_reprX {X : Cx} (hG : X.A.guards = some []) (hu : X.A.units + 64 < cLine) : CallR X (.builtin "repr") (rReprX X.K) := by
  rintro pins s σ H xs us Q I r ⟨a, d, rfl, hd, hnd, h1, h3, h4, q⟩
  cases r with
  | cons ra rest =>
    cases rest
    cases ra
    have fin : ∀ h' u tk, (∀ b o, s.heap.get? b = some o → h'.get? b = some o) → EP X pins σ Q (.str d.shown u) { s with heap := h', toks := tk } := fun h' u tk keep => ⟨.str d.shown, H, I.kept (t' := tk) keep, ⟨_, rfl⟩, q⟩
    cases hd with
    | dk _ _ _ => exact absurd rfl (hnd _)
    | @lst _ xs ds hs ha =>
      obtain ⟨its, rv, ⟨o, n, ho, hc, _, hda⟩, _⟩ := I.list hs
      obtain ⟨⟨as, rs⟩, ks⟩ := DpXs.shows I ha rv
      have r : Reads s.heap (.ref a) (.list ds) _ := .list ho hc hda rs
      have hz' : (listText (PyData.shownAll ds)).length ≤ sizeLine := by simpa only [PyData.shown] using h4
      obtain ⟨bs, hb, hk⟩ := ks (by simpa [PyData.showable] using h1) (fun t ht => Nat.le_trans (listText_mem_le ht) hz')
      have hna : a ∉ bs := not_mem_of_deeper r (by simp only [PyData.depth]; omega) hb
      simp only [PyData.depth] at h3
      simp only [PyData.shown] at fin
      refine call_repr_slot (by omega) ⟨o, ho, hc⟩ F.slot_list_repr.toG ?_
      cases its with
      | nil =>
        cases rs
        simp only [PyData.shownAll, listText_nil] at fin
        exact call_list_repr_empty ⟨o, ho, hc⟩ ho hda ⟨_, _, rfl, fin s.heap _ _ fun _ _ e => e⟩
      | cons x l => exact call_list_reprK ho hc hda hna (by simpa using hk.length_eq) (fun i y e => hk.item i y (by simpa using e)) hG (fun b _ => Clear.nil b) (by show X.A.units + 1 + (PyData.depthAll ds + 1) < cLine; omega) (fun _ _ e => e) (fun h' u tk keep => ⟨_, _, rfl, fin h' u tk keep⟩) hz'
    | @tup _ xs ds hs ha =>
      obtain ⟨its, rv, ⟨o, ho, hc, n, hda⟩, _⟩ := I.tuple hs
      obtain ⟨⟨as, rs⟩, ks⟩ := DpXs.shows I ha rv
      have r : Reads s.heap (.ref a) (.tuple ds) _ := .tuple ho hc hda rs
      have hz' : (tupleText (PyData.shownAll ds)).length ≤ sizeLine := by simpa only [PyData.shown] using h4
      obtain ⟨bs, hb, hk⟩ := ks (by simpa [PyData.showable] using h1) (fun t ht => Nat.le_trans (tupleText_mem_le ht) hz')
      have hna : a ∉ bs := not_mem_of_deeper r (by simp only [PyData.depth]; omega) hb
      simp only [PyData.depth] at h3
      simp only [PyData.shown] at fin
      refine call_repr_slot (by omega) ⟨o, ho, hc⟩ F.slot_tuple_repr ?_
      exact call_tuple_reprK ho hc hda hna hk hG (fun b _ => Clear.nil b) (by show X.A.units + 1 + (PyData.depthAll ds + 1) < cLine; omega) (fun _ _ e => e) (fun h' u tk keep => ⟨_, _, rfl, fin h' u tk keep⟩) hz'
end Wc

set_option Elab.async false
set_option linter.all false
set_option maxRecDepth 100000
/-! New objects without their heaps written out; facts carried on from heap to heap. -/
namespace Wc
open PySem PySem.Spec PyProof PyProof.Rows L2 LamX
abbrev At (Q : VK) (v : V) (H : Hp) : Prop := Q v H
theorem pe_at {X : Cx} {e : Expr} {t : TE} (h : PE X e t) : PE X e (fun σ H Q => t σ H (At Q)) :=
  ⟨fun pins s σ H Q I q => thn (h.run pins s σ H (At Q) I q) fun u s1 ⟨v, H1, I1, r, q⟩ => ⟨v, H1, I1, r, q⟩⟩
theorem alloc {H : Hp} {o : HO} {Q : VK} (h : ∀ p H', Same H H' → H p = none → H' p = some o → Q (.ref p) H') : ∀ p, H p = none → At Q (.ref p) (upd H p o) := fun p hp => h p _ (same_upd hp) hp upd_same
theorem alloc1 {H : Hp} {p : Addr} {o : HO} {Q : VK} (hp : H p = none) (h : ∀ H', Same H H' → H' p = some o → Q (.ref p) H') : At Q (.ref p) (upd H p o) := h _ (same_upd hp) upd_same
theorem up1 {H H' : Hp} {p : Addr} {o : HO} (s : Same H H') (h : H p = some o) : H' p = some o := s _ _ h
theorem upF {H H' : Hp} {p : Addr} (s : Same H H') (h : H' p = none) : H p = none := s.free h
theorem upT {K : PySem.W.Frag} {H H' : Hp} {p : Addr} {xs : List V} (s : Same H H') (h : SqT K H p xs) : SqT K H' p xs := s.keepT.seq h
theorem upL {K : PySem.W.Frag} {H H' : Hp} {p : Addr} {xs : List V} (s : Same H H') (h : SqL K H p xs) : SqL K H' p xs := Same.seqL s h
theorem upN {K : PySem.W.Frag} {H H' : Hp} {p : Addr} {N : Net} (s : Same H H') (h : NetAt K H p N) : NetAt K H' p N := h.keep s.keepT
theorem upX {K : PySem.W.Frag} {H H' : Hp} {v : V} {d : PyData} (s : Same H H') (h : DpX K H v d) : DpX K H' v d := h.same s
theorem upB {T : List (Addr × Str)} {H H' : Hp} (s : Same H H') (h : Tabs T H) : Tabs T H' := h.ext fun b o e => s b o e
/-! ### all but the tables of code objects stays -/
theorem ext1 {H H' : Hp} {p : Addr} {o : HO} (s : ExtN H H') (h : H p = some o) (n : ∀ ps, o ≠ .tbl ps := by intro _ z; cases z) : H' p = some o := s _ _ h n
theorem ext_rd {H H' : Hp} {p : Addr} {o : HO} (s : ExtN H H') (h : Rd H p o) (n : ∀ ps, o ≠ .tbl ps := by intro _ z; cases z) : Rd H' p o := by
  rcases h with h | ⟨u, h⟩
  · exact .inl (s _ _ h n)
  · exact .inr ⟨u, s _ _ h fun ps z => by cases z⟩
theorem extT {K : PySem.W.Frag} {H H' : Hp} {p : Addr} {xs : List V} (s : ExtN H H') (h : SqT K H p xs) : SqT K H' p xs := by
  rcases h with h | h
  · exact .inl (ext_rd s h)
  · exact .inr h
theorem extL {K : PySem.W.Frag} {H H' : Hp} {p : Addr} {xs : List V} (s : ExtN H H') (h : SqL K H p xs) : SqL K H' p xs := by
  rcases h with h | h
  · exact .inl (ext_rd s h)
  · exact .inr h
theorem ext_keepT {H H' : Hp} (e : ExtN H H') : KeepT H H' := fun b xs h => ext_rd e h
theorem extNet {K : PySem.W.Frag} {H H' : Hp} {p : Addr} {N : Net} (s : ExtN H H') (h : NetAt K H p N) : NetAt K H' p N := h.keep (ext_keepT s)
mutual
theorem DpX.ext {K : PySem.W.Frag} {H H' : Hp} (s : ExtN H H') : ∀ {v : V} {d : PyData}, DpX K H v d → DpX K H' v d
  | _, _, .non => .non
  | _, _, .bl b => .bl b
  | _, _, .int i => .int i
  | _, _, .str x => .str x
  | _, _, .lst h ha => .lst (extL s h) (DpXs.ext s ha)
  | _, _, .tup h ha => .tup (extT s h) (DpXs.ext s ha)
  | _, _, .dk h e ha => .dk (ext_rd s h) e (DpXs.ext s ha)
theorem DpXs.ext {K : PySem.W.Frag} {H H' : Hp} (s : ExtN H H') : ∀ {vs : List V} {ds : List PyData}, DpXs K H vs ds → DpXs K H' vs ds
  | _, _, .nil => .nil
  | _, _, .cons h ha => .cons (DpX.ext s h) (DpXs.ext s ha)
end
theorem ext_same {H H' : Hp} (s : Same H H') : ExtN H H' := .of fun b o e => s b o e
theorem tyOf_ext {K : PySem.W.Frag} {H H' : Hp} (s : ExtN H H') {v : V} {t : Value} (h : TyOf K H v t) : TyOf K H' v t := by
  cases h with
  | non => exact .non
  | bl x => exact .bl x
  | int i => exact .int i
  | str x => exact .str x
  | flt x => exact .flt x
  | lst e => exact .lst (ext1 s e)
  | frz e => exact .frz (ext1 s e)
  | tup e => exact .tup (ext1 s e)
  | dK e => exact .dK (ext1 s e)
  | dT e => exact .dT (ext1 s e)
  | ins e h1 h2 h3 h4 h5 => exact .ins (ext1 s e) h1 h2 h3 h4 h5
theorem tyX_ext {K : PySem.W.Frag} {H H' : Hp} (s : ExtN H H') {v : V} {t : Value} (h : TyX K H v t) : TyX K H' v t := by
  cases h with
  | base b => exact .base (tyOf_ext s b)
  | byt b => exact .byt b
  | set e => exact .set (ext1 s e)
  | kList e c => exact .kList e c
  | kTuple e c => exact .kTuple e c
  | kDict e c => exact .kDict e c
  | fTuple e => exact .fTuple (ext1 s e)
  | fDict e => exact .fDict (ext1 s e)
/-! ### how long a text repr makes -/
structure ShX (n B : Nat) (d : PyData) : Prop where
  s : d.showable = true
  dp : d.depth ≤ n
  l : d.leavesShort 40 = true
  b : d.bulk ≤ B
theorem ShX.repr {n B : Nat} {d : PyData} (h : ShX n B d) (hn : n ≤ 60) (hB : B ≤ 100000) : d.showable = true ∧ d.depth ≤ 60 ∧ d.shown.length ≤ sizeLine := by
  refine ⟨h.s, Nat.le_trans h.dp hn, ?_⟩
  have z := PyData.shown_le_bulk 40 (by decide) d h.l
  have b := h.b
  rw [sizeLine_eq]
  omega
theorem ShX.mono {n B n' B' : Nat} {d : PyData} (h : ShX n B d) (hn : n ≤ n' := by decide) (hB : B ≤ B' := by decide) : ShX n' B' d := ⟨h.s, Nat.le_trans h.dp hn, h.l, Nat.le_trans h.b hB⟩
theorem shX_int {i : Int} (h : i.natAbs < 10 ^ 39) : ShX 0 0 (.int i) := by
  refine ⟨?_, by simp only [PyData.depth]; exact Nat.le_refl _, ?_, by simp only [PyData.bulk]; exact Nat.le_refl _⟩
  · exact (plain_int 0 (natAbs_small (Nat.lt_of_lt_of_le h (by decide)))).2.2
  · simp only [PyData.leavesShort]
    refine decide_eq_true ?_
    have e := PySem.int_text_length_le10 (k := 39) (by decide) h
    show (Str.ofString (toString i)).length ≤ 40
    rw [PySem.ofString_length]
    omega
theorem shX_none : ShX 0 0 .none := ⟨by simp only [PyData.showable], by simp only [PyData.depth]; exact Nat.le_refl _, by simp only [PyData.leavesShort], by simp only [PyData.bulk]; exact Nat.le_refl _⟩
theorem shX_bool (b : Bool) : ShX 0 0 (.bool b) := ⟨by simp only [PyData.showable], by simp only [PyData.depth]; exact Nat.le_refl _, by simp only [PyData.leavesShort], by simp only [PyData.bulk]; exact Nat.le_refl _⟩
theorem shX_str {x : Str} {B : Nat} (h2 : (PyData.str x).leavesShort 40 = true) (h3 : x.cps.size ≤ B) : ShX 0 B (.str x) := ⟨by simp only [PyData.showable], by simp only [PyData.depth]; exact Nat.zero_le _, h2, by simp only [PyData.bulk]; exact h3⟩
theorem shX_alls {n B : Nat} : ∀ {ds : List PyData}, (∀ d ∈ ds, ShX n B d) → PyData.showableAll ds = true ∧ PyData.depthAll ds ≤ n ∧ PyData.leavesShortAll 40 ds = true ∧ PyData.bulkAll ds ≤ ds.length * (B + 1)
  | [], _ => ⟨by simp only [PyData.showableAll], by simp only [PyData.depthAll]; exact Nat.zero_le _, by simp only [PyData.leavesShortAll], by simp only [PyData.bulkAll]; exact Nat.zero_le _⟩
  | d :: ds, h => by
    obtain ⟨h1, h2, h3, h4⟩ := h d List.mem_cons_self
    obtain ⟨k1, k2, k3, k4⟩ := shX_alls fun e he => h e (List.mem_cons_of_mem _ he)
    refine ⟨by simp only [PyData.showableAll, h1, k1]; rfl, by simp only [PyData.depthAll]; omega, by simp only [PyData.leavesShortAll, h3, k3]; rfl, ?_⟩
    simp only [PyData.bulkAll, List.length_cons, Nat.add_mul]
    omega
theorem shX_list {n B : Nat} {ds : List PyData} (h : ∀ d ∈ ds, ShX n B d) : ShX (n + 1) (ds.length * (B + 1)) (.list ds) := by
  obtain ⟨k1, k2, k3, k4⟩ := shX_alls h
  exact ⟨by simpa only [PyData.showable] using k1, by simp only [PyData.depth]; omega, by simpa only [PyData.leavesShort] using k3, by simpa only [PyData.bulk] using k4⟩
theorem shX_tuple {n B : Nat} {ds : List PyData} (h : ∀ d ∈ ds, ShX n B d) : ShX (n + 1) (ds.length * (B + 1)) (.tuple ds) := by
  obtain ⟨k1, k2, k3, k4⟩ := shX_alls h
  exact ⟨by simpa only [PyData.showable] using k1, by simp only [PyData.depth]; omega, by simpa only [PyData.leavesShort] using k3, by simpa only [PyData.bulk] using k4⟩
theorem all1 {p : PyData → Prop} {a : PyData} (h : p a) : ∀ d ∈ [a], p d := fun d hd => by
  rw [List.mem_singleton.mp hd]
  exact h
theorem all2 {p : PyData → Prop} {a b : PyData} (h : p a) (k : p b) : ∀ d ∈ [a, b], p d := fun d hd => by
  rcases List.mem_cons.mp hd with e | e
  · rw [e]; exact h
  · rw [List.mem_singleton.mp e]; exact k
theorem shX_dict0 : ShX 1 0 (.dict []) := ⟨by simp only [PyData.showable, PyData.showableKv], by simp only [PyData.depth, PyData.depthKv]; omega, by simp only [PyData.leavesShort, PyData.leavesShortKv], by simp only [PyData.bulk, PyData.bulkKv]; exact Nat.le_refl _⟩
end Wc

set_option Elab.async false
set_option linter.all false
set_option maxRecDepth 100000
/-! The bounds of all pipes. -/
namespace Wc
open PySem PySem.Spec PyProof.Rows L2
local macro_rules | `(tactic| walk_at "up") => `(tactic| first | with_reducible assumption | (refine up1 (by with_reducible assumption) ?_; walk_at "up") | (refine SqT.of ?_; walk_at "up") | (refine SqL.of ?_; walk_at "up") | (refine upT (by with_reducible assumption) ?_; walk_at "up") | (refine upL (by with_reducible assumption) ?_; walk_at "up") | (refine upN (by with_reducible assumption) ?_; walk_at "up"))
section
variable {P : Program} {w : World} {K : PySem.W.Frag} {mg : Str → Option Value} {base : Heap}
abbrev s_find_bounds : Stmt := top 26
theorem sc_find_bounds : FnScope ["network", "known", "modulus", "pairs", "_", "low", "high", "residue", "pair"] ["network", "known"] (defScope s_find_bounds) := ⟨rfl, rfl, rfl, by decide +kernel, rfl, by decide +kernel, by decide +kernel⟩
def sp_find_bounds (K : PySem.W.Frag) : Sp := fun vs H Q _ => ∃ (na ka : Addr) (N : Net) (R : List Int), vs = [.ref na, .ref ka] ∧ NetAt K H na N ∧ NetOk N ∧ H ka = some (.lst (R.map V.int)) ∧ R.length = N.tubes.length ∧
  ∀ H' l vs, Same H H' → H l = none → H' l = some (.lst vs) → BndsV K H' vs (bndL N (fun k => R.getD k 0) N.tubes.length) → Q (.ref l) H'
theorem has_find_bounds (D : DefAt K mg "find_bounds" s_find_bounds ["network", "known"]) (T : Blt mg) : Has P w K mg base "find_bounds" 1 ["network", "known"] (sp_find_bounds K) := by
  refine D.ok sc_find_bounds (fun vs H Q E h => ?_) (fun f cdv A outer s H vs Q E hr h => ?_)
  · obtain ⟨na, ka, N, R, rfl, _⟩ := h
    rfl
  · obtain ⟨na, ka, N, R, rfl, hN, ok, hk, hRl, q⟩ := h
    refine ⟨_, (pss_cons (ps_set (i := 2) sc_find_bounds.nd rfl (.inr rfl) (pe_ix ix_tup (pv 0) pe_int (fun _ _ => rfl)))
      (pss_cons (ps_setLc (i := 3) (own := [("residue", 7), ("_", 4), ("_", 4), ("low", 5), ("high", 6), ("_", 4)]) (g := gTup K 2 (gCons (gTup K 5 (gCons (gName 4) (gCons (gName 4) (gCons (gName 5) (gCons (gName 6) (gCons (gName 4) gNil)))))) (gCons (gName 7) gNil))) (tt := tYes) rfl sc_find_bounds.nd rfl rfl (sw_true rfl rfl rfl (by decide +kernel)) (pi_zipK (by rfl) T.b_zip (pa_cons (pe_ix ix_tup (pv 0) pe_int (fun _ _ => rfl)) (pa_cons (pv 1) pa_nil))) (blkOk_by (N := ["network", "known", "modulus", "pairs", "_", "low", "high", "residue", "pair"]) (sc := defScope s_find_bounds) (by decide +kernel)) (fun _ _ _ _ _ => (pg_tupK K 2 rfl (pgs_cons (pg_tupK K 5 rfl (pgs_cons (pg_name (i := 4) sc_find_bounds.nd rfl (Or.inl rfl)) (pgs_cons (pg_name (i := 4) sc_find_bounds.nd rfl (Or.inl rfl)) (pgs_cons (pg_name (i := 5) sc_find_bounds.nd rfl (Or.inl rfl)) (pgs_cons (pg_name (i := 6) sc_find_bounds.nd rfl (Or.inl rfl)) (pgs_cons (pg_name (i := 4) sc_find_bounds.nd rfl (Or.inl rfl)) pgs_nil)))))) (pgs_cons (pg_name (i := 7) sc_find_bounds.nd rfl (Or.inl rfl)) pgs_nil)))) (fun _ _ _ _ _ => pts_nil) (fun _ _ _ _ _ => (pe_at (pe_tup (pa_cons (pe_op op_add (pv 5) (pe_op op_mod (pe_op op_sub (pv 7) (pv 5)) (pv 2))) (pa_cons (pe_op op_sub (pv 6) (pe_op op_mod (pe_op op_sub (pv 6) (pv 7)) (pv 2))) pa_nil))))))
      (pss_one (ps_ret (pe_lc (own := [("pair", 8)]) (g := gName 8) (tt := tYes) rfl sc_find_bounds.nd (pi_list (pv 3)) (blkOk_by (N := ["network", "known", "modulus", "pairs", "_", "low", "high", "residue", "pair"]) (sc := defScope s_find_bounds) (by decide +kernel)) (fun _ _ _ _ _ => (pg_name (i := 8) sc_find_bounds.nd rfl (Or.inl rfl))) (fun _ _ _ _ _ => pts_nil) (fun _ _ _ _ _ => (pe_ifExp (pt_cmpR op_le (pe_ix (ix_tupK K) (pv 8) pe_int (fun _ _ => rfl)) (pe_ix (ix_tupK K) (pv 8) pe_int (fun _ _ => rfl)) (nomark _)) (pv 8) pe_non))))))), ?_⟩
    obtain ⟨b, xs, ha, hb, hts⟩ := id hN
    have hxl : xs.length = N.tubes.length := Paired.length hts
    refine ⟨_, rfl, na, _, 0, _, rfl, rfl, ha, atI_nat (j := 0) rfl, ?_⟩
    refine ⟨_, rfl, na, _, 2, _, rfl, rfl, ha, atI_nat (j := 2) rfl, _, rfl, true, false, b, ka, xs, R.map V.int, rfl, hb, SqL.of hk, fun D1 hD1 => ?_⟩
    refine lc_it (walk_Z (k1 := true) (k2 := false) (xs := xs) (ys := R.map V.int) (by rw [List.length_map, hxl, hRl])) (fun i H' => Same H H' ∧ ∃ vs, H' D1 = some (.lst vs) ∧ Paired (fun v q => ∃ t, v = .ref t ∧ SqT K H' t [.int (Prod.fst q), .int (Prod.snd q)]) vs (bdpL N (fun k => R.getD k 0) i)) ⟨same_upd hD1, [], upd_same, .nil⟩ (fun i H' _ ⟨s2, _⟩ => ⟨s2.keepT.seq hb, upL s2 (SqL.of hk)⟩) ?_ ?_
    · rintro i v H2 H3 hi ⟨s2, vs, hvs, hP⟩ ⟨T0, x1, x2, rfl, hT0, rfl, e1, e2⟩
      obtain ⟨p, hp, a1, rfl, hpa⟩ := paired_get hts e1
      have sT : Same H2 (upd H2 T0 (.tup [.ref a1, x2])) := same_upd hT0
      have s3 := s2.trans sT
      have hpa3 := s3.keepT.seq hpa
      have hvs3 := sT _ _ hvs
      have hT2 : upd H2 T0 (.tup [.ref a1, x2]) T0 = some (.tup [.ref a1, x2]) := upd_same
      have hP3 := Paired.mapP hP (G := fun v q => ∃ t, v = .ref t ∧ SqT K (upd H2 T0 (.tup [.ref a1, x2])) t [.int (Prod.fst q), .int (Prod.snd q)]) fun v q ⟨t, h1, h2⟩ => ⟨t, h1, upT sT h2⟩
      generalize upd H2 T0 (.tup [.ref a1, x2]) = H4 at s3 hpa3 hvs3 hT2 hP3
      have hil : i < N.tubes.length := by rw [← hxl]; exact hi
      obtain ⟨r, hr⟩ : ∃ r, R[i]? = some r := ⟨_, List.getElem?_eq_getElem (by omega)⟩
      have ex2 : x2 = .int r := by
        have e2 : (R.map V.int)[i]? = some x2 := e2
        rw [List.getElem?_map, hr] at e2
        exact (Option.some.inj e2).symm
      subst ex2
      have hb2 := ok.b2
      refine ⟨T0, _, rfl, SqT.of hT2, rfl, _, _, rfl, ?_⟩
      refine ⟨a1, _, rfl, hpa3, rfl, ?_⟩
      refine ⟨_, _, rfl, _, _, rfl, _, _, rfl, _, _, rfl, _, _, rfl, rfl, ?_⟩
      show gCons (gName 7) gNil [V.int r] [some (.ref na), some (.ref ka), some (.int N.base), none, some (optV p.me), some (.int p.lo), some (.int p.hi), none, none] H4 _
      refine ⟨_, _, rfl, rfl, ?_⟩
      refine ⟨rfl, ?_⟩
      refine ⟨_, rfl, _, rfl, _, rfl, _, _, rfl, rfl, _, rfl, _, _, rfl, rfl, (by show (0 : Int) < N.base; omega), _, _, rfl, rfl, ?_⟩
      refine ⟨_, rfl, _, rfl, _, rfl, _, _, rfl, rfl, _, rfl, _, _, rfl, rfl, (by show (0 : Int) < N.base; omega), _, _, rfl, rfl, (by show 2 ≤ sizeLine; decide), fun t ht => ?_⟩
      have s5 := same_upd (o := .tup [.int (p.lo + (r - p.lo) % N.base), .int (p.hi - (p.hi - r) % N.base)]) ht
      have a5 : upd H4 t (.tup [.int (p.lo + (r - p.lo) % N.base), .int (p.hi - (p.hi - r) % N.base)]) t = some _ := upd_same
      have hvs5 := s5 _ _ hvs3
      refine ⟨vs, hvs5, small1000 (by rw [Paired.length hP3, bdpL_len]; have := ok.len; omega), fun x o e => ?_, vs ++ [.ref t], upd_same, ?_⟩
      · rw [upd_ne (ne_of_none e hD1)]
        exact s5 _ _ (s3 _ _ e)
      · have kU : KeepT H4 (upd (upd H4 t (.tup [.int (p.lo + (r - p.lo) % N.base), .int (p.hi - (p.hi - r) % N.base)])) D1 (.lst (vs ++ [.ref t]))) := s5.keepT.trans (keepT_upd_lst hvs5)
        rw [bdpL_succ]
        refine Paired.snoc (Paired.mapP hP3 fun v q ⟨t, h1, h2⟩ => ⟨t, h1, kU.seq h2⟩) ⟨t, rfl, ?_⟩
        have eb : bdpAt N (fun k => R.getD k 0) i = (p.lo + (r - p.lo) % N.base, p.hi - (p.hi - r) % N.base) := by
          unfold bdpAt bdp
          have hp' : N.tubes[i]? = some p := hp
          have hr' : R.getD i 0 = r := by rw [List.getD_eq_getElem?_getD, hr]; rfl
          rw [hp']
          show (p.lo + (R.getD i 0 - p.lo) % N.base, p.hi - (p.hi - R.getD i 0) % N.base) = _
          rw [hr']
        rw [eb]
        exact (keepT_upd_lst hvs5).seq (SqT.of a5)
    · rintro H2 ⟨s2, vs, hvs, hP⟩
      rw [hxl] at hP
      have hvl : vs.length = N.tubes.length := by rw [Paired.length hP, bdpL_len]
      refine ⟨_, rfl, D1, rfl, ⟨_, SqL.of hvs⟩, fun D2 hD2 => ?_⟩
      refine lc_it (walk_list (xs := vs)) (fun i H' => Same H2 H' ∧ ∃ us, H' D2 = some (.lst us) ∧ BndsV K H' us (bndL N (fun k => R.getD k 0) i)) ⟨same_upd hD2, [], upd_same, .nil⟩ (fun i H' _ ⟨s3, _⟩ => SqL.of (s3 _ _ hvs)) ?_ ?_
      · rintro i v H3 H4 hi ⟨s3, us, hus, hU⟩ ⟨rfl, hv⟩
        have hil : i < N.tubes.length := by rw [← hvl]; exact hi
        obtain ⟨q1, hq1, t, rfl, ht⟩ := paired_get hP hv
        rw [bdpL_get hil] at hq1
        have eq1 := Option.some.inj hq1
        subst eq1
        have ht3 := upT s3 ht
        refine ⟨rfl, ?_⟩
        refine ⟨_, rfl, t, _, 0, _, rfl, rfl, ht3, atI_nat (j := 0) rfl, _, rfl, t, _, 1, _, rfl, rfl, ht3, atI_nat (j := 1) rfl, _, _, rfl, rfl, ?_⟩
        have hul : us.length ≤ 60 := by
          rw [Paired.length hU, bndL_len]
          have := ok.len
          omega
        refine ⟨_, rfl, ite2 (fun c => ?g1) (fun c => ?g2)⟩
        case' g1 => refine ⟨_, rfl, ?_⟩
        all_goals refine ⟨us, hus, small1000 (by omega), fun x o e => ?_, us ++ [_], upd_same, ?_⟩
        case g1.refine_1 => rw [upd_ne (ne_of_none e hD2)]; exact s3 _ _ e
        case g2.refine_1 => rw [upd_ne (ne_of_none e hD2)]; exact s3 _ _ e
        all_goals rw [bndL_succ, bndAt_eq hil]
        · have c := of_decide_eq_true c
          rw [if_pos c]
          exact Paired.snoc (hU.keep (keepT_upd_lst hus)) ⟨t, rfl, (keepT_upd_lst hus).seq ht3⟩
        · have c' : ¬ (bdpAt N (fun k => R.getD k 0) i).1 ≤ (bdpAt N (fun k => R.getD k 0) i).2 := fun z => c (decide_eq_true z)
          rw [if_neg c']
          exact Paired.snoc (hU.keep (keepT_upd_lst hus)) rfl
      · rintro H3 ⟨s3, us, hus, hU⟩
        rw [hvl] at hU
        exact q H3 D2 us (s2.trans s3) (s2.free hD2) hus hU
end
end Wc

set_option Elab.async false
set_option linter.all false
set_option maxRecDepth 100000
set_option maxHeartbeats 2000000
namespace L2
open PySem PySem.Spec PySem.W PyProof.Rows NdefX

/-- what the written part says of an own exception class over ValueError and of its making -/
structure XmC (P : Program) (K : Frag) (C f cda cc : Addr) : Prop where
  o : OexC K C
  fn : ∃ oc od fd sl ar, K.lookup f = some ⟨oc, od, .func fd, sl⟩ ∧ (fd.params.posonlyargs ++ fd.params.args).head? = some ar ∧ ar.arg = "self"
  code : ∃ ccl cdd vs ccs file tf, K.lookup cda = some ⟨ccl, cdd, .fields vs, ccs⟩ ∧ vs[2]? = some (.str file tf) ∧ ((P.main.file : Str) == file) = true
  cell : ∃ cl cld csl, K.lookup cc = some ⟨cl, cld, .cell (some (.ref C)), csl⟩
  up : ks_superIn K C C "__init__" = some (some (.builtin "ValueError.__init__"))
  sub : subIn K (.ref C) (.type "ValueError") = some true
  me : mroIn K C (.ref C) = some true
  any : nsIn K cStatics "thirdparty.any" = some none
  top : (P.main.scope.names.lookup ("super" : Str)).isSome = false

section
variable {prog : Program} {w : World} {A : Around} {E : Value → Shared → Prop} {h : Heap} {g : Array GenState} {d : Drawn} {t : Nat} {os : OsState} {B i newId : String} {bmB : List Value}
/-- a built-in class's __init__, bound to the object by super(), called -/
theorem mw_call (FB : ExcBaseFacts B newId i bmB) {nm q : Str} {C N u e t0 : Addr} {bs bm sub : List Value} {hdct ab : Bool} {sn : List Str} {col : Option Bool} {dd dv : Option Addr} {k0 k1 k2 k3 k5 : Option Value} {c2 c3 b4 : Value} {rest : List Value} {Q : Value → Shared → Prop}
    (hC : h.get? C = some (excClassObj nm q C N bs bm hdct sn sub ab col dd k0 k1 k2 k3 k5 newId)) (he : h.get? e = some (excRec (.ref C) t0 dv c2 c3 b4)) (hu : h.get? u = some (kxs_mw i e)) (hl : rest.length ≤ sizeLine)
    (hq : ∀ h', (∀ b o, b ≠ e → h.get? b = some o → h'.get? b = some o) → h'.get? e = some (excRec (.ref C) h.objs.size dv c2 c3 b4) → Q .none ⟨h', g, d, t, os⟩) :
    wpAny (model prog w) A (call (.ref u) rest) Q E ⟨h, g, d, t, os⟩ := by
  refine wpAny_call (codeAny_of_tree ?_)
  show wpAny _ A.in1 (callAny (.ref u) ⟨rest, []⟩) _ _ _
  simp only [callAny]
  refine wpAny_bind (wpAny_load hu ?_)
  simp only [kxs_mw, show (Value.type "method-wrapper" == Value.type "method" || Value.type "method-wrapper" == Value.type "builtin_function_or_method" || Value.type "method-wrapper" == Value.type "method-wrapper") = true by decide, if_true]
  refine KFB.if_so (by decide) ?_
  refine wpAny_bind (check_bound_init FB.toExcCallFacts hC he rfl ?_)
  refine wpAny_bind (wpAny_pure (wpAny_pure ?_))
  refine ⟨plainId_quiet FB.init.plain _, codeAny_builtin FB.initEntry ?_⟩
  exact exc_init_tree he hl fun h' k x _ => hq h' k x
end

section
variable {X : Cx} {pins : List (Addr × Obj)} {σ : L2.St} {H : Hp} {s : Shared} {C f cda cc e : Addr} {body : List Stmt} {m : Str} {j : Nat} {p0 p1 p2 p3 p4 p5 : Pos} {E : Value → Shared → Prop}
theorem ld_name {x : Str} {Q : Value → Shared → Prop} (I : Inv X pins σ H s) (hN : ∃ i : Nat, X.N[i]? = some x ∧ σ[i]? = some (some (.ref e))) (hv : X.env.scope.names.lookup x = some .local) (h : Q (.ref e) s) :
    wpAny (model X.prog X.w) X.A (loadName X.env x) Q E s := by
  obtain ⟨i, hN, es⟩ := hN
  obtain ⟨m, hn, hl⟩ := I.loc
  obtain ⟨u, r, l⟩ := hl i x (.ref e) hN es (.inl hv)
  obtain rfl : u = Value.ref e := r
  rcases l with ⟨hk, hm⟩ | ⟨hk, c, hc, hcell⟩
  · exact wpAny_loadName_local I.ok.kind hk hn hm h
  · have z : X.env.scope.names.lookup x = some .cell ∨ X.env.scope.names.lookup x = some .free := hk
    rw [hv] at z
    rcases z with z | z <;> cases z
/-- super().__init__("..") of an own exception being made: nothing of it is told -/
theorem sup_init (T : XmC X.prog X.K C f cda cc) (I : Inv X pins σ H s) (he : H e = some (exo e C none)) (hN : ∃ i : Nat, X.N[i]? = some ("self" : Str) ∧ σ[i]? = some (some (.ref e)))
    (hself : X.env.scope.names.lookup ("self" : Str) = some .local) (hsup : X.env.scope.names.lookup ("super" : Str) = some .globalImplicit) (hcls : X.env.scope.names.lookup ("__class__" : Str) = some .free)
    (hfu : X.env.func = some f) (hco : X.env.code = .ref cda) (hcel : X.env.cells.lookup ("__class__" : Str) = some cc) (hmg : X.mg "super" = none) {pl : Sem Bool} (hi : interactive X.env = false)
    (hE : eval (.Call (.Attribute (.Call (.Name "super" p0) [] [] p1) "__init__" p2) [.Constant (.str m) j p3] [] p4) X.env = (do
      let ov ← attributeBase (.Call (.Name "super" p0) [] [] p1) "__init__" X.env (eval (.Call (.Name "super" p0) [] [] p1) X.env)
      standAt p2.atName
      let (f, first) ← holding [ov] (getMethod ov "__init__" pl)
      callWith p4 f first (backTo p4 (starEach [.Constant (.str m) j p3] X.env)) []))
    (hsw : swapsWith (.Call (.Attribute (.Call (.Name "super" p0) [] [] p1) "__init__" p2) [.Constant (.str m) j p3] [] p4) none p5.line X.env = pure false) :
    _root_.PySem.wpAt (model X.prog X.w) X.A (.func body X.env) (exec (.Expr (.Call (.Attribute (.Call (.Name "super" p0) [] [] p1) "__init__" p2) [.Constant (.str m) j p3] [] p4) p5) X.env) (fun fl s' => fl = .next ∧ Inv X pins σ H s') E s := by
  obtain ⟨oc, od, fd, sl, ar, lkf, har, earg⟩ := T.fn
  obtain ⟨ccl, cdd, vs, ccs, file, tf, lkc, hvs, hfile⟩ := T.code
  obtain ⟨cl, cld, csl, lkcc⟩ := T.cell
  obtain ⟨nm, q, N, bs, bm, sn, sub, ab, col, dd, k0, k1, k2, k3, k5, hC, hbm⟩ := T.o.cls
  obtain ⟨t1, ho⟩ := exo_at I.hok he
  have KI := I.kIn
  refine ks_wpAt_Expr_any ?_ hi hsw
  refine ks_wpAt_MethodCall ?_ hE
  refine ks_wpAt_super_base (env := X.env) hsup hcls (by decide) hfu (KI _ _ lkf) rfl har hco (KI _ _ lkc) rfl hvs hfile T.top ?_
  rw [earg]
  obtain ⟨mb, b1, b2⟩ := I.mod.blt
  refine ks_loadName_global I.ok.kind hsup (Calls.loadGlobal_builtin (by rw [I.ok.glob]; exact I.mod.glob.keeps I.bk) hmg (by rw [I.ok.blt]; exact b1.keeps I.bk) ((b2 "super" (by decide)).trans PyProof.Rows.Boot.«super») ⟨rfl, ?_⟩)
  refine wpAny_loadName_free I.ok.kind hcls hcel ⟨_, KI _ _ lkcc, rfl⟩ ?_
  refine ld_name I hN hself ?_
  refine ks_wpAny_isType_cls (KI _ _ hC) rfl ⟨rfl, ?_⟩
  obtain ⟨hp, g, d, t, os⟩ := s
  refine ks_wpAny_call_super (KI _ _ hC) rfl ho rfl (fun c z => by cases z) (looks_mroIn KI T.me) (fun h1 e1 k1 => ?_)
  have I1 : Inv X pins σ H ⟨h1, g, d, t, os⟩ := I.kept (t' := t) k1
  have K1 : X.K.In h1 := I1.kIn
  have ho1 := k1 _ _ ho
  have II : InstAt h1 e _ C none := ⟨ho1, rfl, rfl, trivial⟩
  have hcl : clsIn X.K C = some { name := nm, bases := bs, mro := .ref C :: bm, ns := N, qualname := q, hasDict := true, slotNames := sn, subclasses := sub, abstract := ab, collection := col, hasDel := false } := by unfold clsIn; rw [hC] <;> rfl
  have hup := T.up
  unfold ks_superIn at hup
  rw [hcl] at hup
  have hII : Looks (model X.prog X.w) h1 (isInstance (.ref e) (.type "ValueError")) true := II.type.andThen (looks_subIn K1 T.sub)
  have nec : e ≠ C := fun z => by
    have z1 := K1 _ _ hC
    rw [← z, ho1] at z1
    cases z1
  refine kxs_getMethod kxs_ValueError e1 (looks_opaque K1 T.any) (l₀ := .ref C :: bm) (fun A Q E s k q => wpAny_bind ((looks_clsIn K1 hcl) A _ E s k (wpAny_pure q))) rfl K1 hup hII nec (by decide) ?_
  have I2 : Inv X pins σ H ⟨h1.push (kxs_mw "ValueError.__init__" e), g, d, t + 1, os⟩ := I1.kept (t' := t + 1) fun b o z => Heap.get?_push_of_some _ z
  have hu : (h1.push (kxs_mw "ValueError.__init__" e)).get? h1.objs.size = some (kxs_mw "ValueError.__init__" e) := Heap.get?_push_at rfl rfl
  refine kxs_callWith (i := "ValueError.__init__") (x := e) rfl ?_
  have hs : starEach [.Constant (.str m) j p3] X.env = (false, eval (.Constant (.str m) j p3) X.env) :: starEach [] X.env := by rfl
  rw [hs]
  show wpAny _ _ (evalArgs (.ref h1.objs.size) true ((false, eval (.Constant (.str m) j p3) X.env) :: backTo p4 (starEach [] X.env)) []) _ _ _
  refine Calls.evalArgs_plain ?_
  show wpAny _ _ (spliced ((false, eval (.Constant (.str m) j p3) X.env) :: backTo p4 (starEach [] X.env))) _ _ _
  refine Calls.spliced_cons (Calls.Constant_str ?_)
  refine Calls.spliced_nil ⟨hu, ?_⟩
  show wpAny _ X.A (call (.ref h1.objs.size) [.str m (t + 1)]) _ _ _
  generalize hh2 : h1.push (kxs_mw "ValueError.__init__" e) = h2 at I2 hu ⊢
  have I3 : Inv X pins σ H ⟨h2, g, d, t + 1 + 1, os⟩ := I2.tok _
  obtain ⟨t2, ho2⟩ := exo_at I3.hok he
  refine mw_call F.excBase_ValueError (I3.kIn _ _ hC) (t0 := t2) (dv := none) (c2 := .none) (c3 := .none) (b4 := .bool false) ho2 hu (by show 1 ≤ sizeLine; rw [sizeLine_eq]; omega) fun h' k hx => ?_
  have J := I3.write (t' := t + 1 + 1) (x := e) (e := e) (o := exo e C none) (by rw [he]; exact True.intro) (.inl rfl) k ⟨_, hx⟩ (exo_ok hx)
  have eu : upd H e (exo e C none) = H := by
    funext b
    by_cases hb : b = e
    · rw [hb, upd_same, he]
    · rw [upd_ne hb]
  rw [eu] at J
  exact ⟨rfl, J⟩
end

/-- super().__init__("..") -/
def supSt (m : Str) (j : Nat) (p0 p1 p2 p3 p4 p5 : Pos) : Stmt := .Expr (.Call (.Attribute (.Call (.Name "super" p0) [] [] p1) "__init__" p2) [.Constant (.str m) j p3] [] p4) p5
/-- an own exception's __init__ that begins with super().__init__(".."), by the rest of its body -/
theorem xinit_ok {CX : CXT} {P : Program} {w : World} {K : Frag} {mg : Str → Option Value} {base : Heap} {k : Nat} {f C cda cc : Addr} {name qual : Str} {params : Arguments} {rest : List Stmt} {scope : Scope} {dV kV doc pm ct oc : Value} {an od : Option Addr}
    {osl : Array (Option Value)} {N ps : List Str} {sp : Sp} {m : Str} {j : Nat} {p0 p1 p2 p3 p4 p5 : Pos}
    (lk : K.lookup f = some ⟨oc, od, .func (fnX name qual params (supSt m j p0 p1 p2 p3 p4 p5 :: rest) scope [("__class__", cc)] dV kV doc pm an (.ref cda) ct), osl⟩) (hcd : codeIn K (.ref cda) qual = true) (S : NScope N ps ["__class__"] scope)
    (T : XmC P K C f cda cc) (hps : ps[0]? = some ("self" : Str)) (hsup : scope.names.lookup ("super" : Str) = some .globalImplicit) (hmg : mg "super" = none)
    (len : ∀ vs H Q E, sp vs H Q E → vs.length = ps.length) (hex : ∀ vs H Q E, sp vs H Q E → ∃ e, vs[0]? = some (.ref e) ∧ H e = some (exo e C none))
    (hE : ∀ L : Addr, ∃ pl : Sem Bool, eval (.Call (.Attribute (.Call (.Name "super" p0) [] [] p1) "__init__" p2) [.Constant (.str m) j p3] [] p4) (envX qual scope L f (.ref cda) [("__class__", cc)]) = (do
      let ov ← attributeBase (.Call (.Name "super" p0) [] [] p1) "__init__" (envX qual scope L f (.ref cda) [("__class__", cc)]) (eval (.Call (.Name "super" p0) [] [] p1) (envX qual scope L f (.ref cda) [("__class__", cc)]))
      standAt p2.atName
      let (f', first) ← holding [ov] (getMethod ov "__init__" pl)
      callWith p4 f' first (backTo p4 (starEach [.Constant (.str m) j p3] (envX qual scope L f (.ref cda) [("__class__", cc)]))) []))
    (hbody : ∀ (A : Around) (outer : List Env) (s : Shared) (H : Hp) (vs : List V) (Q : VK) (E : XK), sp vs H Q E →
      ∃ t, PSs (ncx CX P w K mg base N ⟨name, qual, params, supSt m j p0 p1 p2 p3 p4 p5 :: rest, scope, [("__class__", cc)], cda⟩ f A outer s H E) rest t ∧ t { nx := fun _ H' => Q .non H', rt := Q } (startF N vs [none]) H) :
    FnOk P w K mg base CX (k + 1) f (fnX name qual params (supSt m j p0 p1 p2 p3 p4 p5 :: rest) scope [("__class__", cc)] dV kV doc pm an (.ref cda) ct) ps sp := by
  refine ⟨len, fun A outer s H args us vs Q E hr e0 hb r hsp => ?_⟩
  have hl := len _ _ _ _ hsp
  have KX : K.In s.heap := e0.mod.kin.keeps fun b o e => (e0.bs b o e).1
  have lim : s.heap.NoLimit := e0.mod.nolimit.keeps fun b o e => (e0.bs b o e).1
  obtain ⟨cl, cld, csl, lkcc⟩ := T.cell
  have CA : CellsAt [(("__class__" : Str), cc)] ["__class__"] [none] s.heap H := by
    refine ⟨rfl, fun y c e => ?_, fun x y c e1 e2 => ?_, fun i y e => ?_⟩
    · have q := PySem.mem_of_lookup e
      simp only [List.mem_singleton, Prod.mk.injEq] at q
      obtain ⟨_, rfl⟩ := q
      have z := e0.mod.kin _ _ lkcc
      exact ⟨(e0.bs _ _ z).2, _, _, (e0.bs _ _ z).1, rfl⟩
    · have q1 := PySem.mem_of_lookup e1
      have q2 := PySem.mem_of_lookup e2
      simp only [List.mem_singleton, Prod.mk.injEq] at q1 q2
      rw [q1.1, q2.1]
    · have z : y = ("__class__" : Str) := by
        have q := List.mem_of_getElem? e
        simpa using q
      subst z
      refine ⟨cc, rfl, fun v ev => ?_⟩
      have q := List.mem_of_getElem? ev
      simp at q
  refine ks_codeAny_call_defAt (body := supSt m j p0 p1 p2 p3 p4 p5 :: rest) hr.depth (KX _ _ lk) rfl lim (codeRec_of KX hcd) rfl hb S.nocell (fun ⟨n, _⟩ hy => S.par n (List.of_mem_zip hy).1) (fun h1 hns kp => ?_) S.co S.gen S.kind
  have I := inv_startN (CX := CX) (E := E) (f := f) (N := N) (F := ⟨name, qual, params, supSt m j p0 p1 p2 p3 p4 p5 :: rest, scope, [("__class__", cc)], cda⟩) (tk := s.toks + (ps.zip us).length) S hr.hd e0 hl r CA hns kp
  obtain ⟨e, ev, he⟩ := hex _ _ _ _ hsp
  have hpre : N[0]? = some ("self" : Str) := by
    have q : (N.take (ps.length + 1))[0]? = (ps ++ [("__class__" : Str)])[0]? := by exact congrArg (·[0]?) S.pre
    rw [List.getElem?_take_of_lt (by omega)] at q
    rw [q, List.getElem?_append_left (by
      cases ps with
      | nil => cases hps
      | cons a l => simp), hps]
  have hst : (startF N vs [none])[0]? = some (some (.ref e)) := by
    unfold startF
    rw [List.getElem?_append_left (by
      cases vs with
      | nil => cases ev
      | cons a l => simp), List.getElem?_map, ev]
    rfl
  obtain ⟨t, ht, hq⟩ := hbody A outer s H vs Q E hsp
  obtain ⟨pl, hE⟩ := hE s.heap.objs.size
  refine ks_wpAt_execs_cons (ks_wpAt_mono (sup_init (E := fun e s' => (ncx CX P w K mg base N ⟨name, qual, params, supSt m j p0 p1 p2 p3 p4 p5 :: rest, scope, [("__class__", cc)], cda⟩ f A outer s H E).xe e s') T I he ⟨0, hpre, hst⟩ (S.par _ (List.mem_of_getElem? hps)) hsup (S.frk _ (List.mem_singleton.mpr rfl)) rfl rfl rfl hmg I.quiet hE (by rfl)) (fun fl s' hj => ?_) (fun _ _ x => x))
  obtain ⟨ef, J⟩ := hj
  subst ef
  refine wpAt_of_wpAny ?_
  refine wpAny_mono (ht.run [] _ _ H _ J hq) (fun fl s' hs => ?_) fun e s' hs => hs
  have fin : ∀ {σ' : L2.St} {H' : Hp} {v : V} {u : Value}, Inv (ncx CX P w K mg base N ⟨name, qual, params, supSt m j p0 p1 p2 p3 p4 p5 :: rest, scope, [("__class__", cc)], cda⟩ f A outer s H E) [] σ' H' s' → L2.RelV v u → Q v H' → CE outer P w H s Q u s' :=
    fun {σ' H' v u} J rv q => ⟨v, H', J.os, J.bare, J.base, J.hok, rv, q⟩
  cases fl with
  | ret u =>
    obtain ⟨v, σ', H', J, rv, q⟩ := hs
    exact fin J rv q
  | next =>
    obtain ⟨σ', H', J, q⟩ := hs
    exact fin (v := V.non) (u := Value.none) J rfl q
  | brk =>
    obtain ⟨_, _, _, q⟩ := hs
    exact False.elim q
  | cont =>
    obtain ⟨_, _, _, q⟩ := hs
    exact False.elim q
end L2

set_option Elab.async false
set_option linter.all false
set_option maxRecDepth 100000
/-! Defs that raise; raising own exceptions with one field; a caught exception that is kept. -/
namespace Wc
open PySem PySem.Spec PySem.W PyProof.Rows L2
section
variable {P : Program} {w : World} {K : Frag} {mg : Str → Option Value} {base : Heap}
/-- a def that may raise, as its callers see it -/
def HasX (P : Program) (w : World) (K : Frag) (mg : Str → Option Value) (base : Heap) (x : Str) (k : Nat) (ps : List Str) (sp : Sp) : Prop :=
  ∃ (f : Addr) (fd : FuncData), mg x = some (.ref f) ∧ keepIn K (.ref f) = true ∧ Binds K fd ps [] ∧ FnOk P w K mg base (L2.CX P w) k f fd ps sp
theorem DefAt.okX {x : Str} {st : Stmt} {N ps : List Str} {k : Nat} {sp : Sp} (D : DefAt K mg x st ps) (S : FnScope N ps (defScope st)) (len : ∀ vs H Q E, sp vs H Q E → vs.length = ps.length)
    (hbody : ∀ (f : Addr) (cdv : Value) (A : Around) (outer : List Env) (s : Shared) (H : Hp) (vs : List V) (Q : VK) (E : XK), Room k (A.deeper (envOfC x (defScope st) s.heap.objs.size f cdv)) → sp vs H Q E →
      ∃ t, PSs (cxOf (L2.CX P w) P w K mg base N x (defScope st) f cdv A outer s H E) (defBody st) t ∧ t { nx := fun _ H' => Q .non H', rt := Q } (start N vs) H) : HasX P w K mg base x (k + 1) ps sp := by
  obtain ⟨f, fd, F, hm, hb⟩ := D
  exact ⟨f, fd, hm, F.kp, hb, F.okX S len (hbody f)⟩
end
theorem pe_ownX {X : Cx} {x : Str} {k : Nat} {ps : List Str} {sp : Sp} {E : L2.St → XK} {p pos : Pos} {e : Expr} {es : List Expr} {t : TA} (F : HasX X.prog X.w X.K X.mg X.base x k ps sp) (hr : Room k X.A) (hg : Gl X x) (hx : ∀ σ, PassesAt (L2.CX X.prog X.w) X σ (E σ)) (ha : PA X (e :: es) t)
    (nodebug : (x == ("__debug__" : Str)) = false := by decide)
    (first : starEach (e :: es) X.env = (false, eval e X.env) :: starEach es X.env := by rfl)
    (plain : (backTo pos (starEach es X.env)).any (·.1) = false := by rfl) :
    PE X (.Call (.Name x p) (e :: es) [] pos) (tCallS sp E t) := by
  refine ⟨fun pins s σ H Q I h => ?_⟩
  obtain ⟨f, fd, hm, hk, hb, F⟩ := F
  exact (pe_callS F hr hg hm hk hb hx ha nodebug first plain).run pins s σ H Q I h
/-- in a def that may raise: what a callee lets out goes on -/
theorem out_at {P : Program} {w : World} {K : Frag} {mg : Str → Option Value} {base : Heap} {N : List Str} {q : Str} {sc : Scope} {f : Addr} {cdv : Value} {A : Around} {outer : List Env} {s : Shared} {H : Hp} {E : XK} (σ : L2.St) :
    PassesAt (L2.CX P w) (cxOf (L2.CX P w) P w K mg base N q sc f cdv A outer s H E) σ (WE (fun cls d _ H => E cls d H) σ) := passAt (takes_of rfl rfl rfl rfl) σ

/-! ### an own exception class whose instances hold one field -/
def spX1 (C : Addr) (f : Str) : Sp := fun vs H Q _ => ∃ (e : Addr) (x : V), vs = [.ref e, x] ∧ H e = some (exo e C none) ∧ ∀ dx, H dx = none → dx ≠ e → Q .non (upd (upd H dx (exd dx [(f, x)])) e (exo e C (some dx)))
/-- the class x at C: a call makes an exception whose field f is the argument -/
structure X1 (P : Program) (w : World) (K : Frag) (mg : Str → Option Value) (base : Heap) (x : Str) (C : Addr) (f : Str) : Prop where
  o : OexC K C
  at_ : mg x = some (.ref C)
  ini : ∃ (fI : Addr) (fd : FuncData), findIn K (.ref C) "__init__" = some (some (.ref fI)) ∧ typeIn K (.ref fI) = some (.type "function") ∧ Binds K fd ["self", f] [] ∧ FnOk P w K mg base CX0 1 fI fd ["self", f] (spX1 C f)
theorem del_new {H : Hp} {a dx : Addr} {o o1 o2 : HO} (h : H a = none) (hd : dx ≠ a) : del (upd (upd (upd H a o) dx o1) a o2) a = upd H dx o1 := by
  funext b
  unfold del
  by_cases hb : b = a
  · rw [if_pos hb, hb, upd_ne (Ne.symm hd), h]
  · rw [if_neg hb, upd_ne hb]
    by_cases hx : b = dx
    · rw [hx, upd_same, upd_same]
    · rw [upd_ne hx, upd_ne hb, upd_ne hx]
theorem upd_twice {H : Hp} {a : Addr} {o1 o2 : HO} : upd (upd H a o1) a o2 = upd H a o2 := by
  funext b
  by_cases hb : b = a
  · rw [hb, upd_same, upd_same]
  · rw [upd_ne hb, upd_ne hb, upd_ne hb]
/-- raise x(e): what is wanted behind e -/
theorem raise1_of {C : Addr} {f : Str} {v : V} {H1 : Hp} {Q : XK} (h : ∀ d, H1 d = none → Q (.ref C) (some d) (upd H1 d (.xd [(f, v)]))) :
    [v].length ≤ 1000 ∧ ∀ a, H1 a = none → spX1 C f (.ref a :: ([v] ++ [])) (upd H1 a (exo a C none))
      (fun u H2 => u = .non ∧ ∃ (d : Addr) (fs : List (Str × V)), H2 a = some (exo a C (some d)) ∧ H2 d = some (exd d fs) ∧ H1 d = none ∧ Q (.ref C) (some d) (upd (del H2 a) d (.xd fs))) (fun _ _ _ => False) := by
  refine ⟨by simp, fun a na => ⟨a, v, rfl, upd_same, fun dx nd dne => ⟨rfl, dx, [(f, v)], upd_same, ?_, ?_, ?_⟩⟩⟩
  · rw [upd_ne dne, upd_same]
  · rw [upd_ne dne] at nd
    exact nd
  · have nd' : H1 dx = none := by
      rw [upd_ne dne] at nd
      exact nd
    rw [del_new na dne, upd_twice]
    exact h dx nd'
theorem ps_raise1 {X : Cx} {W : WX} {x f : Str} {C : Addr} {e : Expr} {te : TE} {p pos pos' : Pos} (hc : X.calm = true) (tk : Takes X W) (T : X1 X.prog X.w X.K X.mg X.base x C f) (hr : Room 2 X.A) (hg : Gl X x) (he : PE X e te)
    (hdb : (x == ("__debug__" : Str)) = false := by decide) (hs : starEach [e] X.env = (false, eval e X.env) :: starEach [] X.env := by rfl) (hpl : (backTo pos (starEach [] X.env)).any (·.1) = false := by rfl) :
    PS X (.Raise (some (.Call (.Name x p) [e] [] pos)) none pos') (fun _ σ H => tMkO C (spX1 C f) [] (tCons te tNil) σ H fun cls d H' => W cls d σ H') := by
  have h := T.ini
  refine ⟨fun pins s σ H D I q => ?_⟩
  obtain ⟨fI, fd, h1, h2, h3, h4⟩ := h
  exact (ps_raise (pos := pos') hc tk (pmk_oex (p := p) (pos := pos) T.o h1 h2 h4 hr h3 .nil pass0 hg T.at_ (pa_cons he pa_nil hs) hdb hs hpl)).run pins s σ H D I q

/-! ### a caught exception that is kept in a variable -/
/-- at a: an exception of the class cls, its dict d, that nothing raises any more -/
def KxO (cls : Value) (d : Option Addr) (a : Addr) : HO := .ext fun h => ∃ (oe : Obj) (vs : Array Value), h.get? a = some oe ∧ Zc cls d oe ∧ oe.data = .fields vs
theorem kxO_ok {P : Program} {w : World} {H : Hp} {h : Heap} {a : Addr} {cls : Value} {d : Option Addr} {oe : Obj} {vs : Array Value} (e : h.get? a = some oe) (z : Zc cls d oe) (hd : oe.data = .fields vs) : ObjOk P w H h a (KxO cls d a) :=
  ⟨⟨oe, vs, e, z, hd⟩, ⟨oe, e⟩, fun _ _ ⟨o, v, q, r⟩ k => ⟨o, v, k o q, r⟩⟩
/-- an object of ours that is not tracked yet may be tracked -/
theorem Inv.track {X : Cx} {pins : List (Addr × Obj)} {σ : L2.St} {H : Hp} {s : Shared} {a : Addr} {o : HO} (I : Inv X pins σ H s) (na : H a = none) (n0 : X.s_0.heap.get? a = none) (nL : a ≠ X.env.locals) (nC : ∀ x c, X.env.cells.lookup x = some c → c ≠ a) (hp : ∀ p ∈ X.pn ++ pins, p.1 ≠ a)
    (new : ObjOk X.prog X.w (upd H a o) s.heap a o) : Inv X pins σ (upd H a o) s := by
  refine ⟨I.ok, I.os, I.bare, ⟨I.base.keep, I.base.slot, fun b u e n hx => ?_, I.base.there, fun b xs e => ?_, fun b u xs e => ?_, fun b ps e => ?_⟩, I.loc, I.cell, ?_, fun x c e => ?_, fun p h => ?_, fun b u e => ?_, I.len⟩
  · rw [upd_ne (fun z => by rw [z, n0] at e; cases e)]
    exact I.base.free b u e n hx
  · rw [upd_ne (ne_of_none (I.base.tups b xs e) na)]
    exact I.base.tups b xs e
  · rw [upd_ne (ne_of_none (I.base.frzs b u xs e) na)]
    exact I.base.frzs b u xs e
  · obtain ⟨m, q⟩ := I.base.tbls b ps e
    exact ⟨m, by rw [upd_ne (ne_of_none q na)]; exact q⟩
  · rw [upd_ne (Ne.symm nL)]
    exact I.free
  · rw [upd_ne (nC x c e)]
    exact I.freeC x c e
  · obtain ⟨e, n, ne, nf, d⟩ := I.pin p h
    exact ⟨e, by rw [upd_ne (hp p h)]; exact n, ne, nf, d⟩
  · by_cases hb : b = a
    · rw [hb, upd_same] at e
      cases e
      rw [hb]
      exact new
    · rw [upd_ne hb] at e
      exact (I.hok b u e).stay (fun _ _ _ q => q) (fun c q => by rw [upd_ne (ne_of_none q na)]; exact q) fun c xs q => by rw [upd_ne (ne_of_none q na)]; exact q
/-- what the clause 'except x as n: m = n' wishes of an exception of the body: slot i is n's, slot j is m's; no other exception comes -/
def wKeep (K : Frag) (c : Value) (i j : Nat) (D : Ends) : WX := fun cls d σ H =>
  exmOne K cls c = some true ∧ ∀ a, H a = none → D.nx (((σ.set i (some (.ref a))).set j (some (.ref a))).set i none) (upd H a (KxO cls d a))
theorem ps_try_keep {X : Cx} {x n m : Str} {c : Value} {i j : Nat} {body : List Stmt} {np q1 q2 q3 pos pos' : Pos} {tb : WX → TS} (hs : X.stack = X.env :: X.outer) (hfr : X.env.frame = some X.env.locals) (hex : X.ex = []) (hN : X.N.Nodup)
    (hi : X.N[i]? = some n) (hj : X.N[j]? = some m) (hin : X.env.kindOf n = some .local) (hjm : X.env.kindOf m = some .local) (hc : Names X x c) (nd : (n == ("__debug__" : Str)) = false) (nc : (n == ("__classdict__" : Str)) = false)
    (hb : ∀ (W : WX) (pn : List (Addr × Obj)) (xe : Value → Shared → Prop), Takes (X.tr pn xe) W → PassesOwn (model X.prog X.w) X.A X.env xe → PSs (X.tr pn xe) body (tb W)) :
    PS X (.Try body [.ExceptHandler (some (.Name x np)) (some n) [.Assign [.Name m q1] (.Name n q2) q3] pos'] [] [] pos) (fun D σ H => tb (wKeep X.K c i j D) D σ H) := by
  constructor
  intro pins s σ H D I0 h0
  have okX := I0.ok
  have frA : X.A.frames = some (X.env :: X.outer) := by
    rw [okX.frames, hs]
  apply wpAny_Try_except
  let xe0 : Value → Shared → Prop := fun e sa => wpAny (model X.prog X.w) X.A (noteFrame e X.env)
    (fun _ sb => wpAny (model X.prog X.w) X.A (setFlight e none)
      (fun _ sc => wpAny (model X.prog X.w) X.A (handleBy e X.env [.ExceptHandler (some (.Name x np)) (some n) [.Assign [.Name m q1] (.Name n q2) q3] pos']) (SP X pins D) X.xe sc) X.xe sb) X.xe sa
  have takes : Takes (X.tr (X.pn ++ pins) xe0) (wKeep X.K c i j D) := by
    rintro u se ⟨a, B, sI, pins1, σ1, H1, cls, d, rfl, IT, ground, up0, sky0, na, eos, bare, hmat, hwish⟩
    have IX : Inv X pins σ1 H1 sI := IT.ofTry okX
    have sky1 : Sky B (X.env :: X.outer) a (Zc cls d) X.env.locals se.heap := by
      rw [← hs]
      exact sky0
    show wpAny (model X.prog X.w) X.A (noteFrame (.ref a) X.env) _ _ _
    apply Sky.land Zc.steady frA hfr sky1
    intro ha fa ua
    have Ia : Inv X pins σ1 H1 { se with heap := ha } := IX.landed ground fa.1 (up0.trans ua) eos bare
    obtain ⟨o1, v1, g1, z1, d1⟩ := fa.there
    have offFrames : a ∉ frs (X.env :: X.outer) := by
      intro hm
      obtain ⟨_, o2, g2, hnf⟩ := fa.2.2.1.mem hm
      have same := g1.symm.trans g2
      cases same
      exact hnf _ d1
    have offL : a ≠ X.env.locals := by
      intro z
      apply offFrames
      exact List.mem_filterMap.mpr ⟨X.env, List.mem_cons_self, by rw [hfr, z]⟩
    have offF : a ∉ X.fs := by
      intro hm
      obtain ⟨e, he, q⟩ := List.mem_filterMap.mp hm
      exact offFrames (List.mem_filterMap.mpr ⟨e, List.mem_cons_of_mem _ he, q⟩)
    have notI : sI.heap.get? a = none := by
      cases q : sI.heap.get? a with
      | none => rfl
      | some o =>
        have z := ground a o q (by rw [hs]; exact offFrames)
        rw [fa.2.1] at z
        cases z
    have not0 : X.s_0.heap.get? a = none := by
      cases q : X.s_0.heap.get? a with
      | none => rfl
      | some o =>
        obtain ⟨o', z⟩ := IX.base.there a o q (by rw [hex]; exact fun z => nomatch z)
        rw [notI] at z
        cases z
    have notP : ∀ p ∈ X.pn ++ pins, p.1 ≠ a := by
      intro p hp z
      have q := (IX.pin p hp).1
      rw [z, notI] at q
      cases q
    have Sa := Ia.suite g1 d1 na offL offF
    apply wpAny_handleBy_cons
    rotate_left
    · intro q
      cases q
    apply codeAny_handlers_test
    have clsOf : Looks (model X.prog X.w) ha (typeOf (.ref a)) cls := fun A Q E s k q => wpAny_typeOf_ref (k _ _ g1) (by rw [z1.1]; exact q)
    have fits := exm_one (M := model X.prog X.w) Ia.kIn clsOf hmat
    have named : ∀ {Q E : Value → Shared → Prop}, Q c { se with heap := ha } → wpAny (model X.prog X.w) (X.A.mark (some (.ref a))) (eval (.Name x np) X.env) Q E { se with heap := ha } := by
      intro Q E q
      obtain ⟨gl, ndb, r⟩ := hc
      rcases r with r | ⟨r1, r2, r3⟩
      · exact ld_glob (X := X.suite a ((a, o1) :: (X.pn ++ pins))) Sa gl r q ndb
      · exact ld_blt (X := X.suite a ((a, o1) :: (X.pn ++ pins))) Sa gl r1 r2 q r3 ndb
    apply named
    apply fits.here
    apply codeAny_handlers_suite_as
    apply HandSPX.lands_againZ fa
    intro hb2 fb ub
    have Ib : Inv X pins σ1 H1 { se with heap := hb2 } := IX.landed ground fb.1 ((up0.trans ua).trans ub) eos bare
    obtain ⟨o2, v2, g2, z2, d2⟩ := fb.there
    have Sb := Ib.suite g2 d2 na offL offF
    refine store_ok (X := X.suite a ((a, o2) :: (X.pn ++ pins))) (v := .ref a) Sb hN hi (.inl hin) rfl (fun s5 S5 => ?_) (.inr hin)
    have assign : PSs (X.suite a ((a, o2) :: (X.pn ++ pins))) [.Assign [.Name m q1] (.Name n q2) q3] (tAsg (tVar i) (gName j)) := pss_one (ps_set (i := j) hN hj (.inl hjm) (pe_var (i := i) hi (.inl hin) nd nc) (by rfl) (.inr hjm))
    have ilt : i < σ1.length := by
      rw [IX.len]
      exact (List.getElem?_eq_some_iff.mp hi).1
    have done := assign.run [] s5 (σ1.set i (some (.ref a))) H1 { nx := fun σ6 H6 => σ6 = (σ1.set i (some (.ref a))).set j (some (.ref a)) ∧ H6 = H1, rt := fun _ _ => False } S5 ⟨.ref a, List.getElem?_set_self ilt, rfl, rfl⟩
    refine wpAny_mono done (fun fl s6 out => ?_) (fun _ _ z => False.elim z)
    cases fl with
    | next =>
      obtain ⟨σ6, H6, S6, e6, eh⟩ := out
      subst e6 eh
      have g6 := (S6.pin (a, o2) (List.mem_append_left _ List.mem_cons_self)).1
      have J6 : Inv X pins ((σ1.set i (some (.ref a))).set j (some (.ref a))) H6 s6 := S6.unsuite okX
      have noCell : ∀ y b, X.env.cells.lookup y = some b → b ≠ a := by
        intro y b e z
        obtain ⟨v, o, go, dv⟩ := J6.cell y b e
        rw [z] at go
        have same := go.symm.trans g6
        cases same
        rw [d2] at dv
        cases dv
      have T6 := Inv.track J6 na not0 offL noCell notP (kxO_ok g6 z2 d2)
      exact gone_ok T6 hN hi hin fun s7 J7 => ⟨_, _, J7, hwish a na⟩
    | brk =>
      obtain ⟨_, _, _, z⟩ := out
      exact z.elim
    | cont =>
      obtain ⟨_, _, _, z⟩ := out
      exact z.elim
    | ret u =>
      obtain ⟨_, _, _, _, _, z⟩ := out
      exact z.elim
  have run := (hb (wKeep X.K c i j D) (X.pn ++ pins) xe0 takes PassesOwn.looking).run [] s σ H D (I0.toTry _) h0
  refine wpAny_mono run (fun fl s1 out => ?_) (fun _ _ z => z)
  cases fl with
  | next =>
    obtain ⟨σ1, H1, J, q⟩ := out
    exact wpAny_execs_nil ⟨σ1, H1, J.ofTry okX, q⟩
  | brk =>
    obtain ⟨σ1, H1, J, q⟩ := out
    exact ⟨σ1, H1, J.ofTry okX, q⟩
  | cont =>
    obtain ⟨σ1, H1, J, q⟩ := out
    exact ⟨σ1, H1, J.ofTry okX, q⟩
  | ret u =>
    obtain ⟨v, σ1, H1, J, r, q⟩ := out
    exact ⟨v, σ1, H1, J.ofTry okX, r, q⟩

/-- error.f, error a kept exception -/
def tKxf (C : Addr) (f : Str) (te : TE) : TE := fun σ H Q => te σ H fun x H1 => ∃ (a d : Addr) (fs : List (Str × V)) (v : V), x = .ref a ∧ H1 a = some (KxO (.ref C) (some d) a) ∧ H1 d = some (.xd fs) ∧ fs.lookup f = some v ∧ Q v H1
theorem pe_kxf {X : Cx} {C : Addr} {e : Expr} {te : TE} {pos : Pos} {n : Str} (T : XfC X.K C) (hno : findIn X.K (.ref C) n = some none) (he : PE X e te) (hb : attributeBase e n X.env (eval e X.env) = eval e X.env := by rfl) :
    PE X (.Attribute e n pos) (tKxf C n te) := by
  constructor
  intro pins s σ H Q I h
  apply attr_of hb
  refine thn (he.run pins s σ H _ I h) fun u s1 got => ?_
  obtain ⟨x, H1, I1, rx, a, d, fs, v, rfl, ea, ed, lk, q⟩ := got
  obtain rfl : u = Value.ref a := rx
  obtain ⟨⟨oe, vs, go, z, dt⟩, _, _⟩ : ObjOk X.prog X.w H1 s1.heap a (KxO (.ref C) (some d) a) := I1.hok a _ ea
  obtain ⟨mA, names, rel⟩ : ObjOk X.prog X.w H1 s1.heap d (.xd fs) := I1.hok d _ ed
  obtain ⟨od, gd, look⟩ := lookIn_ns names
  have rn := rel n
  rw [lk] at rn
  obtain ⟨w, hw, rw'⟩ := RelO.some_of rn
  have J : InstAt s1.heap a oe C (some od) := ⟨go, z.1, by unfold notCls; rw [dt] <;> rfl, by rw [z.2]; exact gd⟩
  exact HandSPX.exc_get I1.kIn J T.ga T.gg T.exC (findObj_own T.hdC hno rfl (by rw [look, hw])) (handed_of rw') ⟨v, H1, I1.tok _, rw', q⟩
end Wc

set_option Elab.async false
set_option linter.all false
set_option maxRecDepth 100000
/-! The residues of any valid network: they are returned, or the first group whose sum is not 0 is reported. -/
namespace Wc
open PySem PySem.Spec PyProof.Rows L2
/-- the first places of the groups whose sum is not 0 -/
noncomputable def wrongs (N : Net) : List Nat := (firsts (OEdge N.tubes none) N.many).filter fun x => !decide (N.total (comp (OEdge N.tubes none) N.many x) = 0)
theorem calm_iff {N : Net} : Calm N ↔ wrongs N = [] := by
  unfold Calm wrongs
  rw [List.filter_eq_nil_iff]
  constructor
  · intro h x hx
    simp [h x hx]
  · intro h x hx
    have := h x hx
    simpa using this
theorem any_left {N : Net} {B : List Br} {R L : List Int} (hr : Read N B R L) (ok : NetOk N) (hB : BrsOf N.tubes B) (h : wrongs N ≠ []) : (L.any fun i => i != 0) = true := by
  cases e : L.any fun i => i != 0 with
  | true => rfl
  | false =>
    exfalso
    apply h
    rw [← calm_iff]
    rw [List.any_eq_false] at e
    have z : ∀ v, L.getD v 0 = 0 := by
      intro v
      by_cases hv : v < L.length
      · have q := e (L[v]) (List.getElem_mem hv)
        rw [List.getD_eq_getElem?_getD, List.getElem?_eq_getElem hv]
        simpa using q
      · rw [List.getD_eq_getElem?_getD, List.getElem?_eq_none (by omega)]
        rfl
    intro x hx
    rw [← hr.group ok hB]
    unfold sumR
    exact sum_map_zero fun v _ => z v
section
variable {P : Program} {w : World} {K : PySem.W.Frag} {mg : Str → Option Value} {base : Heap}
/-- the wish for the report of the first wrong group -/
def OutSum (CG : Addr) (N : Net) (H : Hp) (E : XK) : Prop := ∀ x, (wrongs N).head? = some x → ∀ H' d g, Same H H' → H d = none → H' d = some (.xd [("group", .ref g)]) → H' g = some (.tup ((comp (OEdge N.tubes none) N.many x).map natV)) → E (.ref CG) (some d) H'
def sp_checked_residuesX (K : PySem.W.Frag) (CG : Addr) : Sp := fun vs H Q E => ∃ (na l : Addr) (N : Net) (B : List Br), vs = [.ref na, .ref l] ∧ NetAt K H na N ∧ NetOk N ∧ BrsAt H l B ∧ BrsOf N.tubes B ∧
  (Calm N → ∀ H' ka, Same H H' → H ka = none → H' ka = some (.lst ((N.resL N.tubes.length).map V.int)) → Q (.ref ka) H') ∧ OutSum CG N H E
theorem hasX_checked_residues {CG : Addr} (D : DefAt K mg "checked_residues" s_checked_residues ["network", "branches"]) (T : Blt mg) (x_GroupSum : X1 P w K mg base "GroupSum" CG "group") (h_read_meters : Has P w K mg base "read_meters" 3 ["network", "branches"] (sp_read_meters K)) (h_find_sums : Has P w K mg base "find_sums" 2 ["network", "branches", "left"] (sp_find_sums0 K)) :
    HasX P w K mg base "checked_residues" 4 ["network", "branches"] (sp_checked_residuesX K CG) := by
  refine D.okX sc_checked_residues (fun vs H Q E h => ?_) (fun f cdv A outer s H vs Q E hr h => ?_)
  · obtain ⟨na, l, N, B, rfl, _⟩ := h
    rfl
  · obtain ⟨na, l, N, B, rfl, hN, ok, hBA, hB, qc, qx⟩ := h
    refine ⟨_, (pss_cons (ps_asg (pe_own h_read_meters (hr.mono (by decide)) (by rfl) (pa_cons (pv 0) (pa_cons (pv 1) pa_nil))) (pg_tup rfl (pgs_cons (pg_name (i := 2) sc_checked_residues.nd rfl (.inl rfl)) (pgs_cons (pg_name (i := 3) sc_checked_residues.nd rfl (.inl rfl)) pgs_nil))))
      (pss_cons (ps_if (pt_val (pe_callB (cr_anyI rfl) (by rfl) T.b_any (by decide +kernel) (pa_cons (pv 3) pa_nil))) (pss_cons (ps_setLc (i := 4) (own := [("group", 5), ("total", 6)]) (g := gTup K 2 (gCons (gName 5) (gCons (gName 6) gNil))) rfl sc_checked_residues.nd rfl rfl (sw_true rfl rfl rfl (by decide +kernel)) (pi_tup (pe_own h_find_sums (hr.mono (by decide)) (by rfl) (pa_cons (pv 0) (pa_cons (pv 1) (pa_cons (pv 3) pa_nil))))) (blkOk_by (N := ["network", "branches", "known", "left", "wrong", "group", "total"]) (sc := defScope s_checked_residues) (by decide +kernel)) (fun _ _ _ _ _ => (pg_tupK K 2 rfl (pgs_cons (pg_name (i := 5) sc_checked_residues.nd rfl (Or.inl rfl)) (pgs_cons (pg_name (i := 6) sc_checked_residues.nd rfl (Or.inl rfl)) pgs_nil)))) (fun _ _ _ _ _ => (pts_one (pt_cmpR op_ne (pv 6) pe_int (nomark _)))) (fun _ _ _ _ _ => (pv 5)))
      (pss_one (ps_raise1 rfl (takes_of rfl rfl rfl rfl) x_GroupSum (hr.mono (by decide)) (by rfl) (pe_ix ix_list (pv 4) pe_int (fun _ _ => rfl))))) pss_nil)
      (pss_one (ps_ret (pv 2))))), ?_⟩
    refine ⟨_, rfl, _, rfl, na, l, N, B, rfl, hN, ok, hBA, hB, fun H2 t ka la R L s2 ht hka hla ht2 hk2 hl2 hread => ?_⟩
    refine ⟨t, _, rfl, SqT.of ht2, rfl, _, _, rfl, _, _, rfl, rfl, ?_⟩
    refine ⟨_, rfl, la, L, rfl, SqL.of hl2, _, rfl, ?_⟩
    by_cases hw : wrongs N = []
    · have calm := calm_iff.mpr hw
      have hz := hread.calm ok hB calm
      have hany : (L.any fun i => i != 0) = false := by
        rw [List.any_eq_false]
        intro x hx
        obtain ⟨v, hv, e⟩ := List.getElem_of_mem hx
        have h0 := hz v (by rw [← hread.ll]; exact hv)
        rw [List.getD_eq_getElem?_getD, List.getElem?_eq_getElem hv] at h0
        have : x = 0 := by
          rw [← e]
          exact h0
        simp [this]
      have hR := hread.res ok hB calm
      rw [hany]
      exact iteF ⟨_, rfl, qc calm H2 ka s2 hka (by rw [← hR]; exact hk2)⟩
    · rw [any_left hread ok hB hw]
      refine iteT ?_
      refine ⟨_, rfl, _, rfl, _, rfl, na, l, la, N, B, L, rfl, hN.keep s2.keepT, ok, hBA.same s2, hB, hl2, hread.ll, fun H3 t3 ps s3 ht3 hps hP => ⟨t3, rfl, ⟨_, SqT.of hps⟩, fun D1 hD1 => ?_⟩⟩
      have hP := hP.sums hread ok hB
      have hfl : (firsts (OEdge N.tubes none) N.many).length ≤ 24 := by
        have h2 : (firsts (OEdge N.tubes none) N.many).length ≤ (List.range N.many).length := List.length_filter_le _ _
        rw [List.length_range] at h2
        exact Nat.le_trans h2 ok.m24
      have hpl : ps.length = (firsts (OEdge N.tubes none) N.many).length := Paired.length hP
      refine lc_it (walk_tup (xs := ps.map V.ref)) (fun i H' => Same H3 H' ∧ ∃ gs, H' D1 = some (.lst (gs.map V.ref)) ∧ Paired (fun g x => H3 g = some (.tup ((comp (OEdge N.tubes none) N.many x).map natV))) gs (((firsts (OEdge N.tubes none) N.many).take i).filter fun x => !decide (N.total (comp (OEdge N.tubes none) N.many x) = 0)))
        ⟨same_upd hD1, [], upd_same, .nil⟩ (fun i H' _ ⟨s4, _⟩ => SqT.of (s4 _ _ hps)) ?_ ?_
      · rintro i v H4 H5 hi ⟨s4, gs, hgs, hG⟩ ⟨rfl, hv⟩
        have hil : i < ps.length := by rw [List.length_map] at hi; exact hi
        have hpi : ps[i]? = some ps[i] := List.getElem?_eq_getElem hil
        generalize ps[i] = p at hpi
        have hv2 : (ps.map V.ref)[i]? = some v := hv
        rw [List.getElem?_map, hpi] at hv2
        have ev : V.ref p = v := Option.some.inj hv2
        subst ev
        obtain ⟨x, hx, g, hpx, hgx⟩ := paired_get hP hpi
        have hp4 := s4 _ _ hpx
        have htk : (firsts (OEdge N.tubes none) N.many).take (i + 1) = (firsts (OEdge N.tubes none) N.many).take i ++ [x] := by
          rw [List.take_add_one, hx]
          rfl
        have hgl : gs.length ≤ 24 := by
          rw [Paired.length hG]
          refine Nat.le_trans (List.length_filter_le _ _) ?_
          rw [List.length_take]
          omega
        refine ⟨p, _, rfl, SqT.of hp4, rfl, _, _, rfl, _, _, rfl, rfl, ?_⟩
        refine ⟨rfl, _, rfl, rfl, _, rfl, ite2 (fun hne => ?_) (fun hne => ?_)⟩
        · have hne' : (!decide (N.total (comp (OEdge N.tubes none) N.many x) = 0)) = true := by
            rw [dec_int] at hne
            simpa using hne
          refine ⟨_, rfl, _, hgs, small1000 (by rw [List.length_map]; omega), fun b o e => ?_, gs ++ [g], ?_, ?_⟩
          · rw [upd_ne (ne_of_none e hD1)]
            exact s4 _ _ e
          · rw [upd_same, List.map_append]
            rfl
          · rw [htk, List.filter_append, List.filter_cons, if_pos hne']
            exact Paired.snoc hG hgx
        · have he' : (!decide (N.total (comp (OEdge N.tubes none) N.many x) = 0)) = false := by
            rw [dec_int] at hne
            simpa using hne
          refine ⟨s4, gs, hgs, ?_⟩
          rw [htk, List.filter_append, List.filter_cons, if_neg (by rw [he']; decide)]
          rw [List.filter_nil, List.append_nil]
          exact hG
      · rintro H4 ⟨s4, gs, hgs, hG⟩
        rw [List.length_map, hpl, List.take_length] at hG
        obtain ⟨x, xr, hwx⟩ : ∃ x xr, wrongs N = x :: xr := by
          cases e : wrongs N with
          | nil => exact absurd e hw
          | cons x xr => exact ⟨x, xr, rfl⟩
        have hG' : Paired (fun g x => H3 g = some (.tup ((comp (OEdge N.tubes none) N.many x).map natV))) gs (wrongs N) := hG
        rw [hwx] at hG'
        cases hG' with
        | @cons g _ gr _ hg0 hgr =>
          refine ⟨_, rfl, D1, _, 0, _, rfl, rfl, SqL.of hgs, atI_nat (j := 0) rfl, raise1_of fun d hd => ?_⟩
          have s5 : Same H4 (upd H4 d (.xd [("group", .ref g)])) := same_upd hd
          have sall := ((s2.trans s3).trans s4).trans s5
          exact qx x (by rw [hwx]; rfl) _ d g sall (((s2.trans s3).trans s4).free hd) upd_same ((s4.trans s5) _ _ hg0)
end
end Wc

set_option Elab.async false
set_option linter.all false
set_option maxRecDepth 100000
/-! What isinstance tells stays. -/
namespace Wc
open PySem PySem.Spec PyProof.Rows L2
theorem tyOf_same {K : PySem.W.Frag} {H H' : Hp} (s : Same H H') {v : V} {t : Value} (h : TyOf K H v t) : TyOf K H' v t := by
  cases h with
  | non => exact .non
  | bl x => exact .bl x
  | int i => exact .int i
  | str x => exact .str x
  | flt x => exact .flt x
  | lst e => exact .lst (s _ _ e)
  | frz e => exact .frz (s _ _ e)
  | tup e => exact .tup (s _ _ e)
  | dK e => exact .dK (s _ _ e)
  | dT e => exact .dT (s _ _ e)
  | ins e h1 h2 h3 h4 h5 => exact .ins (s _ _ e) h1 h2 h3 h4 h5
theorem tyX_same {K : PySem.W.Frag} {H H' : Hp} (s : Same H H') {v : V} {t : Value} (h : TyX K H v t) : TyX K H' v t := by
  cases h with
  | base b => exact .base (tyOf_same s b)
  | byt b => exact .byt b
  | set e => exact .set (s _ _ e)
  | kList e c => exact .kList e c
  | kTuple e c => exact .kTuple e c
  | kDict e c => exact .kDict e c
  | fTuple e => exact .fTuple (s _ _ e)
  | fDict e => exact .fDict (s _ _ e)
end Wc

set_option Elab.async false
set_option linter.all false
set_option maxRecDepth 100000
/-! Sets of places; the pipes that enter and leave them. -/
namespace Wc
open PySem PySem.Spec PyProof.Rows L2
/-- whether the values, behind a place less than lo, are a set of the places below n -/
def setB (n : Int) : Int → List V → Bool
  | _, [] => true
  | lo, .int i :: xs => decide (lo ≤ i) && decide (i ≤ n - 1) && setB n (i + 1) xs
  | _, _ :: _ => false
/-- each value is an int or a thing that isinstance tells apart from ints -/
def Kinds (K : PySem.W.Frag) (H : Hp) (xs : List V) : Prop := ∀ x ∈ xs, (∃ i : Int, x = .int i) ∨ (NotInt K H x ∧ ∀ i : Int, x ≠ .int i)
section
variable {P : Program} {w : World} {K : PySem.W.Frag} {mg : Str → Option Value} {base : Heap}
abbrev s_is_number_set : Stmt := top 18
theorem sc_is_number_set : FnScope ["value", "end", "least", "number"] ["value", "end"] (defScope s_is_number_set) := ⟨rfl, rfl, rfl, by decide +kernel, rfl, by decide +kernel, by decide +kernel⟩
def sp_is_number_set (K : PySem.W.Frag) : Sp := fun vs H Q _ => ∃ (v : V) (n : Int), vs = [v, .int n] ∧ ((∃ a xs, v = .ref a ∧ SqT K H a xs ∧ Kinds K H xs ∧ Q (.bl (setB n 0 xs)) H) ∨ (∃ t, TyX K H v t ∧ PySem.W.kitOne K t (.type "tuple") = some false ∧ Q (.bl false) H))
theorem has_is_number_set (D : DefAt K mg "is_number_set" s_is_number_set ["value", "end"]) (T : Blt mg) (h_is_between : Has P w K mg base "is_between" 2 ["value", "low", "high"] (sp_is_between K)) : Has P w K mg base "is_number_set" 3 ["value", "end"] (sp_is_number_set K) := by
  refine D.ok sc_is_number_set (fun vs H Q E h => ?_) (fun f cdv A outer s H vs Q E hr h => ?_)
  · obtain ⟨v, n, rfl, _⟩ := h
    rfl
  · obtain ⟨v, n, rfl, h⟩ := h
    refine ⟨_, (pss_cons (ps_if (pt_not (pt_val (pe_callB call_isi (by rfl) T.b_isinstance (by decide +kernel) (pa_cons (pv 0) (pa_cons (pe_bltn (v := .ty "tuple") (by rfl) T.b_tuple (by decide +kernel) rfl) pa_nil))))) (pss_one (ps_ret pe_bl)) pss_nil)
      (pss_cons (ps_set (i := 2) sc_is_number_set.nd rfl (.inl rfl) pe_int)
      (pss_cons (ps_for PassesOwn.never rfl (pi_tup (pv 0)) (pg_name (i := 3) sc_is_number_set.nd rfl (.inl rfl)) (pss_cons (ps_if (pt_not (pt_val (pe_own h_is_between (hr.mono (by decide)) (by rfl) (pa_cons (pv 3) (pa_cons (pv 2) (pa_cons (pe_op op_sub (pv 1) pe_int) pa_nil)))))) (pss_one (ps_ret pe_bl)) pss_nil)
      (pss_one (ps_set (i := 2) sc_is_number_set.nd rfl (.inl rfl) (pe_op op_add (pv 3) pe_int)))))
      (pss_one (ps_ret pe_bl))))), ?_⟩
    rcases h with ⟨a, xs, rfl, hx, hk, q⟩ | ⟨t, ty, hf, q⟩
    · refine ⟨_, rfl, _, _, .type "tuple", _, true, rfl, .ty _, ty_tup hx, kit_ty (by decide +kernel), true, rfl, iteF ?_⟩
      refine ⟨_, rfl, a, rfl, ⟨xs, hx⟩, ?_⟩
      refine for_it (walk_tup (xs := xs)) (fun i σ H' => H' = H ∧ ∃ lo y3, σ = [some (.ref a), some (.int n), some (.int lo), y3] ∧ setB n 0 xs = setB n lo (xs.drop i)) ⟨rfl, 0, none, rfl, rfl⟩ (fun i σ H' _ h => by rw [h.1]; exact hx) ?_ ?_
      · rintro i v σ H2 H3 hi ⟨rfl, lo, y3, rfl, hs⟩ ⟨rfl, hv⟩
        have hd : xs.drop i = v :: xs.drop (i + 1) := by
          have hil := (List.getElem?_eq_some_iff.mp hv).1
          rw [List.drop_eq_getElem_cons hil]
          congr 1
          exact (List.getElem?_eq_some_iff.mp hv).2
        rw [hd] at hs
        refine ⟨_, rfl, _, rfl, _, rfl, _, _, rfl, rfl, _, _, _, rfl, ?_⟩
        rcases hk v (List.mem_of_getElem? hv) with ⟨j, rfl⟩ | ⟨hni, hne⟩
        · refine .inl ⟨j, rfl, _, rfl, ?_⟩
          have hs2 : setB n 0 xs = (decide (lo ≤ j) && decide (j ≤ n - 1) && setB n (j + 1) (xs.drop (i + 1))) := hs
          show (if (!(decide (lo ≤ j) && decide (j ≤ n - 1))) = true then _ else _)
          cases hb : (decide (lo ≤ j) && decide (j ≤ n - 1)) with
          | true =>
            rw [hb, Bool.true_and] at hs2
            exact iteF ⟨_, rfl, _, _, rfl, rfl, rfl, _, _, rfl, hs2⟩
          | false =>
            rw [hb, Bool.false_and] at hs2
            rw [hs2] at q
            exact iteT q
        · refine .inr ⟨hni, hne, _, rfl, ?_⟩
          have hs2 : setB n 0 xs = false := by
            rw [hs]
            cases v with
            | int j => exact absurd rfl (hne j)
            | _ => rfl
          rw [hs2] at q
          exact iteT q
      · rintro σ H2 ⟨rfl, lo, y3, rfl, hs⟩
        rw [List.drop_length] at hs
        have hs2 : setB n 0 xs = true := hs
        rw [hs2] at q
        exact q
    · refine ⟨_, rfl, _, _, t, _, false, rfl, .ty _, ty, hf, false, rfl, iteT ?_⟩
      exact q
/-- the wish for the report of a value that is not a set of places -/
def OutSet (CP : Addr) (v : V) (H : Hp) (E : XK) : Prop := ∀ H' d, Same H H' → H d = none → H' d = some (.xd [("value", v)]) → E (.ref CP) (some d) H'
/-- a value and whether it is a set of the places below n -/
def SetOr (K : PySem.W.Frag) (H : Hp) (v : V) (n : Int) (b : Bool) : Prop := (∃ a xs, v = .ref a ∧ SqT K H a xs ∧ Kinds K H xs ∧ b = setB n 0 xs) ∨ (∃ t, TyX K H v t ∧ PySem.W.kitOne K t (.type "tuple") = some false ∧ b = false)
theorem SetOr.keep {K : PySem.W.Frag} {H H' : Hp} {v : V} {n : Int} {b : Bool} (h : SetOr K H v n b) (hS : Same H H') (hk : ∀ xs : List V, Kinds K H xs → Kinds K H' xs) (ht : ∀ t, TyX K H v t → TyX K H' v t) : SetOr K H' v n b := by
  rcases h with ⟨a, xs, rfl, h1, h2, h3⟩ | ⟨t, h1, h2, h3⟩
  · exact .inl ⟨a, xs, rfl, hS.keepT.seq h1, hk xs h2, h3⟩
  · exact .inr ⟨t, ht t h1, h2, h3⟩
theorem kinds_same {K : PySem.W.Frag} {H H' : Hp} (s : Same H H') {xs : List V} (h : Kinds K H xs) : Kinds K H' xs := fun x hx => by
  rcases h x hx with h | ⟨⟨t, h1, h2⟩, h3⟩
  · exact .inl h
  · exact .inr ⟨⟨t, tyX_same s h1, h2⟩, h3⟩
theorem SetOr.same {K : PySem.W.Frag} {H H' : Hp} (s : Same H H') {v : V} {n : Int} {b : Bool} (h : SetOr K H v n b) : SetOr K H' v n b := h.keep s (fun _ => kinds_same s) fun _ => tyX_same s
abbrev s_check_places : Stmt := top 19
theorem sc_check_places : FnScope ["network", "places"] ["network", "places"] (defScope s_check_places) := ⟨rfl, rfl, rfl, by decide +kernel, rfl, by decide +kernel, by decide +kernel⟩
def sp_check_places (K : PySem.W.Frag) (CP : Addr) : Sp := fun vs H Q E => ∃ (na : Addr) (N : Net) (v : V) (b : Bool), vs = [.ref na, v] ∧ NetAt K H na N ∧ SetOr K H v N.many b ∧ (b = true → Q .non H) ∧ (b = false → OutSet CP v H E)
theorem hasX_check_places {CP : Addr} (D : DefAt K mg "check_places" s_check_places ["network", "places"]) (x_InvalidPlaces : X1 P w K mg base "InvalidPlaces" CP "value") (h_is_number_set : Has P w K mg base "is_number_set" 3 ["value", "end"] (sp_is_number_set K)) :
    HasX P w K mg base "check_places" 4 ["network", "places"] (sp_check_places K CP) := by
  refine D.okX sc_check_places (fun vs H Q E h => ?_) (fun f cdv A outer s H vs Q E hr h => ?_)
  · obtain ⟨na, N, v, b, rfl, _⟩ := h
    rfl
  · obtain ⟨na, N, v, b, rfl, ⟨b2, xs, ha, _, _⟩, hs, q1, q2⟩ := h
    refine ⟨_, (pss_one (ps_if (pt_not (pt_val (pe_own h_is_number_set (hr.mono (by decide)) (by rfl) (pa_cons (pv 1) (pa_cons (pe_ix ix_tup (pv 0) pe_int (fun _ _ => rfl)) pa_nil))))) (pss_one (ps_raise1 rfl (takes_of rfl rfl rfl rfl) x_InvalidPlaces (hr.mono (by decide)) (by rfl) (pv 1))) pss_nil)), ?_⟩
    refine ⟨_, rfl, _, rfl, na, _, 1, _, rfl, rfl, ha, atI_nat (j := 1) rfl, v, (N.many : Int), rfl, ?_⟩
    rcases hs with ⟨a, ys, rfl, hy, hk, hb⟩ | ⟨t, ty, hf, hb⟩
    · refine .inl ⟨a, ys, rfl, hy, hk, _, rfl, ?_⟩
      rw [← hb]
      cases hbv : b with
      | true => exact iteF (q1 hbv)
      | false => exact iteT ⟨_, rfl, raise1_of fun d hd => q2 hbv _ d (same_upd hd) hd upd_same⟩
    · refine .inr ⟨t, ty, hf, _, rfl, ?_⟩
      exact iteT ⟨_, rfl, raise1_of fun d hd => q2 hb _ d (same_upd hd) hd upd_same⟩
end
end Wc

set_option Elab.async false
set_option linter.all false
set_option maxRecDepth 100000
/-! Bounds and excess of any valid network. -/
namespace Wc
open PySem PySem.Spec PyProof.Rows L2
local macro_rules | `(tactic| walk_at "up") => `(tactic| first | with_reducible assumption | (refine up1 (by with_reducible assumption) ?_; walk_at "up") | (refine SqT.of ?_; walk_at "up") | (refine SqL.of ?_; walk_at "up") | (refine upT (by with_reducible assumption) ?_; walk_at "up") | (refine upL (by with_reducible assumption) ?_; walk_at "up") | (refine upN (by with_reducible assumption) ?_; walk_at "up"))
/-- which places are among the first i of S -/
def inL (S : List Nat) (i n : Nat) : List V := (List.range n).map fun v => V.bl (decide (v ∈ S.take i))
def inB (S : List Nat) (n : Nat) : List V := (List.range n).map fun v => V.bl (decide (v ∈ S))
theorem inL_len (S : List Nat) (i n : Nat) : (inL S i n).length = n := by
  unfold inL
  rw [List.length_map, List.length_range]
theorem inL_zero (S : List Nat) (n : Nat) : List.replicate n (V.bl false) = inL S 0 n := by
  unfold inL
  refine (List.eq_replicate_iff.mpr ⟨by rw [List.length_map, List.length_range], fun b hb => ?_⟩).symm
  obtain ⟨v, _, rfl⟩ := List.mem_map.mp hb
  rw [List.take_zero, decide_eq_false List.not_mem_nil]
theorem inL_all {S : List Nat} {n : Nat} : inL S S.length n = inB S n := by
  unfold inL inB
  rw [List.take_length]
theorem inB_get {S : List Nat} {n x : Nat} (h : x < n) : (inB S n)[x]? = some (V.bl (decide (x ∈ S))) := by
  unfold inB
  rw [List.getElem?_map, List.getElem?_range h]
  rfl
theorem inL_set {S : List Nat} {i n x : Nat} (h : S[i]? = some x) : (inL S i n).set x (V.bl true) = inL S (i + 1) n := by
  have ht : S.take (i + 1) = S.take i ++ [x] := by rw [List.take_add_one, h]; rfl
  refine List.ext_getElem? fun k => ?_
  unfold inL
  rw [ht, List.getElem?_set, List.getElem?_map, List.getElem?_map, List.length_map, List.length_range]
  by_cases hk : k < n
  · rw [List.getElem?_range hk]
    by_cases e : x = k
    · subst e
      rw [if_pos rfl, if_pos hk]
      show some _ = some (V.bl (decide (x ∈ S.take i ++ [x])))
      rw [decide_eq_true (List.mem_append_right _ List.mem_cons_self)]
    · rw [if_neg e]
      show some (V.bl (decide (k ∈ S.take i))) = some (V.bl (decide (k ∈ S.take i ++ [x])))
      have : (k ∈ S.take i ++ [x]) ↔ k ∈ S.take i := by
        rw [List.mem_append, List.mem_singleton]
        exact ⟨fun z => z.elim id fun z => absurd z.symm e, .inl⟩
      rw [decide_eq_decide.mpr this]
  · by_cases e : x = k
    · subst e
      rw [if_pos rfl, if_neg hk, List.getElem?_eq_none (by rw [List.length_range]; omega)]
      rfl
    · rw [if_neg e, List.getElem?_eq_none (by rw [List.length_range]; omega)]
      rfl
section
variable {P : Program} {w : World} {K : PySem.W.Frag} {mg : Str → Option Value} {base : Heap}
/-- the wish for the report of the first pipe without bounds -/
def OutCnt (CN : Addr) (N : Net) (H : Hp) (E : XK) : Prop := ∀ i, N.noB = some i → ∀ H' d, Same H H' → H d = none → H' d = some (.xd [("pipe", natV i)]) → E (.ref CN) (some d) H'
theorem OutSum.same {CG : Addr} {N : Net} {H H' : Hp} {E : XK} (s : Same H H') (h : OutSum CG N H E) : OutSum CG N H' E := fun x hx H2 d g s2 hd hd2 hg => h x hx H2 d g (s.trans s2) (s.free hd) hd2 hg
theorem OutCnt.same {CN : Addr} {N : Net} {H H' : Hp} {E : XK} (s : Same H H') (h : OutCnt CN N H E) : OutCnt CN N H' E := fun x hx H2 d s2 hd hd2 => h x hx H2 d (s.trans s2) (s.free hd) hd2
abbrev s_checked_bounds : Stmt := top 28
theorem sc_checked_bounds : FnScope ["network", "branches", "limits", "index", "pair"] ["network", "branches"] (defScope s_checked_bounds) := ⟨rfl, rfl, rfl, by decide +kernel, rfl, by decide +kernel, by decide +kernel⟩
def sp_checked_bounds (K : PySem.W.Frag) (CG CN : Addr) : Sp := fun vs H Q E => ∃ (na l : Addr) (N : Net) (B : List Br), vs = [.ref na, .ref l] ∧ NetAt K H na N ∧ NetOk N ∧ BrsAt H l B ∧ BrsOf N.tubes B ∧
  (Calm N → N.noB = none → ∀ H' t vs, Same H H' → H t = none → H' t = some (.lst vs) → PairsV K H' vs N.pL → Q (.ref t) H') ∧ OutSum CG N H E ∧ (Calm N → OutCnt CN N H E)
theorem hasX_checked_bounds {CG CN : Addr} (D : DefAt K mg "checked_bounds" s_checked_bounds ["network", "branches"]) (T : Blt mg) (x_NoCount : X1 P w K mg base "NoCount" CN "pipe") (h_find_bounds : Has P w K mg base "find_bounds" 1 ["network", "known"] (sp_find_bounds K)) (h_checked_residues : HasX P w K mg base "checked_residues" 4 ["network", "branches"] (sp_checked_residuesX K CG)) :
    HasX P w K mg base "checked_bounds" 5 ["network", "branches"] (sp_checked_bounds K CG CN) := by
  refine D.okX sc_checked_bounds (fun vs H Q E h => ?_) (fun f cdv A outer s H vs Q E hr h => ?_)
  · obtain ⟨na, l, N, B, rfl, _⟩ := h
    rfl
  · obtain ⟨na, l, N, B, rfl, hN, ok, hBA, hB, qc, qs, qn⟩ := h
    refine ⟨_, (pss_cons (ps_set (i := 2) sc_checked_bounds.nd rfl (.inl rfl) (pe_own h_find_bounds (hr.mono (by decide)) (by rfl) (pa_cons (pv 0) (pa_cons (pe_ownX h_checked_residues (hr.mono (by decide)) (by rfl) out_at (pa_cons (pv 0) (pa_cons (pv 1) pa_nil))) pa_nil))))
      (pss_cons (ps_for (passes_of rfl) rfl (pi_enum (by rfl) T.b_enumerate (pa_cons (pv 2) pa_nil)) (pg_tup rfl (pgs_cons (pg_name (i := 3) sc_checked_bounds.nd rfl (.inl rfl)) (pgs_cons (pg_name (i := 4) sc_checked_bounds.nd rfl (.inl rfl)) pgs_nil))) (pss_one (ps_if (pt_cmpR op_isN (pv 4) pe_non (nomark _)) (pss_one (ps_raise1 rfl (takes_of rfl rfl rfl rfl) x_NoCount (hr.mono (by decide)) (by rfl) (pv 3))) pss_nil)))
      (pss_one (ps_ret (pv 2))))), ?_⟩
    refine ⟨_, rfl, _, rfl, _, rfl, na, l, N, B, rfl, hN, ok, hBA, hB, fun calm H1 ka s1 hka hk1 => ?_, qs⟩
    refine ⟨na, ka, N, _, rfl, upN s1 hN, ok, hk1, (by unfold Net.resL; rw [List.length_map, List.length_range]), fun H2 t vs s2 ht ht2 hV => ?_⟩
    have hV : BndsV K H2 vs N.bL := hV
    have hvl : vs.length = N.tubes.length := by rw [Paired.length hV, bL_len']
    have s02 := s1.trans s2
    refine ⟨_, rfl, t, _, rfl, SqL.of ht2, ?_⟩
    refine for_it (walk_enum (xs := vs)) (fun i σ H' => (∃ y3 y4, σ = [some (.ref na), some (.ref l), some (.ref t), y3, y4]) ∧ Same H2 H' ∧ ∀ k, k < i → ∀ o, N.bL[k]? = some o → o ≠ none) ⟨⟨_, _, rfl⟩, Same.refl _, fun k hk => absurd hk (Nat.not_lt_zero k)⟩ (fun i σ H' _ h => SqL.of (h.2.1 _ _ ht2)) ?_ ?_
    · rintro i v σ H3 H4 hi ⟨⟨y3, y4, rfl⟩, s3, hno⟩ ⟨T0, x1, x2, rfl, hT0, rfl, e1, e2⟩
      cases e1
      have hil : i < N.tubes.length := by rw [← hvl]; exact hi
      obtain ⟨o, ho, hvo⟩ := paired_get hV e2
      have sT : Same H3 (upd H3 T0 (.tup [.int (i : Nat), x2])) := same_upd hT0
      have s4 := s3.trans sT
      have hT2 : upd H3 T0 (.tup [.int (i : Nat), x2]) T0 = some _ := upd_same
      generalize upd H3 T0 (.tup [.int (i : Nat), x2]) = H4 at s4 hT2 sT
      refine ⟨T0, _, rfl, SqT.of hT2, rfl, _, _, rfl, _, _, rfl, rfl, ?_⟩
      refine ⟨_, rfl, rfl, _, rfl, ite2 (fun c => ?_) (fun c => ?_)⟩
      · have hon : o = none := by
          cases o with
          | none => rfl
          | some q =>
            obtain ⟨t', rfl, _⟩ := hvo
            exact absurd (of_decide_eq_true c) (by simp)
        subst hon
        have hnb : N.noB = some i := by
          unfold Net.noB
          rw [List.findIdx?_eq_some_iff_getElem]
          refine ⟨by rw [bL_len']; exact hil, ?_, fun j hj => ?_⟩
          · rw [(List.getElem?_eq_some_iff.mp ho).2]
            rfl
          · have hjl : j < N.bL.length := by rw [bL_len']; omega
            have := hno j hj _ (List.getElem?_eq_getElem hjl)
            cases e : N.bL[j] with
            | none => exact absurd e this
            | some q => exact (by decide : ¬ (false = true))
        refine ⟨_, rfl, raise1_of fun d hd => ?_⟩
        exact qn calm i hnb _ d ((s02.trans s4).trans (same_upd hd)) ((s02.trans s4).free hd) upd_same
      · refine ⟨⟨_, _, rfl⟩, s4, fun k hk o' ho' => ?_⟩
        rcases Nat.lt_succ_iff_lt_or_eq.mp hk with z | z
        · exact hno k z o' ho'
        · subst z
          have : o' = o := Option.some.inj (ho'.symm.trans ho)
          subst this
          rintro rfl
          exact c (by rw [show x2 = V.non from hvo]; rfl)
    · rintro σ H3 ⟨⟨y3, y4, rfl⟩, s3, hno⟩
      rw [hvl] at hno
      have hnn : N.noB = none := by
        unfold Net.noB
        rw [List.findIdx?_eq_none_iff]
        intro o ho
        obtain ⟨k, hk, e⟩ := List.getElem_of_mem ho
        have := hno k (by rw [← bL_len' N]; exact hk) o (by rw [List.getElem?_eq_getElem hk, e])
        cases o with
        | none => exact absurd rfl this
        | some q => rfl
      refine ⟨_, rfl, qc calm hnn H3 t vs (s02.trans s3) (s1.free ht) (s3 _ _ ht2) ?_⟩
      have hP : BndsV K H2 vs (N.pL.map some) := by rw [← bL_of_pL hnn]; exact hV
      exact hP.pairs.keep s3.keepT
abbrev s_bounds : Stmt := top 27
theorem sc_bounds : FnScope ["network", "known"] ["network"] (defScope s_bounds) := ⟨rfl, rfl, rfl, by decide +kernel, rfl, by decide +kernel, by decide +kernel⟩
def sp_bounds (K : PySem.W.Frag) (CG : Addr) : Sp := fun vs H Q E => ∃ (na : Addr) (N : Net), vs = [.ref na] ∧ NetAt K H na N ∧ NetOk N ∧
  (Calm N → ∀ H' t vs, Same H H' → H t = none → H' t = some (.tup vs) → BndsV K H' vs N.bL → Q (.ref t) H') ∧ OutSum CG N H E
theorem fnX_bounds {CG : Addr} {f : Addr} {fd : FuncData} (F : Fun K "bounds" "bounds" s_bounds f fd) (T : Blt mg) (h_checked_branches : Has P w K mg base "checked_branches" 3 ["value"] (sp_checked_branches K)) (h_find_bounds : Has P w K mg base "find_bounds" 1 ["network", "known"] (sp_find_bounds K)) (h_checked_residues : HasX P w K mg base "checked_residues" 4 ["network", "branches"] (sp_checked_residuesX K CG)) :
    FnOk P w K mg base (L2.CX P w) 6 f fd ["network"] (sp_bounds K CG) := by
  refine F.okX sc_bounds (fun vs H Q E h => ?_) (fun cdv A outer s H vs Q E hr h => ?_)
  · obtain ⟨na, N, rfl, _⟩ := h
    rfl
  · obtain ⟨na, N, rfl, hN, ok, qc, qs⟩ := h
    refine ⟨_, (pss_cons (ps_set (i := 1) sc_bounds.nd rfl (.inl rfl) (pe_ownX h_checked_residues (hr.mono (by decide)) (by rfl) out_at (pa_cons (pv 0) (pa_cons (pe_own h_checked_branches (hr.mono (by decide)) (by rfl) (pa_cons (pv 0) pa_nil)) pa_nil))))
      (pss_one (ps_ret (pe_at (pe_callTy call_tuple_of (by rfl) T.b_tuple (by decide +kernel) (pa_cons (pe_own h_find_bounds (hr.mono (by decide)) (by rfl) (pa_cons (pv 0) (pa_cons (pv 1) pa_nil))) pa_nil)))))), ?_⟩
    refine ⟨_, rfl, _, rfl, na, N, rfl, hN, ok, fun H1 l B s1 hl hBA hB => ?_⟩
    refine ⟨na, l, N, B, rfl, upN s1 hN, ok, hBA, hB, fun calm H2 ka s2 hka hk2 => ?_, (qs.same s1)⟩
    have s02 := s1.trans s2
    refine ⟨_, rfl, _, rfl, na, ka, N, _, rfl, upN s02 hN, ok, hk2, (by unfold Net.resL; rw [List.length_map, List.length_range]), fun H3 t vs s3 ht ht3 hV => ?_⟩
    refine ⟨t, _, rfl, .inl ⟨SqL.of ht3, alloc fun u H4 s4 f4 a4 => ?_⟩⟩
    have hV : BndsV K H3 vs N.bL := hV
    exact qc calm H4 u vs ((s02.trans s3).trans s4) ((s02.trans s3).free f4) a4 (hV.keep s4.keepT)
abbrev s_find_excess : Stmt := top 29
theorem sc_find_excess : FnScope ["network", "limits", "places", "inside", "place", "total", "pipe", "least", "greatest"] ["network", "limits", "places"] (defScope s_find_excess) := ⟨rfl, rfl, rfl, by decide +kernel, rfl, by decide +kernel, by decide +kernel⟩
def sp_find_excess (K : PySem.W.Frag) : Sp := fun vs H Q _ => ∃ (na l pa : Addr) (N : Net) (ws : List V) (L : List (Int × Int)) (S : List Nat), vs = [.ref na, .ref l, .ref pa] ∧ NetAt K H na N ∧ NetOk N ∧ H l = some (.lst ws) ∧ PairsV K H ws L ∧ L.length = N.tubes.length ∧ SqT K H pa (S.map natV) ∧ (∀ x ∈ S, x < N.many) ∧
  ∀ H', Same H H' → Q (.int (exS N L S N.tubes.length)) H'
theorem has_find_excess (D : DefAt K mg "find_excess" s_find_excess ["network", "limits", "places"]) (T : Blt mg) : Has P w K mg base "find_excess" 1 ["network", "limits", "places"] (sp_find_excess K) := by
  refine D.ok sc_find_excess (fun vs H Q E h => ?_) (fun f cdv A outer s H vs Q E hr h => ?_)
  · obtain ⟨na, l, pa, N, ws, L, S, rfl, _⟩ := h
    rfl
  · obtain ⟨na, l, pa, N, ws, L, S, rfl, hN, ok, hl, hP, hLl, hS, hSn, q⟩ := h
    refine ⟨_, (pss_cons (ps_set (i := 3) sc_find_excess.nd rfl (.inl rfl) (pe_at (pe_op op_rep (pe_at (pe_lst (pa_cons pe_bl pa_nil))) (pe_ix ix_tup (pv 0) pe_int (fun _ _ => rfl)))))
      (pss_cons (ps_for PassesOwn.never rfl (pi_tup (pv 2)) (pg_name (i := 4) sc_find_excess.nd rfl (.inl rfl)) (pss_one (ps_asg pe_bl (pg_sub (pv 3) (pv 4) set_list))))
      (pss_cons (ps_set (i := 5) sc_find_excess.nd rfl (.inl rfl) pe_int)
      (pss_cons (ps_for PassesOwn.never rfl (pi_zipK (by rfl) T.b_zip (pa_cons (pe_ix ix_tup (pv 0) pe_int (fun _ _ => rfl)) (pa_cons (pv 1) pa_nil))) (pg_tup rfl (pgs_cons (pg_name (i := 6) sc_find_excess.nd rfl (.inl rfl)) (pgs_cons (pg_tup rfl (pgs_cons (pg_name (i := 7) sc_find_excess.nd rfl (.inl rfl)) (pgs_cons (pg_name (i := 8) sc_find_excess.nd rfl (.inl rfl)) pgs_nil))) pgs_nil))) (pss_one (ps_if (pt_cmpR op_ne (pe_ix ix_list (pv 3) (pe_ix ix_tup (pv 6) pe_int (fun _ _ => rfl)) (fun _ _ => rfl)) (pe_ix ix_list (pv 3) (pe_ix ix_tup (pv 6) pe_int (fun _ _ => rfl)) (fun _ _ => rfl)) (nomark _)) (pss_one (ps_aug (i := 5) sc_find_excess.nd rfl (.inl rfl) (pe_ifExp (pt_val (pe_ix ix_list (pv 3) (pe_ix ix_tup (pv 6) pe_int (fun _ _ => rfl)) (fun _ _ => rfl))) (pv 7) (pe_un un_neg (pv 8))) ip_add)) pss_nil)))
      (pss_one (ps_ret (pv 5))))))), ?_⟩
    obtain ⟨b, xs, ha, hb, hts⟩ := id hN
    have hxl : xs.length = N.tubes.length := Paired.length hts
    have hm24 := ok.m24
    have hm := ok.m24
    refine ⟨(by show 1 ≤ sizeLine; decide), alloc fun l0 H1 s1 f1 a1 => ⟨_, rfl, na, _, 1, _, rfl, rfl, upT s1 ha, atI_nat (j := 1) rfl, l0, (N.many : Int), _, rfl, rfl, a1, by omega, by omega, (Nat.le_trans (by show 1 * (N.many : Int).toNat ≤ 1000; omega) (by decide)), alloc fun bd H2 s2 f2 a2 => ?_⟩⟩
    have a2' : H2 bd = some (.lst (inL S 0 N.many)) := by
      rw [a2, Int.toNat_natCast, List.flatten_replicate_singleton, inL_zero]
    have s02 := s1.trans s2
    have fbd := s1.free f2
    refine ⟨_, rfl, pa, rfl, ⟨_, upT s02 hS⟩, ?_⟩
    refine for_it (walk_tup (xs := S.map natV)) (fun i σ H' => (∃ y4, σ = [some (.ref na), some (.ref l), some (.ref pa), some (.ref bd), y4, none, none, none, none]) ∧ Same H H' ∧ H' bd = some (.lst (inL S i N.many))) ⟨⟨_, rfl⟩, s02, a2'⟩ (fun i σ H' _ h => upT h.2.1 hS) ?_ ?_
    · rintro i v σ H3 H4 hi ⟨⟨y4, rfl⟩, s3, b3⟩ ⟨rfl, hv⟩
      have hv2 : (S.map natV)[i]? = some v := hv
      rw [List.getElem?_map] at hv2
      cases hx : S[i]? with
      | none => rw [hx] at hv2; cases hv2
      | some x =>
        rw [hx] at hv2
        obtain rfl : natV x = v := Option.some.inj hv2
        have hxn := hSn x (List.mem_of_getElem? hx)
        refine ⟨_, rfl, _, rfl, bd, _, (x : Int), x, rfl, rfl, b3, ixN_nat (by rw [inL_len]; exact hxn), ?_⟩
        refine ⟨⟨_, rfl⟩, fun y o e => ?_, ?_⟩
        · rw [upd_ne (ne_of_none e fbd)]
          exact s3 _ _ e
        · rw [upd_same, inL_set hx]
    · rintro σ H3 ⟨⟨y4, rfl⟩, s3, b3⟩
      rw [List.length_map, inL_all] at b3
      refine ⟨_, rfl, na, _, 2, _, rfl, rfl, upT s3 ha, atI_nat (j := 2) rfl, _, rfl, true, false, b, l, xs, ws, rfl, upT s3 hb, SqL.of (s3 _ _ hl), ?_⟩
      refine for_it (walk_Z (k1 := true) (k2 := false) (xs := xs) (ys := ws) (by rw [hxl, Paired.length hP, hLl])) (fun i σ H' => (∃ y6 y7 y8, σ = [some (.ref na), some (.ref l), some (.ref pa), some (.ref bd), y4, some (.int (exS N L S i)), y6, y7, y8]) ∧ Same H3 H') ⟨⟨_, _, _, rfl⟩, Same.refl _⟩ (fun i σ H' _ h => ⟨upT (s3.trans h.2) hb, SqL.of (h.2 _ _ (s3 _ _ hl))⟩) ?_ ?_
      · rintro i v σ H4 H5 hi ⟨⟨y6, y7, y8, rfl⟩, s4⟩ ⟨T0, x1, x2, rfl, hT0, rfl, e1, e2⟩
        have hil : i < N.tubes.length := by rw [← hxl]; exact hi
        obtain ⟨p, hp, a1, rfl, hpa⟩ := paired_get hts e1
        have okp := ok.ok p (List.mem_of_getElem? hp)
        obtain ⟨q1, hq1, t, rfl, ht⟩ := paired_get hP e2
        have sT : Same H4 (upd H4 T0 (.tup [.ref a1, .ref t])) := same_upd hT0
        have hT2 : upd H4 T0 (.tup [.ref a1, .ref t]) T0 = some _ := upd_same
        generalize upd H4 T0 (.tup [.ref a1, .ref t]) = H5 at sT hT2
        have s5 := s4.trans sT
        have s05 := s3.trans s5
        have b5 := s5 _ _ b3
        refine ⟨T0, _, rfl, SqT.of hT2, rfl, _, _, rfl, _, _, rfl, ?_⟩
        refine ⟨t, _, rfl, upT s05 ht, rfl, _, _, rfl, _, _, rfl, rfl, rfl, ?_⟩
        have hpa5 := upT s05 hpa
        refine ⟨_, rfl, _, rfl, a1, _, 0, _, rfl, rfl, hpa5, atI_nat (j := 0) rfl, bd, _, (p.s : Int), _, rfl, rfl, SqL.of b5, atI_nat (inB_get okp.s), ?_⟩
        refine ⟨_, rfl, _, rfl, a1, _, 1, _, rfl, rfl, hpa5, atI_nat (j := 1) rfl, bd, _, (p.t : Int), _, rfl, rfl, SqL.of b5, atI_nat (inB_get okp.t), ?_⟩
        have eT : (V.bl (decide (p.s ∈ S)) = V.bl (decide (p.t ∈ S))) ↔ (p.s ∈ S ↔ p.t ∈ S) := ⟨fun z => by simpa using z, fun z => by rw [decide_eq_decide.mpr z]⟩
        have eq1 : L.getD i (0, 0) = q1 := by
          rw [List.getD_eq_getElem?_getD, hq1]
          rfl
        have ex := exS_succ (L := L) (S := S) hp
        rw [eq1] at ex
        refine ⟨rfl, _, rfl, ite2 (fun c => ?_) (fun c => ?_)⟩
        · have cn : ¬ (p.s ∈ S ↔ p.t ∈ S) := fun z => by
            rw [decide_eq_true (eT.mpr z)] at c
            exact absurd c (by decide)
          refine ⟨_, rfl, ?_⟩
          refine ⟨_, rfl, _, rfl, a1, _, 1, _, rfl, rfl, hpa5, atI_nat (j := 1) rfl, bd, _, (p.t : Int), _, rfl, rfl, SqL.of b5, atI_nat (inB_get okp.t), _, rfl, ite2 (fun c2 => ?_) (fun c2 => ?_)⟩
          · have c2 : p.t ∈ S := of_decide_eq_true c2
            have c3 : p.s ∉ S := fun z => cn ⟨fun _ => c2, fun _ => z⟩
            have h1 : ent S p = true := by unfold ent; rw [decide_eq_true c2, decide_eq_false c3]; rfl
            have h2 : ¬ exi S p = true := by unfold exi; rw [decide_eq_false c3]; exact (by decide : ¬ (false = true))
            rw [if_pos h1, if_neg h2, Int.sub_zero] at ex
            rw [ex]
            exact ⟨_, rfl, _, _, rfl, rfl, ⟨_, _, _, rfl⟩, s5⟩
          · have c2 : p.t ∉ S := fun z => c2 (decide_eq_true z)
            have c3 : p.s ∈ S := Classical.byContradiction fun z => cn ⟨fun y => absurd y z, fun y => absurd y c2⟩
            have h1 : ¬ ent S p = true := by unfold ent; rw [decide_eq_false c2]; exact (by decide : ¬ (false = true))
            have h2 : exi S p = true := by unfold exi; rw [decide_eq_false c2, decide_eq_true c3]; rfl
            rw [if_neg h1, if_pos h2, Int.add_zero, Int.sub_eq_add_neg] at ex
            rw [ex]
            exact ⟨_, rfl, _, rfl, _, _, rfl, rfl, ⟨_, _, _, rfl⟩, s5⟩
        · have cn : (p.s ∈ S ↔ p.t ∈ S) := by
            have : decide (V.bl (decide (p.s ∈ S)) = V.bl (decide (p.t ∈ S))) = true := by simpa using c
            exact eT.mp (of_decide_eq_true this)
          have h1 : ¬ ent S p = true := fun z => by
            unfold ent at z
            simp only [Bool.and_eq_true, decide_eq_true_eq, Bool.not_eq_true', decide_eq_false_iff_not] at z
            exact z.2 (cn.mpr z.1)
          have h2 : ¬ exi S p = true := fun z => by
            unfold exi at z
            simp only [Bool.and_eq_true, decide_eq_true_eq, Bool.not_eq_true', decide_eq_false_iff_not] at z
            exact z.2 (cn.mp z.1)
          rw [if_neg h1, if_neg h2, Int.add_zero, Int.sub_zero] at ex
          rw [ex]
          exact ⟨⟨_, _, _, rfl⟩, s5⟩
      · rintro σ H4 ⟨⟨y6, y7, y8, rfl⟩, s4⟩
        rw [hxl]
        exact ⟨_, rfl, q H4 (s3.trans s4)⟩
abbrev s_excess : Stmt := top 30
theorem sc_excess : FnScope ["network", "places", "branches"] ["network", "places"] (defScope s_excess) := ⟨rfl, rfl, rfl, by decide +kernel, rfl, by decide +kernel, by decide +kernel⟩
def sp_excess (K : PySem.W.Frag) (CP CG CN : Addr) : Sp := fun vs H Q E => ∃ (na : Addr) (N : Net) (v : V) (b : Bool), vs = [.ref na, v] ∧ NetAt K H na N ∧ NetOk N ∧ SetOr K H v N.many b ∧ (b = false → OutSet CP v H E) ∧
  (b = true → OutSum CG N H E ∧ (Calm N → OutCnt CN N H E) ∧ ∃ (a : Addr) (S : List Nat), v = .ref a ∧ SqT K H a (S.map natV) ∧ (∀ x ∈ S, x < N.many) ∧ (Calm N → N.noB = none → ∀ H', Same H H' → Q (.int (exS N N.pL S N.tubes.length)) H'))
theorem fnX_excess {CP CG CN : Addr} {f : Addr} {fd : FuncData} (F : Fun K "excess" "excess" s_excess f fd) (T : Blt mg) (h_checked_branches : Has P w K mg base "checked_branches" 3 ["value"] (sp_checked_branches K)) (h_check_places : HasX P w K mg base "check_places" 4 ["network", "places"] (sp_check_places K CP))
    (h_checked_bounds : HasX P w K mg base "checked_bounds" 5 ["network", "branches"] (sp_checked_bounds K CG CN)) (h_find_excess : Has P w K mg base "find_excess" 1 ["network", "limits", "places"] (sp_find_excess K)) :
    FnOk P w K mg base (L2.CX P w) 6 f fd ["network", "places"] (sp_excess K CP CG CN) := by
  refine F.okX sc_excess (fun vs H Q E h => ?_) (fun cdv A outer s H vs Q E hr h => ?_)
  · obtain ⟨na, N, v, b, rfl, _⟩ := h
    rfl
  · obtain ⟨na, N, v, b, rfl, hN, ok, hs, q2, q1⟩ := h
    refine ⟨_, (pss_cons (ps_set (i := 2) sc_excess.nd rfl (.inl rfl) (pe_own h_checked_branches (hr.mono (by decide)) (by rfl) (pa_cons (pv 0) pa_nil)))
      (pss_cons (ps_expr (pe_ownX h_check_places (hr.mono (by decide)) (by rfl) out_at (pa_cons (pv 0) (pa_cons (pv 1) pa_nil))))
      (pss_one (ps_ret (pe_own h_find_excess (hr.mono (by decide)) (by rfl) (pa_cons (pv 0) (pa_cons (pe_ownX h_checked_bounds (hr.mono (by decide)) (by rfl) out_at (pa_cons (pv 0) (pa_cons (pv 2) pa_nil))) (pa_cons (pv 1) pa_nil)))))))), ?_⟩
    refine ⟨_, rfl, na, N, rfl, hN, ok, fun H1 l B s1 hl hBA hB => ?_⟩
    refine ⟨_, rfl, _, rfl, na, N, v, b, rfl, upN s1 hN, hs.same s1, fun hb => ?_, fun hb H' d s' hd hd2 => q2 hb H' d (s1.trans s') (s1.free hd) hd2⟩
    obtain ⟨qs, qn, a, S, rfl, hS, hSn, q⟩ := q1 hb
    refine ⟨_, rfl, _, rfl, _, rfl, na, l, N, B, rfl, upN s1 hN, ok, hBA, hB, fun calm hnn H2 t vs s2 ht ht2 hP => ?_, qs.same s1, fun calm => (qn calm).same s1⟩
    have s02 := s1.trans s2
    exact ⟨_, rfl, na, t, a, N, vs, N.pL, S, rfl, upN s02 hN, ok, ht2, hP, pL_len N, upT s02 hS, hSn, fun H3 s3 => q calm hnn H3 (s02.trans s3)⟩
end
end Wc

set_option Elab.async false
set_option linter.all false
set_option maxRecDepth 100000
/-! Residues, pairs and excess as the law finds them. -/
namespace Wc
open PySem PySem.Spec PyProof PyProof.Rows L2
local macro_rules | `(tactic| walk_at "up") => `(tactic| first | with_reducible assumption | (refine up1 (by with_reducible assumption) ?_; walk_at "up") | (refine SqT.of ?_; walk_at "up") | (refine SqL.of ?_; walk_at "up") | (refine upT (by with_reducible assumption) ?_; walk_at "up") | (refine upL (by with_reducible assumption) ?_; walk_at "up") | (refine upN (by with_reducible assumption) ?_; walk_at "up"))
theorem atI_last {α : Type} {xs : List α} {x : α} (h : xs[xs.length - 1]? = some x) : atI xs (-1) = some x := by
  have hl := (List.getElem?_eq_some_iff.mp h).1
  unfold atI ixN
  rw [if_neg (by decide), if_pos (by omega)]
  have e : ((xs.length : Int) + -1).toNat = xs.length - 1 := by omega
  show xs[((xs.length : Int) + -1).toNat]? = some x
  rw [e, h]
theorem shaped_ints5 (l : List Int) : SeqAt.shaped (.list (l.map .int)) = true := shaped_listOf fun d hd => by
  obtain ⟨i, _, rfl⟩ := List.mem_map.mp hd
  exact ⟨by simp only [PyData.canLay0], by simp only [PyData.depth]; exact Nat.zero_le _⟩
section
variable {P : Program} {w : World} {K : PySem.W.Frag} {mg : Str → Option Value} {base : Heap}
abbrev s_law_rests : Stmt := top 52
theorem sc_law_rests : FnScope ["net", "found", "at", "tube"] ["net"] (defScope s_law_rests) := ⟨rfl, rfl, rfl, by decide +kernel, rfl, by decide +kernel, by decide +kernel⟩
def sp_law_rests (K : PySem.W.Frag) : Sp := fun vs H Q _ => ∃ (na : Addr) (N : Net), vs = [.ref na] ∧ NetAt K H na N ∧ NetOk N ∧ ∀ H' l, Same H H' → H l = none → H' l = some (.lst ((N.resL N.tubes.length).map V.int)) → Q (.ref l) H'
theorem has_law_rests (D : DefAt K mg "_law_rests" s_law_rests ["net"]) (T : Blt mg) (h_law_is_wide : Has P w K mg base "_law_is_wide" 1 ["tube"] (sp_is_open_pipe K)) (h_law_shown : Has P w K mg base "_law_shown" 1 ["net", "tube"] (sp_law_shown K))
    (h_law_joined : Has P w K mg base "_law_joined" 2 ["net", "at", "without"] (sp_law_joined K)) (h_law_total : Has P w K mg base "_law_total" 2 ["net", "spots"] (sp_law_total K)) :
    Has P w K mg base "_law_rests" 3 ["net"] (sp_law_rests K) := by
  refine D.ok sc_law_rests (fun vs H Q E h => ?_) (fun f cdv A outer s H vs Q E hr h => ?_)
  · obtain ⟨na, N, rfl, _⟩ := h
    rfl
  · obtain ⟨na, N, rfl, hN, ok, q⟩ := h
    refine ⟨_, (pss_cons (ps_set (i := 1) sc_law_rests.nd rfl (.inl rfl) (pe_at (pe_lst pa_nil)))
      (pss_cons (ps_for PassesOwn.never rfl (pi_enumT (by rfl) T.b_enumerate (pa_cons (pe_ix ix_tup (pv 0) pe_int (fun _ _ => rfl)) pa_nil)) (pg_tup rfl (pgs_cons (pg_name (i := 2) sc_law_rests.nd rfl (.inl rfl)) (pgs_cons (pg_name (i := 3) sc_law_rests.nd rfl (.inl rfl)) pgs_nil))) (pss_one (ps_if (pt_val (pe_own h_law_is_wide (hr.mono (by decide)) (by rfl) (pa_cons (pv 3) pa_nil))) (pss_one (ps_expr (pe_bm PySem.F.plainAttrs_list PySem.F.slot_list_append PySem.F.type_list_append mt_append (pv 1) (pa_cons (pe_own h_law_total (hr.mono (by decide)) (by rfl) (pa_cons (pv 0) (pa_cons (pe_own h_law_joined (hr.mono (by decide)) (by rfl) (pa_cons (pv 0) (pa_cons (pe_ix ix_tup (pv 3) pe_int (fun _ _ => rfl)) (pa_cons (pv 2) pa_nil)))) pa_nil))) pa_nil)))) (pss_one (ps_expr (pe_bm PySem.F.plainAttrs_list PySem.F.slot_list_append PySem.F.type_list_append mt_append (pv 1) (pa_cons (pe_own h_law_shown (hr.mono (by decide)) (by rfl) (pa_cons (pv 0) (pa_cons (pv 3) pa_nil))) pa_nil)))))))
      (pss_one (ps_ret (pv 1))))), ?_⟩
    obtain ⟨b, xs, ha, hb, hts⟩ := id hN
    have hxl : xs.length = N.tubes.length := Paired.length hts
    have hlen := ok.len
    have hm := ok.m24
    have hb2 := ok.b2
    refine ⟨Nat.zero_le _, alloc fun fd H1 s1 f1 a1 => ?_⟩
    refine ⟨_, rfl, na, _, 2, _, rfl, rfl, upT s1 ha, atI_nat (j := 2) rfl, b, xs, rfl, upT s1 hb, ?_⟩
    refine for_it (walk_enumT (xs := xs)) (fun i σ H' => (∃ y2 y3, σ = [some (.ref na), some (.ref fd), y2, y3]) ∧ Same H H' ∧ H' fd = some (.lst ((N.resL i).map V.int))) ⟨⟨_, _, rfl⟩, s1, a1⟩ (fun i σ H' _ h => upT h.2.1 hb) ?_ ?_
    · rintro i v σ H2 H3 hi ⟨⟨y2, y3, rfl⟩, s2, hf2⟩ ⟨T0, x1, x2, rfl, hT0, rfl, e1, e2⟩
      cases e1
      obtain ⟨p, hp, a1, rfl, hpa⟩ := paired_get hts e2
      have okp := ok.ok p (List.mem_of_getElem? hp)
      have sT : Same H2 (upd H2 T0 (.tup [.int (i : Nat), .ref a1])) := same_upd hT0
      have hT2 : upd H2 T0 (.tup [.int (i : Nat), .ref a1]) T0 = some _ := upd_same
      generalize upd H2 T0 (.tup [.int (i : Nat), .ref a1]) = H3 at sT hT2
      have s3 := s2.trans sT
      have hf3 := sT _ _ hf2
      have hpa3 := upT s3 hpa
      have hNf : ∀ {H4 : Hp} {r : Int}, Same H H4 → H4 fd = some (.lst ((N.resL i).map V.int)) → N.resAt i = r → Same H (upd H4 fd (.lst ((N.resL i).map V.int ++ [V.int r]))) ∧ upd H4 fd (.lst ((N.resL i).map V.int ++ [V.int r])) fd = some (.lst ((N.resL (i + 1)).map V.int)) := fun s4 h4 er => by
        refine ⟨fun x o e => ?_, ?_⟩
        · rw [upd_ne (ne_of_none e f1)]
          exact s4 _ _ e
        · rw [upd_same, resL_succ, er, List.map_append]
          rfl
      have hil : i < N.tubes.length := by rw [← hxl]; exact hi
      have sm : ((N.resL i).map V.int).length < sizeLine := small1000 (by rw [List.length_map]; unfold Net.resL; rw [List.length_map, List.length_range]; omega)
      refine ⟨T0, _, rfl, SqT.of hT2, rfl, _, _, rfl, _, _, rfl, rfl, ?_⟩
      refine ⟨_, rfl, _, p, rfl, ⟨a1, rfl, hpa3⟩, p.wide, rfl, ite2 (fun c => ?_) (fun c => ?_)⟩
      · have er : N.resAt i = N.total (comp (OEdge N.tubes (some i)) N.many p.s) := by
          unfold Net.resAt
          rw [show N.tubes[i]? = some p from hp]
          exact if_pos c
        refine ⟨_, rfl, .inl ⟨rfl, _, SqL.of hf3⟩, _, rfl, _, rfl, _, rfl, a1, _, 0, _, rfl, rfl, hpa3, atI_nat (j := 0) rfl, _, rfl, na, N, p.s, some i, rfl, upN s3 hN, ok.lt, okp.s, hm, hlen, fun H4 l s4 hl hl4 => ?_⟩
        refine ⟨na, N, _, _, rfl, upN (s3.trans s4) hN, hlen, by omega, ⟨l, rfl, .inl (SqL.of hl4)⟩, fun H5 s5 => ?_⟩
        have hf5 := s5 _ _ (s4 _ _ hf3)
        have z := hNf ((s3.trans s4).trans s5) hf5 er
        exact ⟨fd, _, _, rfl, rfl, hf5, sm, ⟨_, _, rfl⟩, z.1, z.2⟩
      · have er : N.resAt i = p.shown N.base := by
          unfold Net.resAt
          rw [show N.tubes[i]? = some p from hp]
          exact if_neg c
        have z := hNf s3 hf3 er
        exact ⟨_, rfl, .inl ⟨rfl, _, SqL.of hf3⟩, _, rfl, _, rfl, na, N, _, p, rfl, upN s3 hN, by omega, ⟨a1, rfl, hpa3⟩, fd, _, _, rfl, rfl, hf3, sm, ⟨_, _, rfl⟩, z.1, z.2⟩
    · rintro σ H2 ⟨⟨y2, y3, rfl⟩, s2, hf2⟩
      rw [hxl] at hf2
      exact ⟨_, rfl, q H2 fd s2 f1 hf2⟩
abbrev s_law_surplus : Stmt := top 53
theorem sc_law_surplus : FnScope ["net", "limits", "spots", "low", "at"] ["net", "limits", "spots"] (defScope s_law_surplus) := ⟨rfl, rfl, rfl, by decide +kernel, rfl, by decide +kernel, by decide +kernel⟩
def sp_law_surplus (K : PySem.W.Frag) : Sp := fun vs H Q _ => ∃ (na pa : Addr) (N : Net) (ws : List V) (L : List (Int × Int)) (sv : V) (S : List Nat), vs = [.ref na, .ref pa, sv] ∧ NetAt K H na N ∧ NetOk N ∧ SqT K H pa ws ∧ PairsV K H ws L ∧ L.length = N.tubes.length ∧ Spots K H sv S ∧ ∀ H', Same H H' → Q (.int (exS N L S N.tubes.length)) H'
theorem has_law_surplus (D : DefAt K mg "_law_surplus" s_law_surplus ["net", "limits", "spots"]) (T : Blt mg) (h_law_ins : Has P w K mg base "_law_ins" 1 ["net", "spots"] (sp_law_hits K ent)) (h_law_outs : Has P w K mg base "_law_outs" 1 ["net", "spots"] (sp_law_hits K exi)) :
    Has P w K mg base "_law_surplus" 2 ["net", "limits", "spots"] (sp_law_surplus K) := by
  refine D.ok sc_law_surplus (fun vs H Q E h => ?_) (fun f cdv A outer s H vs Q E hr h => ?_)
  · obtain ⟨na, pa, N, ws, L, sv, S, rfl, _⟩ := h
    rfl
  · obtain ⟨na, pa, N, ws, L, sv, S, rfl, hN, ok, hw, hP, hLl, hS, q⟩ := h
    refine ⟨_, (pss_cons (ps_set (i := 3) sc_law_surplus.nd rfl (.inl rfl) (pe_callB (cr_sum rfl) (by rfl) T.b_sum (by decide +kernel) (pa_cons (pe_lc (own := [("at", 4)]) (g := gName 4) (tt := tYes) rfl sc_law_surplus.nd (pi_list (pe_own h_law_ins (hr.mono (by decide)) (by rfl) (pa_cons (pv 0) (pa_cons (pv 2) pa_nil)))) (blkOk_by (N := ["net", "limits", "spots", "low", "at"]) (sc := defScope s_law_surplus) (by decide +kernel)) (fun _ _ _ _ _ => (pg_name (i := 4) sc_law_surplus.nd rfl (Or.inl rfl))) (fun _ _ _ _ _ => pts_nil) (fun _ _ _ _ _ => (pe_ix (ix_tupK K) (pe_ix (ix_tupK K) (pv 1) (pv 4) (fun _ _ => rfl)) pe_int (fun _ _ => rfl)))) pa_nil)))
      (pss_one (ps_ret (pe_op op_sub (pv 3) (pe_callB (cr_sum rfl) (by rfl) T.b_sum (by decide +kernel) (pa_cons (pe_lc (own := [("at", 4)]) (g := gName 4) (tt := tYes) rfl sc_law_surplus.nd (pi_list (pe_own h_law_outs (hr.mono (by decide)) (by rfl) (pa_cons (pv 0) (pa_cons (pv 2) pa_nil)))) (blkOk_by (N := ["net", "limits", "spots", "low", "at"]) (sc := defScope s_law_surplus) (by decide +kernel)) (fun _ _ _ _ _ => (pg_name (i := 4) sc_law_surplus.nd rfl (Or.inl rfl))) (fun _ _ _ _ _ => pts_nil) (fun _ _ _ _ _ => (pe_ix (ix_tupK K) (pe_ix (ix_tupK K) (pv 1) (pv 4) (fun _ _ => rfl)) pe_int (fun _ _ => rfl)))) pa_nil)))))), ?_⟩
    have hlen := ok.len
    have hwl : ws.length = N.tubes.length := by rw [Paired.length hP, hLl]
    obtain ⟨sa, rfl, hS'⟩ := id hS
    refine ⟨_, rfl, _, rfl, na, N, _, S, rfl, hN, hlen, hS, fun H1 l s1 hl hl1 => ⟨l, rfl, ⟨_, SqL.of hl1⟩, fun D1 hD1 => ?_⟩⟩
    refine lc_it (walk_list (xs := (hits (ent S) N.tubes N.tubes.length).map natV)) (fun i H' => Same H1 H' ∧ H' D1 = some (.lst ((((hits (ent S) N.tubes N.tubes.length).take i).map fun k => (L.getD k (0, 0)).1).map V.int))) ⟨same_upd hD1, upd_same⟩ (fun i H' _ ⟨s2, _⟩ => SqL.of (s2 _ _ hl1)) ?_ ?_
    · rintro i v H2 H3 hi ⟨s2, hacc⟩ ⟨rfl, hv⟩
      have hv2 : ((hits (ent S) N.tubes N.tubes.length).map natV)[i]? = some v := hv
      rw [List.getElem?_map] at hv2
      cases hk : (hits (ent S) N.tubes N.tubes.length)[i]? with
      | none => rw [hk] at hv2; cases hv2
      | some k =>
        rw [hk] at hv2
        obtain rfl : natV k = v := Option.some.inj hv2
        have hkl := hits_lt (List.mem_of_getElem? hk)
        have hkw : k < ws.length := by rw [hwl]; exact hkl
        obtain ⟨q1, hq1, t, hwk, ht⟩ := paired_get hP (List.getElem?_eq_getElem hkw)
        have hwk' : ws[k]? = some (.ref t) := by rw [List.getElem?_eq_getElem hkw, hwk]
        have eq1 : L.getD k (0, 0) = q1 := by
          rw [List.getD_eq_getElem?_getD, hq1]
          rfl
        have htk : (hits (ent S) N.tubes N.tubes.length).take (i + 1) = (hits (ent S) N.tubes N.tubes.length).take i ++ [k] := by
          rw [List.take_add_one, hk]
          rfl
        have s02 := s1.trans s2
        have hl60 := hits_le (ent S) N.tubes N.tubes.length
        refine ⟨rfl, _, rfl, _, rfl, pa, _, (k : Int), _, rfl, rfl, upT s02 hw, atI_nat (j := k) hwk', t, _, 0, _, rfl, rfl, upT s02 ht, atI_nat (j := 0) rfl, _, hacc, small1000 (by rw [List.length_map, List.length_map, List.length_take]; omega), fun x o e => ?_, ?_⟩
        · rw [upd_ne (ne_of_none e hD1)]
          exact s2 _ _ e
        · rw [upd_same, htk, List.map_append, List.map_append, List.map_singleton, List.map_singleton, eq1]
    · rintro H2 ⟨s2, hacc⟩
      rw [List.length_map, List.take_length] at hacc
      have s02 := s1.trans s2
      refine ⟨D1, _, rfl, SqL.of hacc, ?_⟩
      refine ⟨_, rfl, _, rfl, _, rfl, na, N, _, S, rfl, upN s02 hN, hlen, ⟨sa, rfl, Spots.at s02 hS'⟩, fun H4 l2 s4 hl2 hl4 => ⟨l2, rfl, ⟨_, SqL.of hl4⟩, fun D2 hD2 => ?_⟩⟩
      have s04 := s02.trans s4
      refine lc_it (walk_list (xs := (hits (exi S) N.tubes N.tubes.length).map natV)) (fun i H' => Same H4 H' ∧ H' D2 = some (.lst ((((hits (exi S) N.tubes N.tubes.length).take i).map fun k => (L.getD k (0, 0)).2).map V.int))) ⟨same_upd hD2, upd_same⟩ (fun i H' _ ⟨s2, _⟩ => SqL.of (s2 _ _ hl4)) ?_ ?_
      · rintro i v H2 H3 hi ⟨s2, hacc⟩ ⟨rfl, hv⟩
        have hv2 : ((hits (exi S) N.tubes N.tubes.length).map natV)[i]? = some v := hv
        rw [List.getElem?_map] at hv2
        cases hk : (hits (exi S) N.tubes N.tubes.length)[i]? with
        | none => rw [hk] at hv2; cases hv2
        | some k =>
          rw [hk] at hv2
          obtain rfl : natV k = v := Option.some.inj hv2
          have hkl := hits_lt (List.mem_of_getElem? hk)
          have hkw : k < ws.length := by rw [hwl]; exact hkl
          obtain ⟨q1, hq1, t, hwk, ht⟩ := paired_get hP (List.getElem?_eq_getElem hkw)
          have hwk' : ws[k]? = some (.ref t) := by rw [List.getElem?_eq_getElem hkw, hwk]
          have eq1 : L.getD k (0, 0) = q1 := by
            rw [List.getD_eq_getElem?_getD, hq1]
            rfl
          have htk : (hits (exi S) N.tubes N.tubes.length).take (i + 1) = (hits (exi S) N.tubes N.tubes.length).take i ++ [k] := by
            rw [List.take_add_one, hk]
            rfl
          have s02 := s04.trans s2
          have hl60 := hits_le (exi S) N.tubes N.tubes.length
          refine ⟨rfl, _, rfl, _, rfl, pa, _, (k : Int), _, rfl, rfl, upT s02 hw, atI_nat (j := k) hwk', t, _, 1, _, rfl, rfl, upT s02 ht, atI_nat (j := 1) rfl, _, hacc, small1000 (by rw [List.length_map, List.length_map, List.length_take]; omega), fun x o e => ?_, ?_⟩
          · rw [upd_ne (ne_of_none e hD2)]
            exact s2 _ _ e
          · rw [upd_same, htk, List.map_append, List.map_append, List.map_singleton, List.map_singleton, eq1]
      · rintro H5 ⟨s5, hacc2⟩
        rw [List.length_map, List.take_length] at hacc2
        refine ⟨D2, _, rfl, SqL.of hacc2, _, _, rfl, rfl, ?_⟩
        exact q H5 (s04.trans s5)
abbrev s_law_pair : Stmt := top 56
theorem sc_law_pair : FnScope ["net", "tube", "rest", "base", "low", "high", "some", "count", "least", "greatest"] ["net", "tube", "rest"] (defScope s_law_pair) := ⟨rfl, rfl, rfl, by decide +kernel, rfl, by decide +kernel, by decide +kernel⟩
def sp_law_pair (K : PySem.W.Frag) : Sp := fun vs H Q _ => ∃ (na ta : Addr) (N : Net) (p : Tube) (r : Int), vs = [.ref na, .ref ta, .int r] ∧ NetAt K H na N ∧ NetOk N ∧ TubeOk N.base N.many p ∧ SqT K H ta p.vs ∧ 0 ≤ r ∧ r < N.base ∧ ∀ H' v, Same H H' → BndV K H' v (bdo N.base p r) → Q v H'
theorem has_law_pair (D : DefAt K mg "_law_pair" s_law_pair ["net", "tube", "rest"]) (T : Blt mg) :
    Has P w K mg base "_law_pair" 1 ["net", "tube", "rest"] (sp_law_pair K) := by
  refine D.ok sc_law_pair (fun vs H Q E h => ?_) (fun f cdv A outer s H vs Q E hr h => ?_)
  · obtain ⟨na, ta, N, p, r, rfl, _⟩ := h
    rfl
  · obtain ⟨na, ta, N, p, r, rfl, hN, ok, okp, hp, hr0, hr1, q⟩ := h
    have hu64 := hr.b64
    refine ⟨_, (pss_cons (ps_asg (pe_at (pe_tup (pa_cons (pe_ix ix_tup (pv 0) pe_int (fun _ _ => rfl)) (pa_cons (pe_ix ix_tup (pv 1) pe_int (fun _ _ => rfl)) (pa_cons (pe_ix ix_tup (pv 1) pe_int (fun _ _ => rfl)) pa_nil))))) (pg_tup rfl (pgs_cons (pg_name (i := 3) sc_law_pair.nd rfl (.inr rfl)) (pgs_cons (pg_name (i := 4) sc_law_pair.nd rfl (.inl rfl)) (pgs_cons (pg_name (i := 5) sc_law_pair.nd rfl (.inl rfl)) pgs_nil)))))
      (pss_cons (ps_if (PW.pt (pw_and (pt_cmpR op_lt (pe_op op_sub (pv 5) (pv 4)) (pe_op op_mul pe_int (pv 3)) (nomark _)) (pw_and1 (pt_cmpR op_lt (pv 3) pe_int (nomark _))))) (pss_cons (ps_setLc (i := 6) (own := [("count", 7)]) (g := gName 7) rfl sc_law_pair.nd rfl rfl (sw_true rfl rfl rfl (by decide +kernel)) (pi_range2 (by rfl) T.b_range (pa_cons (pv 4) (pa_cons (pe_op op_add (pv 5) pe_int) pa_nil))) (blkOk_by (N := ["net", "tube", "rest", "base", "low", "high", "some", "count", "least", "greatest"]) (sc := defScope s_law_pair) (by decide +kernel)) (fun _ _ _ _ _ => (pg_name (i := 7) sc_law_pair.nd rfl (Or.inl rfl))) (fun _ _ _ _ _ => (pts_one (pt_cmpR op_eq (pe_op op_mod (pv 7) (pv 3)) (pv 2) (nomark _)))) (fun _ _ _ _ _ => (pv 7)))
      (pss_one (ps_ret (pe_ifExp (pt_cmpR (op_eqD hu64) (pv 6) (pe_at (pe_lst pa_nil)) (nomark _)) pe_non (pe_at (pe_tup (pa_cons (pe_ix ix_list (pv 6) pe_int (fun _ _ => rfl)) (pa_cons (pe_ix ix_list (pv 6) (pe_un un_neg pe_int) (fun _ _ => rfl)) pa_nil)))))))) pss_nil)
      (pss_cons (ps_set (i := 8) sc_law_pair.nd rfl (.inl rfl) (pe_op op_add (pe_op op_mul (pe_op op_fdiv (pv 4) (pv 3)) (pv 3)) (pv 2)))
      (pss_cons (ps_set (i := 8) sc_law_pair.nd rfl (.inl rfl) (pe_ifExp (pt_cmpR op_ge (pv 8) (pv 4) (nomark _)) (pv 8) (pe_op op_add (pv 8) (pv 3))))
      (pss_cons (ps_set (i := 9) sc_law_pair.nd rfl (.inl rfl) (pe_op op_add (pe_op op_mul (pe_op op_fdiv (pv 5) (pv 3)) (pv 3)) (pv 2)))
      (pss_cons (ps_set (i := 9) sc_law_pair.nd rfl (.inl rfl) (pe_ifExp (pt_cmpR op_le (pv 9) (pv 5) (nomark _)) (pv 9) (pe_op op_sub (pv 9) (pv 3))))
      (pss_one (ps_ret (pe_ifExp (pt_chain op_le op_le (pv 4) (pv 8) (pv 5)) (pe_at (pe_tup (pa_cons (pv 8) (pa_cons (pv 9) pa_nil)))) pe_non))))))))), ?_⟩
    have hb2 := ok.b2
    have hb6 := ok.b6
    have hlo := okp.lo
    have hlh := okp.lh
    have hhi := okp.hi
    obtain ⟨b, xs, ha, hb, hts⟩ := id hN
    refine ⟨_, rfl, na, _, 0, _, rfl, rfl, ha, atI_nat (j := 0) rfl, ?_⟩
    refine ⟨_, rfl, ta, _, 2, _, rfl, rfl, hp, atI_nat (j := 2) rfl, ?_⟩
    refine ⟨_, rfl, ta, _, 3, _, rfl, rfl, hp, atI_nat (j := 3) rfl, (by show 3 ≤ sizeLine; decide), alloc fun tt H1 s1 f1 a1 => ?_⟩
    refine ⟨tt, _, rfl, SqT.of a1, rfl, _, _, rfl, _, _, rfl, _, _, rfl, rfl, ?_⟩
    show (_ : TS) _ [some (.ref na), some (.ref ta), some (.int r), some (.int N.base), some (.int p.lo), some (.int p.hi), none, none, none, none] H1
    refine ⟨_, rfl, _, rfl, _, _, rfl, rfl, _, rfl, _, _, rfl, rfl, .inl ⟨by decide, by decide⟩, _, _, rfl, rfl, _, rfl, ite2 (fun c1 => ?g1) (fun c1 => ?g2)⟩
    case' g1 => refine ⟨_, rfl, _, _, rfl, rfl, _, rfl, ite2 (fun c2 => ?g3) (fun c2 => ?g4)⟩
    case g3 =>
      have c1 := of_decide_eq_true c1
      have c1 : p.hi - p.lo < 2 * N.base := c1
      have c2 := of_decide_eq_true c2
      have c2 : N.base < 100 := c2
      refine ⟨_, rfl, _, rfl, _, _, rfl, rfl, p.lo, p.hi + 1, rfl, ⟨by omega, by omega, by omega, by omega⟩, fun D1 hD1 => ?_⟩
      refine lc_range (lo := p.lo) (n := (p.hi + 1 - p.lo).toNat) (fun i H' => Same H1 H' ∧ H' D1 = some (.lst ((resd N.base r p.lo i).map V.int))) ⟨same_upd hD1, upd_same⟩ ?_ ?_
      · rintro i H2 hi ⟨s2, hacc⟩
        have hrl := resd_len N.base r p.lo i
        have e1 := resd_succ N.base r p.lo i
        refine ⟨rfl, _, rfl, _, rfl, _, _, rfl, rfl, (by show (0 : Int) < N.base; omega), _, rfl, rfl, _, rfl, ite2 (fun c => ?_) (fun c => ?_)⟩
        · have c := V.int.inj (of_decide_eq_true c)
          rw [if_pos c] at e1
          refine ⟨_, rfl, _, hacc, small1000 (by rw [List.length_map]; omega), fun x o e => ?_, ?_⟩
          · rw [upd_ne (ne_of_none e hD1)]
            exact s2 _ _ e
          · rw [upd_same, e1, List.map_append]
            rfl
        · have c : ¬ (p.lo + (i : Int)) % N.base = r := fun z => c (decide_eq_true (congrArg V.int z))
          rw [if_neg c, List.append_nil] at e1
          exact ⟨s2, by rw [e1]; exact hacc⟩
      · rintro H2 ⟨s2, hacc⟩
        have rb := resd_bounds (by omega) hr0 hr1 hlh (resd N.base r p.lo (p.hi + 1 - p.lo).toNat) rfl
        generalize resd N.base r p.lo (p.hi + 1 - p.lo).toNat = l at hacc rb
        have s02 := s1.trans s2
        refine ⟨_, rfl, Nat.zero_le _, alloc fun e0 H3 s3 f3 a3 => ?_⟩
        refine ⟨.list (l.map PyData.int), .list [], .lst (SqL.of (s3 _ _ hacc)) (dpAll_map l fun x _ => .int x), .lst (SqL.of a3) .nil, shaped_ints5 l, (by decide +kernel), _, rfl, ?_⟩
        rw [eqv_nil]
        have s03 := s02.trans s3
        rcases rb with ⟨rfl, e⟩ | ⟨hne, e, h0, h1⟩
        · refine iteT (q H3 _ s03 ?_)
          rw [e]
          rfl
        · have em : (l.map PyData.int).isEmpty = false := by cases l with
            | nil => exact absurd rfl hne
            | cons x l => rfl
          rw [em]
          have hl3 := SqL.of (K := K) (s3 _ _ hacc)
          refine iteF ⟨_, rfl, D1, _, 0, _, rfl, rfl, hl3, atI_nat (j := 0) (v := V.int (bdp N.base p r).1) (by rw [List.getElem?_map, h0]; rfl), _, rfl, _, rfl, D1, _, _, _, rfl, rfl, hl3, atI_last (x := V.int (bdp N.base p r).2) (by rw [List.length_map, List.getElem?_map, h1]; rfl), (by show 2 ≤ sizeLine; decide), alloc fun t H4 s4 f4 a4 => ?_⟩
          refine q H4 _ (s03.trans s4) ?_
          rw [e]
          exact ⟨t, rfl, SqT.of a4⟩
    case' g2 => refine iteF ?_
    case' g2 =>
      refine ⟨_, rfl, _, rfl, _, _, rfl, rfl, ⟨by omega, by show N.base < 1073741824; omega⟩, _, rfl, _, _, rfl, rfl, .inr ⟨by show -(2 ^ 64) < N.base; omega, by show N.base < 2 ^ 64; omega⟩, _, rfl, _, _, rfl, rfl, ?_⟩
      have l1 := law_lo (lo := p.lo) (by omega) hr0 hr1
      have l2 := law_hi (hi := p.hi) (by omega) hr0 hr1
      refine ⟨_, rfl, _, rfl, _, _, rfl, rfl, _, rfl, ite2 (fun c => ⟨_, rfl, ?g2a⟩) (fun c => ⟨_, rfl, _, rfl, _, _, rfl, rfl, ?g2b⟩)⟩
    case' g2a =>
      have c : p.lo ≤ p.lo / N.base * N.base + r := of_decide_eq_true c
      rw [if_pos c] at l1
      show gName 8 (.int (p.lo / N.base * N.base + r)) _ H1 _
      rw [l1]
    case' g2b =>
      have c : ¬ p.lo ≤ p.lo / N.base * N.base + r := fun z => c (decide_eq_true z)
      rw [if_neg c] at l1
      show gName 8 (.int (p.lo / N.base * N.base + r + N.base)) _ H1 _
      rw [l1]
    case' g4 =>
      refine ⟨_, rfl, _, rfl, _, _, rfl, rfl, ⟨by omega, by show N.base < 1073741824; omega⟩, _, rfl, _, _, rfl, rfl, .inr ⟨by show -(2 ^ 64) < N.base; omega, by show N.base < 2 ^ 64; omega⟩, _, rfl, _, _, rfl, rfl, ?_⟩
      have l1 := law_lo (lo := p.lo) (by omega) hr0 hr1
      have l2 := law_hi (hi := p.hi) (by omega) hr0 hr1
      refine ⟨_, rfl, _, rfl, _, _, rfl, rfl, _, rfl, ite2 (fun c => ⟨_, rfl, ?g4a⟩) (fun c => ⟨_, rfl, _, rfl, _, _, rfl, rfl, ?g4b⟩)⟩
    case' g4a =>
      have c : p.lo ≤ p.lo / N.base * N.base + r := of_decide_eq_true c
      rw [if_pos c] at l1
      show gName 8 (.int (p.lo / N.base * N.base + r)) _ H1 _
      rw [l1]
    case' g4b =>
      have c : ¬ p.lo ≤ p.lo / N.base * N.base + r := fun z => c (decide_eq_true z)
      rw [if_neg c] at l1
      show gName 8 (.int (p.lo / N.base * N.base + r + N.base)) _ H1 _
      rw [l1]
    case' g2a =>
      show (_ : TS) _ [some (.ref na), some (.ref ta), some (.int r), some (.int N.base), some (.int p.lo), some (.int p.hi), none, none, some (.int (p.lo + (r - p.lo) % N.base)), none] H1
      refine ⟨_, rfl, _, rfl, _, _, rfl, rfl, ⟨by omega, by show N.base < 1073741824; omega⟩, _, rfl, _, _, rfl, rfl, .inr ⟨by show -(2 ^ 64) < N.base; omega, by show N.base < 2 ^ 64; omega⟩, _, rfl, _, _, rfl, rfl, ?_⟩
      refine ⟨_, rfl, _, rfl, _, _, rfl, rfl, _, rfl, ite2 (fun c => ⟨_, rfl, ?g2ac⟩) (fun c => ⟨_, rfl, _, rfl, _, _, rfl, rfl, ?g2ad⟩)⟩
    case' g2ac =>
      have c : p.hi / N.base * N.base + r ≤ p.hi := of_decide_eq_true c
      rw [if_pos c] at l2
      show gName 9 (.int (p.hi / N.base * N.base + r)) _ H1 _
      rw [l2]
    case' g2ad =>
      have c : ¬ p.hi / N.base * N.base + r ≤ p.hi := fun z => c (decide_eq_true z)
      rw [if_neg c] at l2
      show gName 9 (.int (p.hi / N.base * N.base + r - N.base)) _ H1 _
      rw [l2]
    case' g2b =>
      show (_ : TS) _ [some (.ref na), some (.ref ta), some (.int r), some (.int N.base), some (.int p.lo), some (.int p.hi), none, none, some (.int (p.lo + (r - p.lo) % N.base)), none] H1
      refine ⟨_, rfl, _, rfl, _, _, rfl, rfl, ⟨by omega, by show N.base < 1073741824; omega⟩, _, rfl, _, _, rfl, rfl, .inr ⟨by show -(2 ^ 64) < N.base; omega, by show N.base < 2 ^ 64; omega⟩, _, rfl, _, _, rfl, rfl, ?_⟩
      refine ⟨_, rfl, _, rfl, _, _, rfl, rfl, _, rfl, ite2 (fun c => ⟨_, rfl, ?g2bc⟩) (fun c => ⟨_, rfl, _, rfl, _, _, rfl, rfl, ?g2bd⟩)⟩
    case' g2bc =>
      have c : p.hi / N.base * N.base + r ≤ p.hi := of_decide_eq_true c
      rw [if_pos c] at l2
      show gName 9 (.int (p.hi / N.base * N.base + r)) _ H1 _
      rw [l2]
    case' g2bd =>
      have c : ¬ p.hi / N.base * N.base + r ≤ p.hi := fun z => c (decide_eq_true z)
      rw [if_neg c] at l2
      show gName 9 (.int (p.hi / N.base * N.base + r - N.base)) _ H1 _
      rw [l2]
    case' g4a =>
      show (_ : TS) _ [some (.ref na), some (.ref ta), some (.int r), some (.int N.base), some (.int p.lo), some (.int p.hi), none, none, some (.int (p.lo + (r - p.lo) % N.base)), none] H1
      refine ⟨_, rfl, _, rfl, _, _, rfl, rfl, ⟨by omega, by show N.base < 1073741824; omega⟩, _, rfl, _, _, rfl, rfl, .inr ⟨by show -(2 ^ 64) < N.base; omega, by show N.base < 2 ^ 64; omega⟩, _, rfl, _, _, rfl, rfl, ?_⟩
      refine ⟨_, rfl, _, rfl, _, _, rfl, rfl, _, rfl, ite2 (fun c => ⟨_, rfl, ?g4ac⟩) (fun c => ⟨_, rfl, _, rfl, _, _, rfl, rfl, ?g4ad⟩)⟩
    case' g4ac =>
      have c : p.hi / N.base * N.base + r ≤ p.hi := of_decide_eq_true c
      rw [if_pos c] at l2
      show gName 9 (.int (p.hi / N.base * N.base + r)) _ H1 _
      rw [l2]
    case' g4ad =>
      have c : ¬ p.hi / N.base * N.base + r ≤ p.hi := fun z => c (decide_eq_true z)
      rw [if_neg c] at l2
      show gName 9 (.int (p.hi / N.base * N.base + r - N.base)) _ H1 _
      rw [l2]
    case' g4b =>
      show (_ : TS) _ [some (.ref na), some (.ref ta), some (.int r), some (.int N.base), some (.int p.lo), some (.int p.hi), none, none, some (.int (p.lo + (r - p.lo) % N.base)), none] H1
      refine ⟨_, rfl, _, rfl, _, _, rfl, rfl, ⟨by omega, by show N.base < 1073741824; omega⟩, _, rfl, _, _, rfl, rfl, .inr ⟨by show -(2 ^ 64) < N.base; omega, by show N.base < 2 ^ 64; omega⟩, _, rfl, _, _, rfl, rfl, ?_⟩
      refine ⟨_, rfl, _, rfl, _, _, rfl, rfl, _, rfl, ite2 (fun c => ⟨_, rfl, ?g4bc⟩) (fun c => ⟨_, rfl, _, rfl, _, _, rfl, rfl, ?g4bd⟩)⟩
    case' g4bc =>
      have c : p.hi / N.base * N.base + r ≤ p.hi := of_decide_eq_true c
      rw [if_pos c] at l2
      show gName 9 (.int (p.hi / N.base * N.base + r)) _ H1 _
      rw [l2]
    case' g4bd =>
      have c : ¬ p.hi / N.base * N.base + r ≤ p.hi := fun z => c (decide_eq_true z)
      rw [if_neg c] at l2
      show gName 9 (.int (p.hi / N.base * N.base + r - N.base)) _ H1 _
      rw [l2]
    all_goals
      have bk := bd_ok (p := p) (b := N.base) (r := r) (by omega) hr0 hr1
      have lr := lo_range (b := N.base) (r := r) (lo := p.lo) (by omega)
      refine ⟨_, rfl, _, rfl, _, _, rfl, rfl, _, rfl, ite2 (fun d1 => ?_) (fun d1 => absurd (decide_eq_true lr.1) d1)⟩
      refine ⟨_, rfl, _, _, rfl, rfl, _, rfl, ite2 (fun d2 => ?_) (fun d2 => ?_)⟩
      · have d2 : p.lo + (r - p.lo) % N.base ≤ p.hi := of_decide_eq_true d2
        refine ⟨_, rfl, _, rfl, (by show 2 ≤ sizeLine; decide), alloc fun t H2 s2 f2 a2 => q H2 _ (s1.trans s2) ?_⟩
        unfold bdo
        rw [if_pos (bk.mpr d2)]
        exact ⟨t, rfl, SqT.of a2⟩
      · have d2 : ¬ p.lo + (r - p.lo) % N.base ≤ p.hi := fun z => d2 (decide_eq_true z)
        refine q H1 _ s1 ?_
        unfold bdo
        rw [if_neg (fun z => d2 (bk.mp z))]
        rfl
end
end Wc

set_option Elab.async false
set_option linter.all false
set_option maxRecDepth 100000
/-! All pairs and all wrong groups as the law finds them. -/
namespace Wc
open PySem PySem.Spec PyProof PyProof.Rows L2
local macro_rules | `(tactic| walk_at "up") => `(tactic| first | with_reducible assumption | (refine up1 (by with_reducible assumption) ?_; walk_at "up") | (refine SqT.of ?_; walk_at "up") | (refine SqL.of ?_; walk_at "up") | (refine upT (by with_reducible assumption) ?_; walk_at "up") | (refine upL (by with_reducible assumption) ?_; walk_at "up") | (refine upN (by with_reducible assumption) ?_; walk_at "up"))
theorem res_range' {N : Net} (ok : NetOk N) (k : Nat) : 0 ≤ N.resAt k ∧ N.resAt k < N.base := by
  have hb := ok.b2
  unfold Net.resAt
  cases h : N.tubes[k]? with
  | none => exact ⟨Int.le_refl _, by show (0 : Int) < N.base; omega⟩
  | some p =>
    show 0 ≤ (if p.wide = true then _ else _) ∧ (if p.wide = true then _ else _) < _
    by_cases c : p.wide = true
    · rw [if_pos c]
      unfold Net.total
      exact ⟨Int.emod_nonneg _ (by omega), Int.emod_lt_of_pos _ (by omega)⟩
    · rw [if_neg c]
      unfold Tube.shown
      have okp := ok.ok p (List.mem_of_getElem? h)
      cases hm : p.me with
      | none => exact ⟨Int.emod_nonneg _ (by omega), Int.emod_lt_of_pos _ (by omega)⟩
      | some i => exact okp.me i hm
section
variable {P : Program} {w : World} {K : PySem.W.Frag} {mg : Str → Option Value} {base : Heap}
abbrev s_law_pairs : Stmt := top 57
theorem sc_law_pairs : FnScope ["net", "tube", "rest"] ["net"] (defScope s_law_pairs) := ⟨rfl, rfl, rfl, by decide +kernel, rfl, by decide +kernel, by decide +kernel⟩
def sp_law_pairs (K : PySem.W.Frag) : Sp := fun vs H Q _ => ∃ (na : Addr) (N : Net), vs = [.ref na] ∧ NetAt K H na N ∧ NetOk N ∧ ∀ H' t ws, Same H H' → H t = none → H' t = some (.tup ws) → BndsV K H' ws N.bL → Q (.ref t) H'
theorem has_law_pairs (D : DefAt K mg "_law_pairs" s_law_pairs ["net"]) (T : Blt mg) (h_law_pair : Has P w K mg base "_law_pair" 1 ["net", "tube", "rest"] (sp_law_pair K)) (h_law_rests : Has P w K mg base "_law_rests" 3 ["net"] (sp_law_rests K)) :
    Has P w K mg base "_law_pairs" 4 ["net"] (sp_law_pairs K) := by
  refine D.ok sc_law_pairs (fun vs H Q E h => ?_) (fun f cdv A outer s H vs Q E hr h => ?_)
  · obtain ⟨na, N, rfl, _⟩ := h
    rfl
  · obtain ⟨na, N, rfl, hN, ok, q⟩ := h
    refine ⟨_, (pss_one (ps_ret (pe_callTy call_tuple_of (by rfl) T.b_tuple (by decide +kernel) (pa_cons (pe_lc (own := [("tube", 1), ("rest", 2)]) (g := gTup K 2 (gCons (gName 1) (gCons (gName 2) gNil))) (tt := tYes) rfl sc_law_pairs.nd (pi_zipK (by rfl) T.b_zip (pa_cons (pe_ix ix_tup (pv 0) pe_int (fun _ _ => rfl)) (pa_cons (pe_own h_law_rests (hr.mono (by decide)) (by rfl) (pa_cons (pv 0) pa_nil)) pa_nil))) (blkOk_by (N := ["net", "tube", "rest"]) (sc := defScope s_law_pairs) (by decide +kernel)) (fun _ _ _ _ _ => (pg_tupK K 2 rfl (pgs_cons (pg_name (i := 1) sc_law_pairs.nd rfl (Or.inl rfl)) (pgs_cons (pg_name (i := 2) sc_law_pairs.nd rfl (Or.inl rfl)) pgs_nil)))) (fun _ _ _ _ _ => pts_nil) (fun _ _ _ _ _ => (pe_own h_law_pair (hr.mono (by decide)) (by rfl) (pa_cons (pv 0) (pa_cons (pv 1) (pa_cons (pv 2) pa_nil)))))) pa_nil)))), ?_⟩
    obtain ⟨b, xs, ha, hb, hts⟩ := id hN
    have hxl : xs.length = N.tubes.length := Paired.length hts
    have hlen := ok.len
    refine ⟨_, rfl, na, _, 2, _, rfl, rfl, ha, atI_nat (j := 2) rfl, _, rfl, na, N, rfl, hN, ok, fun H1 l s1 hl hl1 => ?_⟩
    have hRl : (N.resL N.tubes.length).length = N.tubes.length := by unfold Net.resL; rw [List.length_map, List.length_range]
    refine ⟨true, false, b, l, xs, (N.resL N.tubes.length).map V.int, rfl, upT s1 hb, SqL.of hl1, fun D1 hD1 => ?_⟩
    refine lc_it (walk_Z (k1 := true) (k2 := false) (xs := xs) (ys := (N.resL N.tubes.length).map V.int) (by rw [List.length_map, hxl, hRl])) (fun i H' => Same H1 H' ∧ ∃ vs, H' D1 = some (.lst vs) ∧ BndsV K H' vs (bndL N (fun k => (N.resL N.tubes.length).getD k 0) i)) ⟨same_upd hD1, [], upd_same, .nil⟩ (fun i H' _ ⟨s2, _⟩ => ⟨upT (s1.trans s2) hb, SqL.of (s2 _ _ hl1)⟩) ?_ ?_
    · rintro i v H2 H3 hi ⟨s2, vs, hvs, hP⟩ ⟨T0, x1, x2, rfl, hT0, rfl, e1, e2⟩
      obtain ⟨p, hp, a1, rfl, hpa⟩ := paired_get hts e1
      have okp := ok.ok p (List.mem_of_getElem? hp)
      have hil : i < N.tubes.length := by rw [← hxl]; exact hi
      have hr1 : (N.resL N.tubes.length)[i]? = some (N.resAt i) := by
        unfold Net.resL
        rw [List.getElem?_map, List.getElem?_range hil]
        rfl
      have ex2 : x2 = .int (N.resAt i) := by
        have e2 : ((N.resL N.tubes.length).map V.int)[i]? = some x2 := e2
        rw [List.getElem?_map, hr1] at e2
        exact (Option.some.inj e2).symm
      subst ex2
      have sT : Same H2 (upd H2 T0 (.tup [.ref a1, .int (N.resAt i)])) := same_upd hT0
      have hT2 : upd H2 T0 (.tup [.ref a1, .int (N.resAt i)]) T0 = some (.tup [.ref a1, .int (N.resAt i)]) := upd_same
      generalize upd H2 T0 (.tup [.ref a1, .int (N.resAt i)]) = H4 at sT hT2
      have s14 := s2.trans sT
      have s04 := s1.trans s14
      have rr := res_range' ok i
      refine ⟨T0, _, rfl, SqT.of hT2, rfl, _, _, rfl, _, _, rfl, rfl, ?_⟩
      refine ⟨rfl, _, rfl, _, rfl, _, rfl, na, a1, N, p, _, rfl, upN s04 hN, ok, okp, upT s04 hpa, rr.1, rr.2, fun H5 u s5 hu => ?_⟩
      have hvs5 := s5 _ _ (sT _ _ hvs)
      have hP5 := hP.keep (sT.trans s5).keepT
      refine ⟨vs, hvs5, small1000 (by rw [Paired.length hP, bndL_len]; omega), fun x o e => ?_, vs ++ [u], upd_same, ?_⟩
      · rw [upd_ne (ne_of_none e hD1)]
        exact s5 _ _ (s14 _ _ e)
      · rw [bndL_succ]
        have eb : bndAt N (fun k => (N.resL N.tubes.length).getD k 0) i = bdo N.base p (N.resAt i) := by
          unfold bndAt
          rw [show N.tubes[i]? = some p from hp]
          show bdo N.base p ((N.resL N.tubes.length).getD i 0) = _
          rw [List.getD_eq_getElem?_getD, hr1]
          rfl
        rw [eb]
        exact Paired.snoc (BndsV.keep (keepT_upd_lst hvs5) hP5) (hu.keep (keepT_upd_lst hvs5))
    · rintro H2 ⟨s2, vs, hvs, hP⟩
      rw [hxl] at hP
      refine ⟨D1, _, rfl, .inl ⟨SqL.of hvs, fun t ht => ?_⟩⟩
      exact q _ t vs ((s1.trans s2).trans (same_upd ht)) ((s1.trans s2).free ht) upd_same (BndsV.keep (same_upd ht).keepT hP)
def sp_law_wrong5 (K : PySem.W.Frag) : Sp := fun vs H Q _ => ∃ (na : Addr) (N : Net), vs = [.ref na] ∧ NetAt K H na N ∧ NetOk N ∧
  ∀ H' l gs, Same H H' → H l = none → H' l = some (.lst (gs.map V.ref)) → Paired (fun g x => H' g = some (.tup ((comp (OEdge N.tubes none) N.many x).map natV))) gs (wrongs N) → Q (.ref l) H'
theorem has_law_wrong5 (D : DefAt K mg "_law_wrong" s_law_wrong ["net"]) (T : Blt mg) (h_law_clusters : Has P w K mg base "_law_clusters" 3 ["net"] (sp_law_clusters K)) (h_law_total : Has P w K mg base "_law_total" 2 ["net", "spots"] (sp_law_total K)) :
    Has P w K mg base "_law_wrong" 4 ["net"] (sp_law_wrong5 K) := by
  refine D.ok sc_law_wrong (fun vs H Q E h => ?_) (fun f cdv A outer s H vs Q E hr h => ?_)
  · obtain ⟨na, N, rfl, _⟩ := h
    rfl
  · obtain ⟨na, N, rfl, hN, ok, q⟩ := h
    refine ⟨_, (pss_one (ps_ret (pe_lc (own := [("cluster", 1)]) (g := gName 1) rfl sc_law_wrong.nd (pi_list (pe_own h_law_clusters (hr.mono (by decide)) (by rfl) (pa_cons (pv 0) pa_nil))) (blkOk_by (N := ["net", "cluster"]) (sc := defScope s_law_wrong) (by decide +kernel)) (fun _ _ _ _ _ => (pg_name (i := 1) sc_law_wrong.nd rfl (Or.inl rfl))) (fun _ _ _ _ _ => (pts_one (pt_cmpR op_ne (pe_own h_law_total (hr.mono (by decide)) (by rfl) (pa_cons (pv 0) (pa_cons (pv 1) pa_nil))) pe_int (nomark _)))) (fun _ _ _ _ _ => (pv 1))))), ?_⟩
    have hb2 := ok.b2
    have hlen := ok.len
    refine ⟨_, rfl, na, N, rfl, hN, ok.lt, ok.m24, ok.len, fun H1 l gs s1 hl hgs hG => ⟨l, rfl, ⟨_, SqL.of hgs⟩, fun D0 hD => ?_⟩⟩
    have hfl : (firsts (OEdge N.tubes none) N.many).length ≤ 24 := by
      have h2 : (firsts (OEdge N.tubes none) N.many).length ≤ (List.range N.many).length := List.length_filter_le _ _
      rw [List.length_range] at h2
      exact Nat.le_trans h2 ok.m24
    have hgl : gs.length = (firsts (OEdge N.tubes none) N.many).length := Paired.length hG
    refine lc_it (walk_list (xs := gs.map V.ref)) (fun i H' => Same H1 H' ∧ ∃ us, H' D0 = some (.lst (us.map V.ref)) ∧ Paired (fun g x => H1 g = some (.tup ((comp (OEdge N.tubes none) N.many x).map natV))) us (((firsts (OEdge N.tubes none) N.many).take i).filter fun x => !decide (N.total (comp (OEdge N.tubes none) N.many x) = 0)))
      ⟨same_upd hD, [], upd_same, .nil⟩ (fun i H' _ ⟨s2, _⟩ => SqL.of (s2 _ _ hgs)) ?_ ?_
    · rintro i v H2 H3 hi ⟨s2, us, hus, hU⟩ ⟨rfl, hv⟩
      have hil : i < gs.length := by rw [List.length_map] at hi; exact hi
      have hgi : gs[i]? = some gs[i] := List.getElem?_eq_getElem hil
      generalize gs[i] = g at hgi
      have hv2 : (gs.map V.ref)[i]? = some v := hv
      rw [List.getElem?_map, hgi] at hv2
      have ev : V.ref g = v := Option.some.inj hv2
      subst ev
      obtain ⟨x, hx, hgx⟩ := paired_get hG hgi
      have hg2 := s2 _ _ hgx
      have htk : (firsts (OEdge N.tubes none) N.many).take (i + 1) = (firsts (OEdge N.tubes none) N.many).take i ++ [x] := by
        rw [List.take_add_one, hx]
        rfl
      have hul : us.length ≤ 24 := by
        rw [Paired.length hU]
        refine Nat.le_trans (List.length_filter_le _ _) ?_
        rw [List.length_take]
        omega
      refine ⟨rfl, _, rfl, _, rfl, na, N, _, comp (OEdge N.tubes none) N.many x, rfl, upN (s1.trans s2) hN, hlen, by omega, ⟨g, rfl, .inr (SqT.of hg2)⟩, fun H4 s4 => ?_⟩
      have s24 := s2.trans s4
      have hus4 := s4 _ _ hus
      refine ⟨rfl, _, rfl, ite2 (fun hne => ?_) (fun hne => ?_)⟩
      · have hne' : (!decide (N.total (comp (OEdge N.tubes none) N.many x) = 0)) = true := by
          rw [dec_int] at hne
          simpa using hne
        refine ⟨_, rfl, _, hus4, small1000 (by rw [List.length_map]; omega), fun b o e => ?_, us ++ [g], ?_, ?_⟩
        · rw [upd_ne (ne_of_none e hD)]
          exact s24 _ _ e
        · rw [upd_same, List.map_append]
          rfl
        · rw [htk, List.filter_append, List.filter_cons, if_pos hne']
          exact Paired.snoc hU hgx
      · have he' : (!decide (N.total (comp (OEdge N.tubes none) N.many x) = 0)) = false := by
          rw [dec_int] at hne
          simpa using hne
        refine ⟨s24, us, hus4, ?_⟩
        rw [htk, List.filter_append, List.filter_cons, if_neg (by rw [he']; decide), List.filter_nil, List.append_nil]
        exact hU
    · rintro H2 ⟨s2, us, hus, hU⟩
      rw [List.length_map, hgl, List.take_length] at hU
      exact q H2 D0 us (s1.trans s2) (s1.free hD) hus (Paired.mapP hU fun g x e => s2 _ _ e)
end
end Wc

set_option Elab.async false
set_option linter.all false
set_option maxRecDepth 100000
/-! isinstance of a kept exception; defs that raise, called by keywords. -/
namespace Wc
open PySem PySem.Spec PySem.W PyProof.Rows L2
/-- what an own class must say for its instances to be asked and read when they are kept -/
structure KxC (K : Frag) (C : Addr) : Prop where
  x : XfC K C
  cl : (clsIn K C).isSome = true
  ck : findIn K (.ref C) "__class__" = some (some (.builtin "object.__class__"))
  sp : specialIn K (.builtin "object.__class__") "__get__" = some (some (.builtin "getset_descriptor.__get__"))
  tk : takesIn K (.builtin "object.__class__") = some true
  ob : mroIn K C (.type "object") = some true
/-- isinstance(e, D), e None or a kept exception -/
def rIsK (K : Frag) : List V → Hp → VK → Prop := fun xs H Q => ∃ (D : Addr) (b : Bool), (xs = [.non, .ref D] ∧ kitOne K (.type "NoneType") (.ref D) = some b ∧ Q (.bl b) H) ∨
  ∃ (a C d : Addr) (fs : List (Str × V)), xs = [.ref a, .ref D] ∧ KxC K C ∧ H a = some (KxO (.ref C) (some d) a) ∧ H d = some (.xd fs) ∧ kitOne K (.ref C) (.ref D) = some b ∧ Q (.bl b) H
theorem call_isK {X : Cx} : CallR X (.builtin "isinstance") (rIsK X.K) := by
  intro pins s σ H xs us Q I r h
  obtain ⟨D, b, h | h⟩ := h
  · obtain ⟨rfl, e, q⟩ := h
    exact call_isi pins s σ H _ us Q I r ⟨.non, .ref D, .type "NoneType", .ref D, b, rfl, .own D, .base .non, e, q⟩
  · obtain ⟨a, C, d, fs, rfl, T, ea, ed, e, q⟩ := h
    obtain ⟨u1, u2, rfl, r1, r2⟩ := vals2 r
    obtain rfl : u1 = Value.ref a := r1
    obtain rfl : u2 = Value.ref D := r2
    obtain ⟨⟨oe, vs, go, z, dt⟩, _, _⟩ : ObjOk X.prog X.w H s.heap a (KxO (.ref C) (some d) a) := I.hok a _ ea
    obtain ⟨mA, names, rel⟩ : ObjOk X.prog X.w H s.heap d (.xd fs) := I.hok d _ ed
    obtain ⟨od, gd, look⟩ := lookIn_ns names
    have J : InstAt s.heap a oe C (some od) := ⟨go, z.1, by unfold notCls; rw [dt] <;> rfl, by rw [z.2]; exact gd⟩
    exact kia_one (kitx_exc T.cl T.x.ga T.x.gg T.x.exC T.ck T.sp T.tk T.ob) I.kIn J e (fun z => nomatch z) fun tk => ⟨.bl b, H, I.tok tk, rfl, q⟩
/-- a def that may raise and is called by keywords alone -/
def HasKX (P : Program) (w : World) (K : Frag) (mg : Str → Option Value) (base : Heap) (x : Str) (k : Nat) (ps ks : List Str) (sp : Sp) : Prop :=
  ∃ (f : Addr) (fd : FuncData), mg x = some (.ref f) ∧ keepIn K (.ref f) = true ∧ KBn K fd ps 0 ks (fun _ ws => ws) (fun _ zs => zs) ∧ FnOk P w K mg base (L2.CX P w) k f fd ps sp
def tByKwX (n : Nat) (sp : Sp) (E : XK) (tk : TA) : TE := fun σ H Q => tk σ H fun zs H1 => zs.length = n ∧ sp zs H1 Q E
theorem pe_ownKX {X : Cx} {x : Str} {k : Nat} {ps ks : List Str} {sp : Sp} {E : XK} {p pos : Pos} {kws : List Keyword} {tk : TA} (F : HasKX X.prog X.w X.K X.mg X.base x k ps ks sp) (hr : Room k X.A) (hg : Gl X x) (hx : Passes (L2.CX X.prog X.w) X E) (ha : PK X kws tk)
    (all : ((backToKw pos (keywordEach kws X.env)).all fun x => x.fst.isSome) = true := by rfl)
    (names : List.filterMap (fun x => x.fst) (backToKw pos (keywordEach kws X.env)) = ks := by rfl)
    (nodebug : (x == ("__debug__" : Str)) = false := by decide)
    (plain : (((backTo pos (starEach [] X.env)).any fun x => x.fst) || (backToKw pos (keywordEach kws X.env)).any fun x => x.fst.isNone) = false := by rfl) :
    PE X (.Call (.Name x p) [] kws pos) (tByKwX ks.length sp E tk) := by
  obtain ⟨f, fd, hm, hk, hb, F⟩ := F
  refine ⟨fun pins s σ H Q I h => ?_⟩
  refine wpAny_Call_Name_kw (ld_glob I hg hm (callWith_KW0 I.ok.mod.kin hk all ?_ plain) nodebug)
  refine thn (ha.run pos pins s σ H (fun zs H1 => zs.length = ks.length ∧ sp zs H1 Q E) I h) fun ws s1 ⟨zs, H1, I1, rz, hl, q⟩ => ⟨I1.kIn, ?_⟩
  rw [names]
  exact run_fnN F hr hb hx I1 (show Vals [] [] from .nil) rz rfl hl q
theorem pe_ownXE {X : Cx} {x : Str} {k : Nat} {ps : List Str} {sp : Sp} {E : XK} {p pos : Pos} {e : Expr} {es : List Expr} {t : TA} (F : HasX X.prog X.w X.K X.mg X.base x k ps sp) (hr : Room k X.A) (hg : Gl X x) (hx : Passes (L2.CX X.prog X.w) X E) (ha : PA X (e :: es) t)
    (nodebug : (x == ("__debug__" : Str)) = false := by decide)
    (first : starEach (e :: es) X.env = (false, eval e X.env) :: starEach es X.env := by rfl)
    (plain : (backTo pos (starEach es X.env)).any (·.1) = false := by rfl) :
    PE X (.Call (.Name x p) (e :: es) [] pos) (tCall sp [] E t) := by
  refine ⟨fun pins s σ H Q I h => ?_⟩
  obtain ⟨f, fd, hm, hk, hb, F⟩ := F
  exact (pe_call F hr hg hm hk hb .nil hx ha nodebug first plain).run pins s σ H Q I h
end Wc

set_option Elab.async false
set_option linter.all false
set_option maxRecDepth 100000
/-! What a call returns or raises, as the law tells it. -/
namespace Wc
open PySem PySem.Spec PyProof.Rows L2 LamX
/-- an own class with one field, as the law looks at its kept instances; CW is the base class of all -/
structure K1 (K : PySem.W.Frag) (mg : Str → Option Value) (CW : Addr) (x : Str) (C : Addr) (f : Str) : Prop where
  at_ : mg x = some (.ref C)
  k : KxC K C
  no : PySem.W.findIn K (.ref C) f = some none
  ex : PySem.W.exmOne K (.ref C) (.ref CW) = some true
  nn : PySem.W.kitOne K (.type "NoneType") (.ref C) = some false
/-- an exception comes where the slots are as many as the names -/
theorem Takes.len {X : Cx} {W : WX} (t : Takes X W) : Takes X (fun cls d σ H => σ.length = X.N.length → W cls d σ H) := by
  rintro u s' ⟨a, B, sI, pins, σ, H, cls, d, e, I, nb, up, sky, na, os, ag, w⟩
  exact t u s' ⟨a, B, sI, pins, σ, H, cls, d, e, I, nb, up, sky, na, os, ag, w I.len⟩
/-- try: m = call() / except C as n: r = n -/
def rTryK (K : PySem.W.Frag) (CW : Addr) (i j l : Nat) (f c' : Addr) (q : Str) (tl : XK → Hp → VK → Prop) : TS := fun D σ H =>
  ∃ Ech : XK, (∀ cls d σ' H', Ech cls d H' → σ'.length = σ.length → wKeep K (.ref CW) i j D cls d σ' H') ∧ σ[0]? = some (some (.ref f)) ∧ H c' = some (CodeO c' q) ∧ ∃ Q0 : VK, tl Ech H Q0 ∧ ∀ v H', Q0 v H' → D.nx (σ.set l (some v)) H'
/-- what the law makes of what a call returns or raises: the group of a GroupSum, or what is returned -/
def TCaught (CG : Addr) : (XK → Hp → VK → Prop) → Hp → VK → Prop := fun tl H Q =>
  tl (fun cls d H' => ∃ dd g, cls = .ref CG ∧ d = some dd ∧ H' dd = some (.xd [("group", g)]) ∧ ∀ t H2, Same H' H2 → H' t = none → H2 t = some (.tup [.str "sum", g]) → Q (.ref t) H2) H
    (fun v H' => ∀ t H2, Same H' H2 → H' t = none → H2 t = some (.tup [.str "returned", v]) → Q (.ref t) H2)
theorem pe_weaker {X : Cx} {e : Expr} {t : TE} (h : PE X e t) : PE X e (fun σ H Q => ∃ Q0 : VK, t σ H Q0 ∧ ∀ v H', Q0 v H' → Q v H') := by
  refine ⟨fun pins s σ H Q I ⟨Q0, h1, h2⟩ => ?_⟩
  exact thn (h.run pins s σ H Q0 I h1) fun u s1 ⟨v, H1, I1, r1, q⟩ => ⟨v, H1, I1, r1, h2 v H1 q⟩
abbrev s_law_caught : Stmt := top 55
theorem sc_law_caught : FnScope ["call", "error", "found", "e"] ["call"] (defScope s_law_caught) := ⟨rfl, rfl, rfl, by decide +kernel, rfl, by decide +kernel, by decide +kernel⟩
theorem caught_gives {X : Cx} {K : PySem.W.Frag} {mg : Str → Option Value} (hK : X.K = K) (hmg : X.mg = mg) {q : Str} {g CW CP CG CN : Addr} {cdg : Value} (T : Blt mg) (cW : mg "WrapcountError" = some (.ref CW)) (kP : K1 K mg CW "InvalidPlaces" CP "value") (kG : K1 K mg CW "GroupSum" CG "group") (kN : K1 K mg CW "NoCount" CN "pipe")
    (gP : PySem.W.kitOne K (.ref CG) (.ref CP) = some false) (gG : PySem.W.kitOne K (.ref CG) (.ref CG) = some true) :
    GivesTo X ["call", "error", "found", "e"] "_law_caught" (defScope s_law_caught) g cdg (defBody s_law_caught) "call" q (TCaught CG) := by
  subst hK hmg
  intro f c' s H Q tl act hc h
  refine ⟨_, (pss_cons (ps_set (i := 1) sc_law_caught.nd rfl (.inl rfl) pe_non)
      (pss_cons (ps_set (i := 2) sc_law_caught.nd rfl (.inl rfl) pe_non)
      (pss_cons (show PS _ _ (rTryK X.K CW 3 1 2 f c' q tl) from ?hT)
      (pss_cons (ps_if (pt_val (pe_callB call_isK (by rfl) T.b_isinstance (by decide +kernel) (pa_cons (pv 1) (pa_cons (pe_glob (v := .ref CP) (by rfl) kP.at_ rfl) pa_nil)))) (pss_one (ps_ret (pe_tup (pa_cons pe_str (pa_cons (pe_kxf kP.k.x kP.no (pv 1)) pa_nil))))) pss_nil)
      (pss_cons (ps_if (pt_val (pe_callB call_isK (by rfl) T.b_isinstance (by decide +kernel) (pa_cons (pv 1) (pa_cons (pe_glob (v := .ref CG) (by rfl) kG.at_ rfl) pa_nil)))) (pss_one (ps_ret (pe_tup (pa_cons pe_str (pa_cons (pe_kxf kG.k.x kG.no (pv 1)) pa_nil))))) pss_nil)
      (pss_cons (ps_if (pt_val (pe_callB call_isK (by rfl) T.b_isinstance (by decide +kernel) (pa_cons (pv 1) (pa_cons (pe_glob (v := .ref CN) (by rfl) kN.at_ rfl) pa_nil)))) (pss_one (ps_ret (pe_tup (pa_cons pe_str (pa_cons (pe_kxf kN.k.x kN.no (pv 1)) pa_nil))))) pss_nil)
      (pss_one (ps_ret (pe_ifExp (pt_cmpR op_isN (pv 1) pe_non (nomark _)) (pe_tup (pa_cons pe_str (pa_cons (pv 2) pa_nil))) (pe_tup (pa_cons pe_str (pa_cons pe_non pa_nil)))))))))))), ?_⟩
  case hT =>
    refine ⟨fun pins s' σ H' D I h' => ?_⟩
    obtain ⟨Ech, hW, h1, h2, Q0, h3, h4⟩ := h'
    refine (ps_try_keep (X := (cxOf C8.CX0 X.prog X.w X.K X.mg X.base ["call", "error", "found", "e"] "_law_caught" (defScope s_law_caught) g cdg X.A X.stack s H C8.E0).nox) (c := .ref CW) (i := 3) (j := 1) (tb := fun W D σ H => ∃ Ech : XK, (∀ cls d σ' H', Ech cls d H' → σ'.length = 4 → W cls d σ' H') ∧ σ[0]? = some (some (.ref f)) ∧ H c' = some (CodeO c' q) ∧ ∃ Q0 : VK, tl Ech H Q0 ∧ ∀ v H', Q0 v H' → D.nx (σ.set 2 (some v)) H')
      rfl rfl rfl sc_law_caught.nd rfl rfl rfl rfl ⟨(by rfl), (by decide), .inl cW⟩ (by decide) (by decide) (fun W pn xe tk _ => ?_)).run pins s' σ H' D I ⟨Ech, fun cls d σ' H' he hl => hW cls d σ' H' he (hl.trans I.len.symm), h1, h2, Q0, h3, h4⟩
    refine ⟨fun pins s' σ H' D I h' => ?_⟩
    obtain ⟨Ech, hW, h1, h2, Q0, h3, h4⟩ := h'
    exact (pss_one (ps_set (i := 2) sc_law_caught.nd rfl (.inl rfl) (pe_weaker (act _ pn xe Ech _ _ (Takes.len tk) (fun cls d σ' H' he hl => hW cls d σ' H' he hl))))).run pins s' σ H' D I ⟨Q0, ⟨h1, h2, h3⟩, h4⟩
  show rTryK X.K CW 3 1 2 f c' q tl _ [some (.ref f), some .non, some .non, none] H
  refine ⟨_, fun cls d σ' H' he hl => ?_, rfl, hc, _, h, fun v H' hv => ?_⟩
  · obtain ⟨dd, gv, rfl, rfl, hd, hQ⟩ := he
    obtain ⟨s0, s1, s2, s3, rfl⟩ : ∃ s0 s1 s2 s3, σ' = [s0, s1, s2, s3] := by
      match σ', hl with
      | [s0, s1, s2, s3], _ => exact ⟨s0, s1, s2, s3, rfl⟩
    refine ⟨kG.ex, fun a na => ?_⟩
    have nd : dd ≠ a := ne_of_none hd na
    have ha : upd H' a (KxO (.ref CG) (some dd) a) a = some (KxO (.ref CG) (some dd) a) := upd_same
    have hd2 : upd H' a (KxO (.ref CG) (some dd) a) dd = some (.xd [("group", gv)]) := by rw [upd_ne nd]; exact hd
    have sm : Same H' (upd H' a (KxO (.ref CG) (some dd) a)) := same_upd na
    refine ⟨_, rfl, CP, false, .inr ⟨a, CG, dd, _, rfl, kG.k, ha, hd2, gP, false, rfl, iteF ?_⟩⟩
    refine ⟨_, rfl, CG, true, .inr ⟨a, CG, dd, _, rfl, kG.k, ha, hd2, gG, true, rfl, iteT ?_⟩⟩
    refine ⟨_, rfl, a, dd, _, gv, rfl, ha, hd2, rfl, (by show 2 ≤ sizeLine; decide), fun t ht => ?_⟩
    have st : Same (upd H' a (KxO (.ref CG) (some dd) a)) (upd (upd H' a (KxO (.ref CG) (some dd) a)) t (.tup [.str "sum", gv])) := same_upd ht
    exact hQ t _ (sm.trans st) (sm.free ht) upd_same
  · refine ⟨_, rfl, CP, false, .inl ⟨rfl, kP.nn, false, rfl, iteF ?_⟩⟩
    refine ⟨_, rfl, CG, false, .inl ⟨rfl, kG.nn, false, rfl, iteF ?_⟩⟩
    refine ⟨_, rfl, CN, false, .inl ⟨rfl, kN.nn, false, rfl, iteF ?_⟩⟩
    refine ⟨_, rfl, rfl, _, rfl, ?_⟩
    show (if decide (V.non = V.non) = true then _ else _)
    rw [if_pos (decide_eq_true rfl)]
    refine ⟨_, rfl, (by show 2 ≤ sizeLine; decide), fun t ht => ?_⟩
    exact hv t _ (same_upd ht) ht upd_same
end Wc

set_option Elab.async false
set_option linter.all false
set_option maxRecDepth 100000
/-! What a call returns or raises of three classes, as the law tells it. -/
namespace Wc
open PySem PySem.Spec PyProof.Rows L2 LamX
/-- what the law makes of what a call returns or raises -/
def TCaught3 (CP CG CN : Addr) : (XK → Hp → VK → Prop) → Hp → VK → Prop := fun tl H Q =>
  tl (fun cls d H' => ∃ (dd : Addr) (f nm : Str) (C : Addr) (g : V), cls = .ref C ∧ d = some dd ∧ H' dd = some (.xd [(f, g)]) ∧ ((C = CP ∧ f = "value" ∧ nm = "places") ∨ (C = CG ∧ f = "group" ∧ nm = "sum") ∨ (C = CN ∧ f = "pipe" ∧ nm = "count")) ∧ ∀ t H2, Same H' H2 → H' t = none → H2 t = some (.tup [.str nm, g]) → Q (.ref t) H2) H
    (fun v H' => ∀ t H2, Same H' H2 → H' t = none → H2 t = some (.tup [.str "returned", v]) → Q (.ref t) H2)
theorem caught3_gives {X : Cx} {K : PySem.W.Frag} {mg : Str → Option Value} (hK : X.K = K) (hmg : X.mg = mg) {q : Str} {g CW CP CG CN : Addr} {cdg : Value} (T : Blt mg) (cW : mg "WrapcountError" = some (.ref CW)) (kP : K1 K mg CW "InvalidPlaces" CP "value") (kG : K1 K mg CW "GroupSum" CG "group") (kN : K1 K mg CW "NoCount" CN "pipe")
    (gPP : PySem.W.kitOne K (.ref CP) (.ref CP) = some true) (gP : PySem.W.kitOne K (.ref CG) (.ref CP) = some false) (gG : PySem.W.kitOne K (.ref CG) (.ref CG) = some true) (gNP : PySem.W.kitOne K (.ref CN) (.ref CP) = some false) (gNG : PySem.W.kitOne K (.ref CN) (.ref CG) = some false) (gNN : PySem.W.kitOne K (.ref CN) (.ref CN) = some true) :
    GivesTo X ["call", "error", "found", "e"] "_law_caught" (defScope s_law_caught) g cdg (defBody s_law_caught) "call" q (TCaught3 CP CG CN) := by
  subst hK hmg
  intro f c' s H Q tl act hc h
  refine ⟨_, (pss_cons (ps_set (i := 1) sc_law_caught.nd rfl (.inl rfl) pe_non)
      (pss_cons (ps_set (i := 2) sc_law_caught.nd rfl (.inl rfl) pe_non)
      (pss_cons (show PS _ _ (rTryK X.K CW 3 1 2 f c' q tl) from ?hT)
      (pss_cons (ps_if (pt_val (pe_callB call_isK (by rfl) T.b_isinstance (by decide +kernel) (pa_cons (pv 1) (pa_cons (pe_glob (v := .ref CP) (by rfl) kP.at_ rfl) pa_nil)))) (pss_one (ps_ret (pe_tup (pa_cons pe_str (pa_cons (pe_kxf kP.k.x kP.no (pv 1)) pa_nil))))) pss_nil)
      (pss_cons (ps_if (pt_val (pe_callB call_isK (by rfl) T.b_isinstance (by decide +kernel) (pa_cons (pv 1) (pa_cons (pe_glob (v := .ref CG) (by rfl) kG.at_ rfl) pa_nil)))) (pss_one (ps_ret (pe_tup (pa_cons pe_str (pa_cons (pe_kxf kG.k.x kG.no (pv 1)) pa_nil))))) pss_nil)
      (pss_cons (ps_if (pt_val (pe_callB call_isK (by rfl) T.b_isinstance (by decide +kernel) (pa_cons (pv 1) (pa_cons (pe_glob (v := .ref CN) (by rfl) kN.at_ rfl) pa_nil)))) (pss_one (ps_ret (pe_tup (pa_cons pe_str (pa_cons (pe_kxf kN.k.x kN.no (pv 1)) pa_nil))))) pss_nil)
      (pss_one (ps_ret (pe_ifExp (pt_cmpR op_isN (pv 1) pe_non (nomark _)) (pe_tup (pa_cons pe_str (pa_cons (pv 2) pa_nil))) (pe_tup (pa_cons pe_str (pa_cons pe_non pa_nil)))))))))))), ?_⟩
  case hT =>
    refine ⟨fun pins s' σ H' D I h' => ?_⟩
    obtain ⟨Ech, hW, h1, h2, Q0, h3, h4⟩ := h'
    refine (ps_try_keep (X := (cxOf C8.CX0 X.prog X.w X.K X.mg X.base ["call", "error", "found", "e"] "_law_caught" (defScope s_law_caught) g cdg X.A X.stack s H C8.E0).nox) (c := .ref CW) (i := 3) (j := 1) (tb := fun W D σ H => ∃ Ech : XK, (∀ cls d σ' H', Ech cls d H' → σ'.length = 4 → W cls d σ' H') ∧ σ[0]? = some (some (.ref f)) ∧ H c' = some (CodeO c' q) ∧ ∃ Q0 : VK, tl Ech H Q0 ∧ ∀ v H', Q0 v H' → D.nx (σ.set 2 (some v)) H')
      rfl rfl rfl sc_law_caught.nd rfl rfl rfl rfl ⟨(by rfl), (by decide), .inl cW⟩ (by decide) (by decide) (fun W pn xe tk _ => ?_)).run pins s' σ H' D I ⟨Ech, fun cls d σ' H' he hl => hW cls d σ' H' he (hl.trans I.len.symm), h1, h2, Q0, h3, h4⟩
    refine ⟨fun pins s' σ H' D I h' => ?_⟩
    obtain ⟨Ech, hW, h1, h2, Q0, h3, h4⟩ := h'
    exact (pss_one (ps_set (i := 2) sc_law_caught.nd rfl (.inl rfl) (pe_weaker (act _ pn xe Ech _ _ (Takes.len tk) (fun cls d σ' H' he hl => hW cls d σ' H' he hl))))).run pins s' σ H' D I ⟨Q0, ⟨h1, h2, h3⟩, h4⟩
  show rTryK X.K CW 3 1 2 f c' q tl _ [some (.ref f), some .non, some .non, none] H
  refine ⟨_, fun cls d σ' H' he hl => ?_, rfl, hc, _, h, fun v H' hv => ?_⟩
  · obtain ⟨dd, fl, nm, C, gv, rfl, rfl, hd, hC, hQ⟩ := he
    obtain ⟨s0, s1, s2, s3, rfl⟩ : ∃ s0 s1 s2 s3, σ' = [s0, s1, s2, s3] := by
      match σ', hl with
      | [s0, s1, s2, s3], _ => exact ⟨s0, s1, s2, s3, rfl⟩
    rcases hC with ⟨rfl, rfl, rfl⟩ | ⟨rfl, rfl, rfl⟩ | ⟨rfl, rfl, rfl⟩
    · refine ⟨kP.ex, fun a na => ?_⟩
      have nd : dd ≠ a := ne_of_none hd na
      have ha : upd H' a (KxO (.ref C) (some dd) a) a = some (KxO (.ref C) (some dd) a) := upd_same
      have hd2 : upd H' a (KxO (.ref C) (some dd) a) dd = some (.xd [("value", gv)]) := by rw [upd_ne nd]; exact hd
      have sm : Same H' (upd H' a (KxO (.ref C) (some dd) a)) := same_upd na
      refine ⟨_, rfl, C, true, .inr ⟨a, C, dd, _, rfl, kP.k, ha, hd2, gPP, true, rfl, iteT ?_⟩⟩
      refine ⟨_, rfl, a, dd, _, gv, rfl, ha, hd2, rfl, (by show 2 ≤ sizeLine; decide), fun t ht => ?_⟩
      have st : Same (upd H' a (KxO (.ref C) (some dd) a)) (upd (upd H' a (KxO (.ref C) (some dd) a)) t (.tup [.str "places", gv])) := same_upd ht
      exact hQ t _ (sm.trans st) (sm.free ht) upd_same
    · refine ⟨kG.ex, fun a na => ?_⟩
      have nd : dd ≠ a := ne_of_none hd na
      have ha : upd H' a (KxO (.ref C) (some dd) a) a = some (KxO (.ref C) (some dd) a) := upd_same
      have hd2 : upd H' a (KxO (.ref C) (some dd) a) dd = some (.xd [("group", gv)]) := by rw [upd_ne nd]; exact hd
      have sm : Same H' (upd H' a (KxO (.ref C) (some dd) a)) := same_upd na
      refine ⟨_, rfl, CP, false, .inr ⟨a, C, dd, _, rfl, kG.k, ha, hd2, gP, false, rfl, iteF ?_⟩⟩
      refine ⟨_, rfl, C, true, .inr ⟨a, C, dd, _, rfl, kG.k, ha, hd2, gG, true, rfl, iteT ?_⟩⟩
      refine ⟨_, rfl, a, dd, _, gv, rfl, ha, hd2, rfl, (by show 2 ≤ sizeLine; decide), fun t ht => ?_⟩
      have st : Same (upd H' a (KxO (.ref C) (some dd) a)) (upd (upd H' a (KxO (.ref C) (some dd) a)) t (.tup [.str "sum", gv])) := same_upd ht
      exact hQ t _ (sm.trans st) (sm.free ht) upd_same
    · refine ⟨kN.ex, fun a na => ?_⟩
      have nd : dd ≠ a := ne_of_none hd na
      have ha : upd H' a (KxO (.ref C) (some dd) a) a = some (KxO (.ref C) (some dd) a) := upd_same
      have hd2 : upd H' a (KxO (.ref C) (some dd) a) dd = some (.xd [("pipe", gv)]) := by rw [upd_ne nd]; exact hd
      have sm : Same H' (upd H' a (KxO (.ref C) (some dd) a)) := same_upd na
      refine ⟨_, rfl, CP, false, .inr ⟨a, C, dd, _, rfl, kN.k, ha, hd2, gNP, false, rfl, iteF ?_⟩⟩
      refine ⟨_, rfl, CG, false, .inr ⟨a, C, dd, _, rfl, kN.k, ha, hd2, gNG, false, rfl, iteF ?_⟩⟩
      refine ⟨_, rfl, C, true, .inr ⟨a, C, dd, _, rfl, kN.k, ha, hd2, gNN, true, rfl, iteT ?_⟩⟩
      refine ⟨_, rfl, a, dd, _, gv, rfl, ha, hd2, rfl, (by show 2 ≤ sizeLine; decide), fun t ht => ?_⟩
      have st : Same (upd H' a (KxO (.ref C) (some dd) a)) (upd (upd H' a (KxO (.ref C) (some dd) a)) t (.tup [.str "count", gv])) := same_upd ht
      exact hQ t _ (sm.trans st) (sm.free ht) upd_same
  · refine ⟨_, rfl, CP, false, .inl ⟨rfl, kP.nn, false, rfl, iteF ?_⟩⟩
    refine ⟨_, rfl, CG, false, .inl ⟨rfl, kG.nn, false, rfl, iteF ?_⟩⟩
    refine ⟨_, rfl, CN, false, .inl ⟨rfl, kN.nn, false, rfl, iteF ?_⟩⟩
    refine ⟨_, rfl, rfl, _, rfl, ?_⟩
    show (if decide (V.non = V.non) = true then _ else _)
    rw [if_pos (decide_eq_true rfl)]
    refine ⟨_, rfl, (by show 2 ≤ sizeLine; decide), fun t ht => ?_⟩
    exact hv t _ (same_upd ht) ht upd_same
end Wc

set_option Elab.async false
set_option linter.all false
set_option maxRecDepth 100000
/-! Sets of places, and the places that they lack. -/
namespace Wc
open PySem PySem.Spec PyProof PyProof.Rows L2
theorem set_facts {n : Int} : ∀ {S : List Nat} {lo : Int}, setB n lo (S.map natV) = true → (∀ x ∈ S, lo ≤ (x : Int) ∧ (x : Int) ≤ n - 1) ∧ (S.length : Int) ≤ max 0 (n - lo)
  | [], lo, _ => ⟨fun x hx => absurd hx List.not_mem_nil, by simp only [List.length_nil]; omega⟩
  | y :: S, lo, h => by
    have h' : (decide (lo ≤ (y : Int)) && decide ((y : Int) ≤ n - 1) && setB n ((y : Int) + 1) (S.map natV)) = true := h
    simp only [Bool.and_eq_true, decide_eq_true_eq] at h'
    obtain ⟨⟨h1, h2⟩, h3⟩ := h'
    obtain ⟨f1, f2⟩ := set_facts h3
    refine ⟨fun x hx => ?_, ?_⟩
    · rcases List.mem_cons.mp hx with e | e
      · rw [e]
        exact ⟨h1, h2⟩
      · have := f1 x e
        omega
    · rw [List.length_cons]
      omega
theorem kinds_nats {K : PySem.W.Frag} {H : Hp} (S : List Nat) : Kinds K H (S.map natV) := fun x hx => by
  obtain ⟨y, _, rfl⟩ := List.mem_map.mp hx
  exact .inl ⟨_, rfl⟩
theorem eqv_bools (a b c d : Bool) : PyData.eqv (.list [.bool a, .bool b]) (.list [.bool c, .bool d]) = (a == c && b == d) := by
  cases a <;> cases b <;> cases c <;> cases d <;> simp [PyData.eqv, PyData.eqvAll]
theorem shaped_bools (a b : Bool) : SeqAt.shaped (.list [.bool a, .bool b]) = true := (plain_list (n := 0) (ds := [.bool a, .bool b]) fun d hd => by
  simp only [List.mem_cons, List.not_mem_nil, or_false] at hd
  rcases hd with rfl | rfl
  · exact plain_bool 0 a
  · exact plain_bool 0 b).shaped
theorem shw_hits {S : List Nat} (h : ∀ x ∈ S, x < 60) (hl : S.length ≤ 60) : Shw 1 60 (natsD S) :=
  (shw_tuple (n := 0) (B := 0) fun d hd => by
    obtain ⟨x, hx, rfl⟩ := List.mem_map.mp hd
    have := h x hx
    have big : (60 : Nat) < 10 ^ 18 := by decide
    exact shw_int (by omega)).mono (Nat.le_refl _) (by rw [List.length_map]; omega)
theorem rep_hits {I : List Nat} (h : ∀ x ∈ I, x < 60) (hl : I.length ≤ 60) : (PyData.list [natsD I, natsD I]).showable = true ∧ (PyData.list [natsD I, natsD I]).canLay0 = true ∧ (PyData.list [natsD I, natsD I]).depth ≤ 60 ∧ (PyData.list [natsD I, natsD I]).shown.length ≤ sizeLine :=
  (shw_list (n := 1) (B := 60) (ds := [natsD I, natsD I]) fun d hd => by
    simp only [List.mem_cons, List.not_mem_nil, or_false] at hd
    rcases hd with rfl | rfl <;> exact shw_hits h hl).repr (by decide) (by show 2 * 61 ≤ 100000; decide)
theorem eqv_natsK (S : List Nat) : PyData.eqv (natsD S) (natsD S) = true := by
  have e : natsD S = .tuple ((S.map fun x : Nat => (x : Int)).map .int) := by
    unfold natsD
    rw [List.map_map]
    rfl
  rw [e]
  simp only [PyData.eqv, eqvAll_ints, decide_true]
theorem shaped_natsK (S : List Nat) : SeqAt.shaped (natsD S) = true := by
  unfold SeqAt.shaped
  rw [(nats_can S).1, decide_eq_true (Nat.le_trans (nats_can S).2 (by decide))]
  rfl
/-- the places below n that S lacks -/
def lack (S : List Nat) (n : Nat) : List Nat := (List.range n).filter fun x => !decide (x ∈ S)
theorem lack_succ (S : List Nat) (n : Nat) : lack S (n + 1) = lack S n ++ if (!decide (n ∈ S)) = true then [n] else [] := by
  unfold lack
  rw [List.range_succ, List.filter_append]
  congr 1
  by_cases z : n ∈ S <;> simp [z]
theorem mem_lack {S : List Nat} {n x : Nat} : x ∈ lack S n ↔ x < n ∧ x ∉ S := by
  unfold lack
  rw [List.mem_filter, List.mem_range]
  simp
theorem lack_le (S : List Nat) (n : Nat) : (lack S n).length ≤ n := by
  have := List.length_filter_le (fun x => !decide (x ∈ S)) (List.range n)
  rw [List.length_range] at this
  exact this
theorem setB_of {n : Int} : ∀ {S : List Nat} {lo : Nat}, (∀ x ∈ S, lo ≤ x ∧ (x : Int) ≤ n - 1) → S.Pairwise (· < ·) → setB n lo (S.map natV) = true
  | [], _, _, _ => rfl
  | y :: S, lo, h, hp => by
    obtain ⟨h1, h2⟩ := h y List.mem_cons_self
    obtain ⟨p1, p2⟩ := List.pairwise_cons.mp hp
    show (decide ((lo : Int) ≤ (y : Int)) && decide ((y : Int) ≤ n - 1) && setB n ((y : Int) + 1) (S.map natV)) = true
    have r := setB_of (n := n) (S := S) (lo := y + 1) (fun x hx => ⟨p1 x hx, (h x (List.mem_cons_of_mem _ hx)).2⟩) p2
    have e : ((y + 1 : Nat) : Int) = (y : Int) + 1 := by omega
    rw [e] at r
    rw [r, decide_eq_true h2, decide_eq_true (by omega : (lo : Int) ≤ (y : Int))]
    rfl
theorem setB_lack (S : List Nat) (n : Nat) : setB (n : Int) 0 ((lack S n).map natV) = true :=
  setB_of (lo := 0) (fun x hx => ⟨Nat.zero_le _, by have := (mem_lack.mp hx).1; omega⟩) (List.Pairwise.sublist List.filter_sublist List.pairwise_lt_range)
theorem hits_congr {c d : Tube → Bool} {ts : List Tube} {n : Nat} (h : ∀ p ∈ ts, c p = d p) : hits c ts n = hits d ts n := by
  unfold hits
  refine List.filter_congr fun k _ => ?_
  cases e : ts[k]? with
  | none => rfl
  | some p => exact h p (List.mem_of_getElem? e)
theorem ent_lack {S : List Nat} {n : Nat} {p : Tube} (hs : p.s < n) (ht : p.t < n) : ent (lack S n) p = exi S p := by
  unfold ent exi
  have a : decide (p.t ∈ lack S n) = !decide (p.t ∈ S) := by
    by_cases z : p.t ∈ S <;> simp [mem_lack, z, ht]
  have b : decide (p.s ∈ lack S n) = !decide (p.s ∈ S) := by
    by_cases z : p.s ∈ S <;> simp [mem_lack, z, hs]
  rw [a, b, Bool.not_not, Bool.and_comm]
theorem exi_lack {S : List Nat} {n : Nat} {p : Tube} (hs : p.s < n) (ht : p.t < n) : exi (lack S n) p = ent S p := by
  unfold ent exi
  have a : decide (p.t ∈ lack S n) = !decide (p.t ∈ S) := by
    by_cases z : p.t ∈ S <;> simp [mem_lack, z, ht]
  have b : decide (p.s ∈ lack S n) = !decide (p.s ∈ S) := by
    by_cases z : p.s ∈ S <;> simp [mem_lack, z, hs]
  rw [a, b, Bool.not_not, Bool.and_comm]
end Wc

set_option Elab.async false
set_option linter.all false
set_option maxRecDepth 100000
/-! All sets of places. -/
namespace Wc
open PySem PySem.Spec PyProof.Rows L2
/-- all sets of the places below n, in the order in which the law makes them -/
def allS : Nat → List (List Nat)
  | 0 => [[]]
  | n + 1 => allS n ++ (allS n).map (· ++ [n])
theorem allS_len (n : Nat) : (allS n).length = 2 ^ n := by
  induction n with
  | zero => rfl
  | succ n ih =>
    show (allS n ++ (allS n).map (· ++ [n])).length = 2 ^ (n + 1)
    rw [List.length_append, List.length_map, ih, Nat.pow_succ]
    omega
theorem allS_short (n : Nat) : ∀ S ∈ allS n, S.length ≤ n := by
  induction n with
  | zero =>
    intro S hS
    have e : S = [] := by simpa [allS] using hS
    rw [e]
    exact Nat.le_refl _
  | succ n ih =>
    intro S hS
    rcases List.mem_append.mp hS with z | z
    · exact Nat.le_succ_of_le (ih S z)
    · obtain ⟨U, hU, rfl⟩ := List.mem_map.mp z
      rw [List.length_append, List.length_singleton]
      exact Nat.succ_le_succ (ih U hU)
theorem paired_append {α β : Type} {F : α → β → Prop} {l l' : List α} {m m' : List β} (h : Paired F l m) (h' : Paired F l' m') : Paired F (l ++ l') (m ++ m') := by
  induction h with
  | nil => exact h'
  | cons r _ ih => exact .cons r ih
def SetsAt (K : PySem.W.Frag) (H : Hp) (ts : List Addr) (Ss : List (List Nat)) : Prop := Paired (fun t S => SqT K H t (S.map natV)) ts Ss
section
variable {P : Program} {w : World} {K : PySem.W.Frag} {mg : Str → Option Value} {base : Heap}
abbrev s_law_sets : Stmt := top 54
theorem sc_law_sets : FnScope ["many", "found", "at", "spots"] ["many"] (defScope s_law_sets) := ⟨rfl, rfl, rfl, by decide +kernel, rfl, by decide +kernel, by decide +kernel⟩
def sp_law_sets (K : PySem.W.Frag) : Sp := fun vs H Q _ => ∃ n : Nat, vs = [.int n] ∧ n ≤ 5 ∧ ∀ H' l ts, Same H H' → H l = none → H' l = some (.lst (ts.map V.ref)) → SetsAt K H' ts (allS n) → Q (.ref l) H'
theorem has_law_sets (D : DefAt K mg "_law_sets" s_law_sets ["many"]) (T : Blt mg) : Has P w K mg base "_law_sets" 1 ["many"] (sp_law_sets K) := by
  refine D.ok sc_law_sets (fun vs H Q E h => ?_) (fun f cdv A outer s H vs Q E hr h => ?_)
  · obtain ⟨n, rfl, _⟩ := h
    rfl
  · obtain ⟨n, rfl, hn, q⟩ := h
    refine ⟨_, (pss_cons (ps_set (i := 1) sc_law_sets.nd rfl (.inl rfl) (pe_lst (pa_cons (pe_tup pa_nil) pa_nil)))
      (pss_cons (ps_for PassesOwn.never rfl (pi_range1 (by rfl) T.b_range (pa_cons (pv 0) pa_nil)) (pg_name (i := 2) sc_law_sets.nd rfl (.inr rfl)) (pss_one (ps_set (i := 1) sc_law_sets.nd rfl (.inl rfl) (pe_op op_cat (pv 1) (pe_lc (own := [("spots", 3)]) (g := gName 3) (tt := tYes) rfl sc_law_sets.nd (pi_list (pv 1)) (blkOk_by (N := ["many", "found", "at", "spots"]) (sc := defScope s_law_sets) (by decide +kernel)) (fun _ _ _ _ _ => (pg_name (i := 3) sc_law_sets.nd rfl (Or.inl rfl))) (fun _ _ _ _ _ => pts_nil) (fun _ _ _ _ _ => (pe_op (op_catAK K) (pv 3) (pe_tup (pa_cons (pv 2) pa_nil)))))))))
      (pss_one (ps_ret (pv 1))))), ?_⟩
    refine ⟨Nat.zero_le _, fun t0 ht0 => ⟨(by show 1 ≤ sizeLine; decide), fun l0 hl0 => ?_⟩⟩
    have s0 : Same H (upd H t0 (.tup [])) := same_upd ht0
    have a0 : (upd H t0 (.tup [])) t0 = some (.tup []) := upd_same
    generalize upd H t0 (.tup []) = H0 at s0 a0 hl0 ⊢
    have s1 : Same H0 (upd H0 l0 (.lst [.ref t0])) := same_upd hl0
    have a1 : (upd H0 l0 (.lst [.ref t0])) l0 = some (.lst [.ref t0]) := upd_same
    have fresh0 : H l0 = none := s0.free hl0
    generalize upd H0 l0 (.lst [.ref t0]) = H1 at s1 a1 ⊢
    refine ⟨_, rfl, (n : Int), rfl, by omega, by omega, ?_⟩
    refine for_range (lo := 0) (n := ((n : Int)).toNat) (fun i σ H' => ∃ l ts y2 y3, σ = [some (.int n), some (.ref l), y2, y3] ∧ Same H H' ∧ H l = none ∧ H' l = some (.lst (ts.map V.ref)) ∧ SetsAt K H' ts (allS i))
      ⟨l0, [t0], none, none, rfl, s0.trans s1, fresh0, a1, .cons (SqT.of (s1 _ _ a0)) .nil⟩ ?_ ?_
    · rintro i σ H2 hi ⟨l, ts, y2, y3, rfl, s2, fl, hl, hS⟩
      have hi5 : i < 5 := by omega
      have e0 : (0 : Int) + (i : Nat) = (i : Int) := by omega
      rw [e0]
      have tl : ts.length = 2 ^ i := by rw [Paired.length hS, allS_len]
      have t16 : 2 ^ i ≤ 16 := by
        have : i ≤ 4 := by omega
        exact Nat.pow_le_pow_right (by decide) this
      refine ⟨_, rfl, _, rfl, l, rfl, ⟨_, SqL.of hl⟩, fun D1 hD1 => ?_⟩
      refine lc_it (walk_list (xs := ts.map V.ref)) (fun j H' => Same H2 H' ∧ ∃ us, H' D1 = some (.lst (us.map V.ref)) ∧ SetsAt K H' us (((allS i).take j).map (· ++ [i]))) ⟨same_upd hD1, [], upd_same, .nil⟩ (fun j H' _ ⟨s3, _⟩ => SqL.of (s3 _ _ hl)) ?_ ?_
      · rintro j v H3 H4 hj ⟨s3, us, hus, hU⟩ ⟨rfl, hv⟩
        have hjl : j < ts.length := by rw [List.length_map] at hj; exact hj
        have htj : ts[j]? = some ts[j] := List.getElem?_eq_getElem hjl
        generalize ts[j] = t at htj
        have hv2 : (ts.map V.ref)[j]? = some v := hv
        rw [List.getElem?_map, htj] at hv2
        have ev : V.ref t = v := Option.some.inj hv2
        subst ev
        obtain ⟨S, hSj, hSt⟩ := paired_get hS htj
        have hSl := allS_short i S (List.mem_of_getElem? hSj)
        have ul : us.length ≤ 16 := by
          rw [Paired.length hU, List.length_map, List.length_take, allS_len]
          omega
        have htk : (allS i).take (j + 1) = (allS i).take j ++ [S] := by
          rw [List.take_add_one, hSj]
          rfl
        refine ⟨rfl, _, rfl, _, rfl, (by show 1 ≤ sizeLine; decide), fun t1 ht1 => ?_⟩
        have s4 : Same H4 (upd H4 t1 (.tup [.int (i : Int)])) := same_upd ht1
        refine catA_any ((s3.trans s4).keepT.seq hSt) (SqT.of upd_same) (by rw [List.length_map]; exact Nat.le_trans (show _ ≤ 1000 by simp only [List.length_singleton]; omega) (by decide)) fun H5 t2 s5 h5 => ?_
        have s35 := s4.trans s5
        have hus5 := s35 _ _ hus
        have kU : KeepT H5 (upd H5 D1 (.lst (us.map V.ref ++ [.ref t2]))) := keepT_upd_lst hus5
        refine ⟨_, hus5, small1000 (by rw [List.length_map]; omega), fun y o e => ?_, us ++ [t2], ?_, ?_⟩
        · rw [upd_ne (ne_of_none e hD1)]
          exact s35 _ _ (s3 _ _ e)
        · rw [upd_same, List.map_append]
          rfl
        · rw [htk, List.map_append]
          refine Paired.snoc (Paired.mapP hU fun u U h => kU.seq (s35.keepT.seq h)) (kU.seq ?_)
          rw [List.map_append]
          exact h5
      · rintro H3 ⟨s3, us, hus, hU⟩
        rw [List.length_map, tl, ← allS_len, List.take_length] at hU
        have hl3 := s3 _ _ hl
        have ul : us.length ≤ 16 := by
          rw [Paired.length hU, List.length_map, allS_len]
          omega
        refine ⟨l, D1, _, _, rfl, rfl, hl3, hus, (by rw [List.length_map, List.length_map]; exact Nat.le_trans (show _ ≤ 1000 by omega) (by decide)), fun p hp => ?_⟩
        have sp : Same H3 (upd H3 p (.lst (ts.map V.ref ++ us.map V.ref))) := same_upd hp
        have s23 := s2.trans s3
        refine ⟨p, ts ++ us, _, _, rfl, s23.trans sp, s23.free hp, ?_, ?_⟩
        · rw [upd_same, List.map_append]
        · exact paired_append (Paired.mapP hS fun t S h => (s3.trans sp).keepT.seq h) (Paired.mapP hU fun u U h => sp.keepT.seq h)
    · rintro σ H2 ⟨l, ts, y2, y3, rfl, s2, fl, hl, hS⟩
      have e : ((n : Int)).toNat = n := by omega
      rw [e] at hS
      exact ⟨_, rfl, q H2 l ts s2 fl hl hS⟩
end
end Wc

set_option Elab.async false
set_option linter.all false
/-! As many sets are entered by a pipe as left by it. -/
namespace Wc
theorem allS_lt (n : Nat) : ∀ S ∈ allS n, ∀ x ∈ S, x < n := by
  induction n with
  | zero =>
    intro S hS x hx
    have e : S = [] := by simpa [allS] using hS
    rw [e] at hx
    exact absurd hx List.not_mem_nil
  | succ n ih =>
    intro S hS x hx
    rcases List.mem_append.mp hS with z | z
    · exact Nat.lt_succ_of_lt (ih S z x hx)
    · obtain ⟨U, hU, rfl⟩ := List.mem_map.mp z
      rcases List.mem_append.mp hx with y | y
      · exact Nat.lt_succ_of_lt (ih U hU x y)
      · have e : x = n := by simpa using y
        omega
theorem allS_count (f : List Nat → Bool) (n : Nat) : (allS (n + 1)).countP f = (allS n).countP f + (allS n).countP fun S => f (S ++ [n]) := by
  show (allS n ++ (allS n).map (· ++ [n])).countP f = _
  rw [List.countP_append, List.countP_map]
  rfl
theorem count_eq {f g : List Nat → Bool} {l : List (List Nat)} (h : ∀ S ∈ l, f S = g S) : l.countP f = l.countP g :=
  List.countP_congr fun S hS => by rw [h S hS]
theorem mem_snoc_lt {S : List Nat} {n x : Nat} (h : x < n) : decide (x ∈ S ++ [n]) = decide (x ∈ S) := by
  have : x ≠ n := by omega
  simp [this]
theorem mem_snoc_self {S : List Nat} {n : Nat} : decide (n ∈ S ++ [n]) = true := by simp
theorem not_mem_all {n : Nat} {S : List Nat} (h : S ∈ allS n) : decide (n ∈ S) = false := decide_eq_false fun hx => absurd (allS_lt n S h n hx) (Nat.lt_irrefl n)
theorem half_sets {x : Nat} : ∀ n, x < n → (allS n).countP (fun S => decide (x ∈ S)) = (allS n).countP fun S => !decide (x ∈ S)
  | 0, h => absurd h (Nat.not_lt_zero x)
  | n + 1, h => by
    rw [allS_count, allS_count]
    by_cases e : x = n
    · subst e
      rw [count_eq (g := fun _ => false) (f := fun S => decide (x ∈ S)) fun S hS => not_mem_all hS]
      rw [count_eq (g := fun _ => true) (f := fun S => decide (x ∈ S ++ [x])) fun S _ => mem_snoc_self]
      rw [count_eq (g := fun _ => true) (f := fun S => !decide (x ∈ S)) fun S hS => by rw [not_mem_all hS]; rfl]
      rw [count_eq (g := fun _ => false) (f := fun S => !decide (x ∈ S ++ [x])) fun S _ => by rw [mem_snoc_self]; rfl]
      omega
    · have hx : x < n := by omega
      have ih := half_sets n hx
      rw [count_eq (f := fun S => decide (x ∈ S ++ [n])) (g := fun S => decide (x ∈ S)) fun S _ => mem_snoc_lt hx]
      rw [count_eq (f := fun S => !decide (x ∈ S ++ [n])) (g := fun S => !decide (x ∈ S)) fun S _ => by rw [mem_snoc_lt hx]]
      omega
theorem ent_exi {s t : Nat} (hst : s ≠ t) : ∀ n, s < n → t < n → (allS n).countP (fun S => decide (t ∈ S) && !decide (s ∈ S)) = (allS n).countP fun S => decide (s ∈ S) && !decide (t ∈ S)
  | 0, h, _ => absurd h (Nat.not_lt_zero s)
  | n + 1, hs, ht => by
    rw [allS_count, allS_count]
    by_cases e1 : s = n
    · subst e1
      have h2 : t < s := by omega
      rw [count_eq (f := fun S => decide (t ∈ S) && !decide (s ∈ S)) (g := fun S => decide (t ∈ S)) fun S hS => by rw [not_mem_all hS]; exact Bool.and_true _]
      rw [count_eq (f := fun S => decide (t ∈ S ++ [s]) && !decide (s ∈ S ++ [s])) (g := fun _ => false) fun S _ => by rw [mem_snoc_self]; exact Bool.and_false _]
      rw [count_eq (f := fun S => decide (s ∈ S) && !decide (t ∈ S)) (g := fun _ => false) fun S hS => by rw [not_mem_all hS]; rfl]
      rw [count_eq (f := fun S => decide (s ∈ S ++ [s]) && !decide (t ∈ S ++ [s])) (g := fun S => !decide (t ∈ S)) fun S _ => by rw [mem_snoc_self, mem_snoc_lt h2]; rfl]
      have := half_sets s h2
      omega
    · by_cases e2 : t = n
      · subst e2
        have h2 : s < t := by omega
        rw [count_eq (f := fun S => decide (t ∈ S) && !decide (s ∈ S)) (g := fun _ => false) fun S hS => by rw [not_mem_all hS]; rfl]
        rw [count_eq (f := fun S => decide (t ∈ S ++ [t]) && !decide (s ∈ S ++ [t])) (g := fun S => !decide (s ∈ S)) fun S _ => by rw [mem_snoc_self, mem_snoc_lt h2]; rfl]
        rw [count_eq (f := fun S => decide (s ∈ S) && !decide (t ∈ S)) (g := fun S => decide (s ∈ S)) fun S hS => by rw [not_mem_all hS]; exact Bool.and_true _]
        rw [count_eq (f := fun S => decide (s ∈ S ++ [t]) && !decide (t ∈ S ++ [t])) (g := fun _ => false) fun S _ => by rw [mem_snoc_self]; exact Bool.and_false _]
        have := half_sets t h2
        omega
      · have h1 : s < n := by omega
        have h2 : t < n := by omega
        have ih := ent_exi hst n h1 h2
        rw [count_eq (f := fun S => decide (t ∈ S ++ [n]) && !decide (s ∈ S ++ [n])) (g := fun S => decide (t ∈ S) && !decide (s ∈ S)) fun S _ => by rw [mem_snoc_lt h1, mem_snoc_lt h2]]
        rw [count_eq (f := fun S => decide (s ∈ S ++ [n]) && !decide (t ∈ S ++ [n])) (g := fun S => decide (s ∈ S) && !decide (t ∈ S)) fun S _ => by rw [mem_snoc_lt h1, mem_snoc_lt h2]]
        omega
theorem allS_pw (n : Nat) : ∀ S ∈ allS n, S.Pairwise (· < ·) := by
  induction n with
  | zero =>
    intro S hS
    have e : S = [] := by simpa [allS] using hS
    rw [e]
    exact .nil
  | succ n ih =>
    intro S hS
    rcases List.mem_append.mp hS with z | z
    · exact ih S z
    · obtain ⟨U, hU, rfl⟩ := List.mem_map.mp z
      refine List.pairwise_append.mpr ⟨ih U hU, List.pairwise_singleton _ _, fun a ha b hb => ?_⟩
      have e : b = n := by simpa using hb
      have := allS_lt n U hU a ha
      omega
theorem setB_allS {n : Nat} {S : List Nat} (h : S ∈ allS n) : setB (n : Int) 0 (S.map natV) = true :=
  setB_of (lo := 0) (fun x hx => ⟨Nat.zero_le _, by have := allS_lt n S h x hx; omega⟩) (allS_pw n S h)
/-- a pipe enters as many sets as it leaves -/
theorem enters_as_leaves {p : Tube} {n : Nat} (hs : p.s < n) (ht : p.t < n) (hst : p.s ≠ p.t) : (allS n).countP (fun S => ent S p) = (allS n).countP fun S => exi S p := ent_exi hst n hs ht
end Wc

set_option Elab.async false
set_option linter.all false
set_option maxRecDepth 100000
/-! Defs that make lambdas. -/
namespace Wc
open PySem PySem.Spec PyProof PyProof.Rows L2 LamX
/-- a def whose code object stands at c -/
def DefTab (K : PySem.W.Frag) (mg : Str → Option Value) (x : Str) (st : Stmt) (ps : List Str) (c : Addr) : Prop :=
  ∃ (f : Addr) (fd : FuncData), Fun K x x st f fd ∧ mg x = some (.ref f) ∧ Binds K fd ps [] ∧ fd.code = .ref c
section
variable {P : Program} {w : World} {K : PySem.W.Frag} {mg : Str → Option Value} {base : Heap}
theorem FunT {x qual : Str} {st : Stmt} {f c : Addr} {fd : FuncData} {N ps : List Str} {k : Nat} {sp : Sp} (F : Fun K x qual st f fd) (hcode : fd.code = .ref c) (S : FnScope N ps (defScope st)) (len : ∀ vs H Q E, sp vs H Q E → vs.length = ps.length)
    (hbody : ∀ (A : Around) (outer : List Env) (s : Shared) (H : Hp) (vs : List V) (Q : VK) (E : XK), Room k (A.deeper (envOfC qual (defScope st) s.heap.objs.size f (.ref c))) → A.guards = some [] → sp vs H Q E →
      ∃ t, PSs (cxOf CX0 P w K mg base N qual (defScope st) f (.ref c) A outer s H E).nox (defBody st) t ∧ t { nx := fun _ H' => Q .non H', rt := Q } (start N vs) H) : OkG P w K mg base (k + 1) f fd ps sp := by
  obtain ⟨o1, o2, k1, o3, o4, o5, cdv, o6, o7, rfl, lk, hcd⟩ := F.ex
  have ec : cdv = .ref c := hcode
  subst ec
  refine ⟨len, fun A outer s H args us vs Q E hr hG e0 hb r hsp => ?_⟩
  have ln := len vs H Q E hsp
  have there := PySem.W.Frag.In.keeps e0.mod.kin fun b o e => (e0.bs b o e).1
  have lim := Heap.NoLimit.keeps e0.mod.nolimit fun b o e => (e0.bs b o e).1
  refine codeAny_call_function hr.depth (there _ _ lk) rfl S.co S.gen rfl (PySem.W.codeRec_of there hcd) (hb (model P w) A.in1 _ _ ?_)
  refine wpAny_newFunctionEnv_cells S.kind (fun y hy => ?_) fun env he s1 x => ?_
  · obtain ⟨n, v⟩ := y
    rcases S.par n (List.of_mem_zip hy).1 with here | cell
    · exact .inl here
    · exact .inr ⟨cell, PySem.W.cellsFrom_some _ _ [] (.inl cell)⟩
  subst he
  refine ⟨Heap.NoLimit.keeps lim x.toInCall.keep, codeAny_func ?_⟩
  obtain ⟨t, ht, hq⟩ := hbody A outer s H vs Q E (hr.deeper _) hG hsp
  have I := inv_start (CX := CX0) (E := E) S hr.hd e0 ln r x
  refine wpAny_mono ((PSs.nox ht).run [] s1 (start N vs) H { nx := fun _ H' => Q .non H', rt := Q } I hq) (fun fl s' hs => ?_) fun e s' hs => hs
  cases fl with
  | ret u =>
    obtain ⟨v, _, Hz, J, rel, last⟩ := hs
    exact ⟨v, Hz, J.os, J.bare, J.base, J.hok, rel, last⟩
  | next =>
    obtain ⟨σ', H', J, q⟩ := hs
    exact ⟨.non, H', J.os, J.bare, J.base, J.hok, rfl, q⟩
  | _ =>
    obtain ⟨_, _, _, q⟩ := hs
    exact q.elim
theorem DefTab.okG {x : Str} {st : Stmt} {N ps : List Str} {k : Nat} {c : Addr} {sp : Sp} (D : DefTab K mg x st ps c) (S : FnScope N ps (defScope st)) (len : ∀ vs H Q E, sp vs H Q E → vs.length = ps.length)
    (hbody : ∀ (f : Addr) (A : Around) (outer : List Env) (s : Shared) (H : Hp) (vs : List V) (Q : VK) (E : XK), Room k (A.deeper (envOfC x (defScope st) s.heap.objs.size f (.ref c))) → A.guards = some [] → sp vs H Q E →
      ∃ t, PSs (cxOf CX0 P w K mg base N x (defScope st) f (.ref c) A outer s H E).nox (defBody st) t ∧ t { nx := fun _ H' => Q .non H', rt := Q } (start N vs) H) : HasG P w K mg base x (k + 1) ps sp := by
  obtain ⟨f, fd, F, hm, hb, hc⟩ := D
  exact ⟨f, fd, hm, F.kp, hb, FunT F hc S len (hbody f)⟩
end
theorem extN_of {H H' : Hp} (s : Same H H') : ExtN H H' := .of fun b o e => s b o e
theorem extN_keepT {H H' : Hp} (e : ExtN H H') : KeepT H H' := fun b xs h => by
  rcases h with h | ⟨o, h⟩
  · exact .inl (e _ _ h fun ps z => by cases z)
  · exact .inr ⟨o, e _ _ h fun ps z => by cases z⟩
theorem extN_tup {H H' : Hp} (e : ExtN H H') : ∀ b xs, H b = some (.tup xs) → H' b = some (.tup xs) := fun b xs h => e _ _ h fun ps z => by cases z
theorem extN_lst {H H' : Hp} (e : ExtN H H') : ∀ b xs, H b = some (.lst xs) → H' b = some (.lst xs) := fun b xs h => e _ _ h fun ps z => by cases z
theorem tabs_lst {T : List (Addr × Str)} {H H' : Hp} (t : Tabs T H) (e : ∀ b o, (∀ xs, o ≠ .lst xs) → H b = some o → H' b = some o) : Tabs T H' := fun p hp => by
  obtain ⟨ps, h1, h2, h3⟩ := t p hp
  refine ⟨ps, e _ _ (fun xs z => by cases z) h1, h2, fun pos cv hc => ?_⟩
  obtain ⟨c, e1, e2⟩ := h3 pos cv hc
  exact ⟨c, e1, e _ _ (fun xs z => by unfold CodeO at z; cases z) e2⟩
theorem ms_ext {H H' : Hp} {a c g : Addr} {r : Nat} (h : MS H a c g r) (e : ExtN H H') : MS H' a c g r := by
  obtain ⟨⟨n, cells, gs, h1, h2, h3, h4, h5, h6, h7⟩, h8⟩ := h
  exact ⟨⟨n, cells, gs, e _ _ h1 (fun ps z => by cases z), e _ _ h2 (fun ps z => by cases z), e _ _ h3 (fun ps z => by cases z), h4, h5, h6, h7⟩, h8⟩
theorem tabs_dr {T : List (Addr × Str)} {H H' : Hp} {a c g : Addr} {r : Nat} (ms : MS H a c g r) (d : Dr a g H H') (t : Tabs T H) : Tabs T H' := by
  obtain ⟨⟨n, cells, gs, h1, h2, h3, _⟩, _⟩ := ms
  have key : ∀ b o, (∀ xs, o ≠ .lst xs) → (∀ xs, o ≠ .dK xs) → H b = some o → H' b = some o := fun b o n1 n2 e => d b o (fun z => by
    rw [z, h1] at e
    exact n2 _ (Option.some.inj e).symm) (fun z => by
    rw [z, h3] at e
    exact n1 _ (Option.some.inj e).symm) e
  intro p hp
  obtain ⟨ps, q1, q2, q3⟩ := t p hp
  refine ⟨ps, key _ _ (fun xs z => by cases z) (fun xs z => by cases z) q1, q2, fun pos cv hc => ?_⟩
  obtain ⟨c', e1, e2⟩ := q3 pos cv hc
  exact ⟨c', e1, key _ _ (fun xs z => by unfold CodeO at z; cases z) (fun xs z => by unfold CodeO at z; cases z) e2⟩
/-- a list that is new behind H0 is written -/
theorem ext_upd {H0 H1 H : Hp} {l : Addr} {o : HO} (e1 : ExtN H0 H1) (f : H1 l = none) (e : ExtN H0 H) : ExtN H0 (upd H l o) := fun b u hb hn => by
  rw [upd_ne (fun z => by
    have := e1 b u hb hn
    rw [z, f] at this
    cases this)]
  exact e b u hb hn
theorem tabs_upd {T : List (Addr × Str)} {H : Hp} {l : Addr} {xs ys : List V} (t : Tabs T H) (h : H l = some (.lst xs)) : Tabs T (upd H l (.lst ys)) := tabs_lst t fun b o no e => by
  rw [upd_ne (fun z => by
    rw [z, h] at e
    exact no _ (Option.some.inj e).symm)]
  exact e
abbrev lamR : Str := ("_law_refused_right" : Str) ++ ".<locals>." ++ "<lambda>"
end Wc

set_option Elab.async false
set_option linter.all false
set_option maxRecDepth 100000
/-! Defs called by their names in the other order. -/
namespace Wc
open PySem PySem.Spec PyProof PyProof.Rows L2
/-- a def that may raise, called by its two names in the other order -/
def HasKR (P : Program) (w : World) (K : PySem.W.Frag) (mg : Str → Option Value) (base : Heap) (x : Str) (k : Nat) (ps ks : List Str) (sp : Sp) : Prop :=
  ∃ (f : Addr) (fd : FuncData), mg x = some (.ref f) ∧ PySem.W.keepIn K (.ref f) = true ∧ KBn K fd ps 0 ks (fun _ ws => ws.reverse) (fun _ zs => zs.reverse) ∧ FnOk P w K mg base (L2.CX P w) k f fd ps sp
def tByKwR (n : Nat) (sp : Sp) (E : XK) (tk : TA) : TE := fun σ H Q => tk σ H fun zs H1 => zs.length = n ∧ sp zs.reverse H1 Q E
theorem pe_ownKR {X : Cx} {x : Str} {k : Nat} {ps ks : List Str} {sp : Sp} {E : XK} {p pos : Pos} {kws : List Keyword} {tk : TA} (F : HasKR X.prog X.w X.K X.mg X.base x k ps ks sp) (hr : Room k X.A) (hg : Gl X x) (hx : Passes (L2.CX X.prog X.w) X E) (ha : PK X kws tk)
    (all : ((backToKw pos (keywordEach kws X.env)).all fun x => x.fst.isSome) = true := by rfl)
    (names : List.filterMap (fun x => x.fst) (backToKw pos (keywordEach kws X.env)) = ks := by rfl)
    (nodebug : (x == ("__debug__" : Str)) = false := by decide)
    (plain : (((backTo pos (starEach [] X.env)).any fun x => x.fst) || (backToKw pos (keywordEach kws X.env)).any fun x => x.fst.isNone) = false := by rfl) :
    PE X (.Call (.Name x p) [] kws pos) (tByKwR ks.length sp E tk) := by
  obtain ⟨f, fd, hm, hk, hb, F⟩ := F
  refine ⟨fun pins s σ H Q I h => ?_⟩
  refine wpAny_Call_Name_kw (ld_glob I hg hm (PySem.W.callWith_KW0 I.ok.mod.kin hk all ?_ plain) nodebug)
  refine thn (ha.run pos pins s σ H (fun zs H1 => zs.length = ks.length ∧ sp zs.reverse H1 Q E) I h) fun ws s1 ⟨zs, H1, I1, rz, hl, q⟩ => ⟨I1.kIn, ?_⟩
  rw [names]
  exact run_fnN F hr hb hx I1 (show Vals [] [] from .nil) rz rfl hl q
end Wc

set_option Elab.async false
set_option linter.all false
set_option maxRecDepth 100000
/-! Whether excess of all sets is returned, or the first pipe without bounds is reported. -/
namespace Wc
open PySem PySem.Spec PyProof PyProof.Rows L2 LamX
local macro_rules | `(tactic| walk_at "up") => `(tactic| first | with_reducible assumption | (refine up1 (by with_reducible assumption) ?_; walk_at "up") | (refine SqT.of ?_; walk_at "up") | (refine SqL.of ?_; walk_at "up") | (refine upT (by with_reducible assumption) ?_; walk_at "up") | (refine upL (by with_reducible assumption) ?_; walk_at "up") | (refine upN (by with_reducible assumption) ?_; walk_at "up"))
abbrev lamS : Str := ("_law_sets_right" : Str) ++ ".<locals>." ++ "<lambda>"
abbrev lamT : Str := ("_law_right" : Str) ++ ".<locals>." ++ "<lambda>"
abbrev tb2 (pS pR : Addr) : List (Addr × Str) := [(pS, lamS), (pR, lamT)]
theorem uniS {pS pR : Addr} (h : pS ≠ pR) : ∀ p ∈ tb2 pS pR, p.1 = pS → p.2 = lamS := fun p hp e => by
  rcases List.mem_cons.mp hp with z | z
  · rw [z]
  · rw [List.mem_singleton.mp z] at e
    exact absurd e.symm h
theorem uniT {pS pR : Addr} (h : pS ≠ pR) : ∀ p ∈ tb2 pS pR, p.1 = pR → p.2 = lamT := fun p hp e => by
  rcases List.mem_cons.mp hp with z | z
  · rw [z] at e
    exact absurd e h
  · rw [List.mem_singleton.mp z]
/-- what the law is told of the excess -/
noncomputable def exTold (N : Net) (S : List Nat) : List V := match N.noB with
  | some i => [.str "count", natV i]
  | none => [.str "returned", .int (exS N N.pL S N.tubes.length)]
theorem caught_ex {K : PySem.W.Frag} {CP CG CN na a : Addr} {N : Net} {S : List Nat} {tl : XK → Hp → VK → Prop} {H : Hp} {Q : VK} (hN : NetAt K H na N) (ok : NetOk N) (calm : Calm N) (hS : SqT K H a (S.map natV)) (hs : setB N.many 0 (S.map natV) = true) (hl : ∀ E Q', sp_excess K CP CG CN [.ref na, .ref a] H Q' E → tl E H Q')
    (h : ∀ H2 t, Same H H2 → H t = none → H2 t = some (.tup (exTold N S)) → Q (.ref t) H2) : TCaught3 CP CG CN tl H Q := by
  refine hl _ _ ⟨na, N, .ref a, true, rfl, hN, ok, .inl ⟨a, _, rfl, hS, kinds_nats S, hs.symm⟩, (fun z => by cases z), fun _ => ⟨fun x hx => ?_, fun _ i hi H1 d s1 hd hd2 => ?_, a, S, rfl, hS, fun x hx => ?_, fun _ hnn H1 s1 t H2 s2 ht ht2 => ?_⟩⟩
  · rw [calm_iff.mp calm] at hx
    cases hx
  · refine ⟨d, "pipe", "count", CN, natV i, rfl, rfl, hd2, .inr (.inr ⟨rfl, rfl, rfl⟩), fun t H2 s2 ht ht2 => h H2 t (s1.trans s2) (s1.free ht) ?_⟩
    unfold exTold
    rw [hi]
    exact ht2
  · have := (set_facts hs).1 x hx
    omega
  · refine h H2 t (s1.trans s2) (s1.free ht) ?_
    unfold exTold
    rw [hnn]
    exact ht2
noncomputable def exD (N : Net) (S : List Nat) : PyData := match N.noB with
  | some i => .tuple [.str "count", .int i]
  | none => .tuple [.str "returned", .int (exS N N.pL S N.tubes.length)]
theorem noB_lt {N : Net} {i : Nat} (h : N.noB = some i) : i < N.tubes.length := by
  unfold Net.noB at h
  rw [List.findIdx?_eq_some_iff_getElem] at h
  obtain ⟨h1, _⟩ := h
  rw [bL_len'] at h1
  exact h1
theorem dp_exD {K : PySem.W.Frag} {H : Hp} {t : Addr} {N : Net} {S : List Nat} (h : H t = some (.tup (exTold N S))) : Dp K H (.ref t) (exD N S) := by
  unfold exTold at h
  unfold exD
  cases e : N.noB with
  | none =>
    rw [e] at h
    exact .tup (SqT.of h) (.cons (.str _) (.cons (.int _) .nil))
  | some i =>
    rw [e] at h
    exact .tup (SqT.of h) (.cons (.str _) (.cons (.int _) .nil))
theorem shw_exD {N : Net} (ok : NetOk N) (S : List Nat) : Shw 1 22 (exD N S) := by
  have big : (10 : Nat) ^ 15 < 10 ^ 18 := by decide
  unfold exD
  cases e : N.noB with
  | none => exact shw_told5 (n := 0) (B := 10) (shw_str5 (by decide +kernel) (by decide +kernel) (by decide +kernel)) ((shw_int (by have := exS_small ok S; omega)).mono (by decide) (by decide)) (by decide)
  | some i => exact shw_told5 (n := 0) (B := 10) (shw_str5 (by decide +kernel) (by decide +kernel) (by decide +kernel)) ((shw_int (by have := noB_lt e; have := ok.len; omega)).mono (by decide) (by decide)) (by decide)
/-- the indexes of the pipes without bounds -/
noncomputable def missL (N : Net) (i : Nat) : List Nat := (List.range i).filter fun k => (N.bL[k]?).any Option.isNone
theorem missL_succ {N : Net} {i : Nat} {o : Option (Int × Int)} (h : N.bL[i]? = some o) : missL N (i + 1) = missL N i ++ if o.isNone = true then [i] else [] := by
  unfold missL
  rw [List.range_succ, List.filter_append, List.filter_cons, h]
  rfl
theorem missL_len (N : Net) (i : Nat) : (missL N i).length ≤ i := by
  have h := List.length_filter_le (fun k => (N.bL[k]?).any Option.isNone) (List.range i)
  rw [List.length_range] at h
  exact h
theorem missL_head (N : Net) : (missL N N.tubes.length)[0]? = N.noB := by
  rw [← List.head?_eq_getElem?]
  unfold missL
  rw [List.head?_filter]
  cases h : N.noB with
  | none =>
    rw [List.find?_eq_none]
    intro k hk
    unfold Net.noB at h
    rw [List.findIdx?_eq_none_iff] at h
    have hkl : k < N.bL.length := by rw [bL_len']; exact List.mem_range.mp hk
    rw [List.getElem?_eq_getElem hkl]
    have := h _ (List.getElem_mem hkl)
    show ¬ (N.bL[k].isNone = true)
    rw [this]
    decide
  | some i =>
    unfold Net.noB at h
    rw [List.findIdx?_eq_some_iff_getElem] at h
    obtain ⟨h1, h2, h3⟩ := h
    rw [List.find?_range_eq_some]
    rw [bL_len'] at h1
    refine ⟨by rw [List.getElem?_eq_getElem (by rw [bL_len']; exact h1)]; exact h2, List.mem_range.mpr h1, fun j hj => ?_⟩
    rw [List.getElem?_eq_getElem (by rw [bL_len']; omega)]
    have := h3 j hj
    show (!(N.bL[j]'(by rw [bL_len']; omega)).isNone) = true
    rw [Bool.eq_false_iff.mpr this]
    rfl
theorem sum_map_sub {α : Type} (f g : α → Int) : ∀ l : List α, (l.map fun x => f x - g x).sum = (l.map f).sum - (l.map g).sum
  | [] => rfl
  | x :: l => by
    rw [List.map_cons, List.map_cons, List.map_cons, List.sum_cons, List.sum_cons, List.sum_cons, sum_map_sub f g l]
    omega
/-- a set and the other places -/
theorem exS_both {N : Net} (ok : NetOk N) (L : List (Int × Int)) (S : List Nat) : exS N L S N.tubes.length + exS N L (lack S N.many) N.tubes.length = ((hits (ent S) N.tubes N.tubes.length ++ hits (exi S) N.tubes N.tubes.length).map fun k => (L.getD k (0, 0)).1 - (L.getD k (0, 0)).2).sum := by
  unfold exS
  rw [hits_congr (c := ent (lack S N.many)) (d := exi S) fun p hp => ent_lack (ok.lt p hp).1 (ok.lt p hp).2, hits_congr (c := exi (lack S N.many)) (d := ent S) fun p hp => exi_lack (ok.lt p hp).1 (ok.lt p hp).2]
  rw [List.map_append, List.sum_append, sum_map_sub, sum_map_sub]
  omega
section
variable {P : Program} {w : World} {K : PySem.W.Frag} {mg : Str → Option Value} {base : Heap}
abbrev s_law_sets_right : Stmt := top 58
theorem sc_law_sets_right : FnScope ["net", "pairs", "spots_there", "missing", "at", "pair", "spots", "told", "due", "rest", "gaps"] ["net", "pairs", "spots_there"] (defScope s_law_sets_right) := ⟨rfl, rfl, rfl, by decide +kernel, rfl, by decide +kernel, by decide +kernel⟩
def sp_law_sets_right (K : PySem.W.Frag) (pS pR : Addr) : Sp := fun vs H Q _ => ∃ (na pa la : Addr) (N : Net) (ws : List V) (ts : List Addr) (Ss : List (List Nat)), vs = [.ref na, .ref pa, .ref la] ∧ NetAt K H na N ∧ NetOk N ∧ Calm N ∧ SqT K H pa ws ∧ BndsV K H ws N.bL ∧ SqL K H la (ts.map V.ref) ∧ SetsAt K H ts Ss ∧ (∀ S ∈ Ss, setB N.many 0 (S.map natV) = true) ∧ Tabs (tb2 pS pR) H ∧
  ∀ H', ExtN H H' → Tabs (tb2 pS pR) H' → Q (.bl true) H'
set_option maxHeartbeats 4000000 in
theorem has_law_sets_right {cS pS pR CW CP CG CN : Addr} (D : DefTab K mg "_law_sets_right" s_law_sets_right ["net", "pairs", "spots_there"] cS) (TB : TabB base mg cS pS) (hne : pS ≠ pR) (T : Blt mg) (h_excess : HasX P w K mg base "excess" 6 ["network", "places"] (sp_excess K CP CG CN)) (h_excess_kw : HasKR P w K mg base "excess" 6 ["network", "places"] ["places", "network"] (sp_excess K CP CG CN))
    (h_law_surplus : Has P w K mg base "_law_surplus" 2 ["net", "limits", "spots"] (sp_law_surplus K)) (h_law_ins : Has P w K mg base "_law_ins" 1 ["net", "spots"] (sp_law_hits K ent)) (h_law_outs : Has P w K mg base "_law_outs" 1 ["net", "spots"] (sp_law_hits K exi)) (D_caught : DefAt K mg "_law_caught" s_law_caught ["call"])
    (cW : mg "WrapcountError" = some (.ref CW)) (kP : K1 K mg CW "InvalidPlaces" CP "value") (kG : K1 K mg CW "GroupSum" CG "group") (kN : K1 K mg CW "NoCount" CN "pipe")
    (gPP : PySem.W.kitOne K (.ref CP) (.ref CP) = some true) (gP : PySem.W.kitOne K (.ref CG) (.ref CP) = some false) (gG : PySem.W.kitOne K (.ref CG) (.ref CG) = some true) (gNP : PySem.W.kitOne K (.ref CN) (.ref CP) = some false) (gNG : PySem.W.kitOne K (.ref CN) (.ref CG) = some false) (gNN : PySem.W.kitOne K (.ref CN) (.ref CN) = some true) :
    HasG P w K mg base "_law_sets_right" 9 ["net", "pairs", "spots_there"] (sp_law_sets_right K pS pR) := by
  obtain ⟨gc, fdc, Fc, hmC, hbC⟩ := D_caught
  have hkC := Fc.kp
  obtain ⟨o1, o2, k1, o3, o4, o5, cdv, o6, o7, rfl, lkC, hcC⟩ := Fc.ex
  refine D.okG sc_law_sets_right (fun vs H Q E h => ?_) (fun f A outer s H vs Q E hr hG h => ?_)
  · obtain ⟨na, pa, la, N, ws, ts, Ss, rfl, _⟩ := h
    rfl
  · obtain ⟨na, pa, la, N, ws, ts, Ss, rfl, hN, ok, calm, hpa, hB, hla, hSs, hset, hTab, q⟩ := h
    have hu64 := hr.b64
    refine ⟨_, (pss_cons (ps_setLc (i := 3) (own := [("at", 4), ("pair", 5)]) (g := gTup K 2 (gCons (gName 4) (gCons (gName 5) gNil))) rfl sc_law_sets_right.nd rfl rfl (sw_true rfl rfl rfl (by decide +kernel)) (pi_enumT (by rfl) T.b_enumerate (pa_cons (pv 1) pa_nil)) (blkOk_by (N := ["net", "pairs", "spots_there", "missing", "at", "pair", "spots", "told", "due", "rest", "gaps"]) (sc := defScope s_law_sets_right) (by decide +kernel)) (fun _ _ _ _ _ => (pg_tupK K 2 rfl (pgs_cons (pg_name (i := 4) sc_law_sets_right.nd rfl (Or.inl rfl)) (pgs_cons (pg_name (i := 5) sc_law_sets_right.nd rfl (Or.inl rfl)) pgs_nil)))) (fun _ _ _ _ _ => (pts_one (pt_cmpR op_isN (pv 5) pe_non (nomark _)))) (fun _ _ _ _ _ => (pv 4)))
      (pss_cons (ps_for PassesOwn.never rfl (pi_list (pv 2)) (pg_name (i := 6) sc_law_sets_right.nd rfl (.inr rfl)) (pss_cons (ps_set (i := 7) sc_law_sets_right.nd rfl (.inl rfl) (pe_at (pe_lst (pa_cons (pe_lamcall (x := "_law_caught") (a := "call") (g := gc) (c := cS) (P := pS) (T := tb2 pS pR) (TT := TCaught3 CP CG CN) (k := 6) (t := fun E => tCall (sp_excess K CP CG CN) [] E (tCons (tVar 0) (tCons (tVar 6) tNil))) (by rfl) hmC hkC lkC hcC hbC sc_law_caught (by rfl) (.inl rfl) (caught3_gives rfl rfl T cW kP kG kN gPP gP gG gNP gNG gNN) TB rfl List.mem_cons_self (uniS hne) (hr.mono (by decide)) (lamS_by (sc := defScope s_law_sets_right) (by decide +kernel)) (by rfl) (fun _ _ _ _ _ => by rfl) (fun A outer s H E f c' hr' => pe_ownXE h_excess hr' (by rfl) (passes_call (takes_of rfl rfl rfl rfl) fun _ _ _ _ z => z) (pa_cons (pe_var (i := 0) rfl (.inr (.inr rfl))) (pa_cons (pe_var (i := 6) rfl (.inr (.inr rfl))) pa_nil)))) pa_nil))))
      (pss_cons (ps_expr (pe_bm PySem.F.plainAttrs_list PySem.F.slot_list_append PySem.F.type_list_append mt_append (pv 7) (pa_cons (pe_lamcall (x := "_law_caught") (a := "call") (g := gc) (c := cS) (P := pS) (T := tb2 pS pR) (TT := TCaught3 CP CG CN) (k := 6) (t := fun E => tByKwR (["places", "network"] : List Str).length (sp_excess K CP CG CN) E (tCons (tVar 6) (tCons (tVar 0) tNil))) (by rfl) hmC hkC lkC hcC hbC sc_law_caught (by rfl) (.inl rfl) (caught3_gives rfl rfl T cW kP kG kN gPP gP gG gNP gNG gNN) TB rfl List.mem_cons_self (uniS hne) (hr.mono (by decide)) (lamS_by (sc := defScope s_law_sets_right) (by decide +kernel)) (by rfl) (fun _ _ _ _ _ => by rfl) (fun A outer s H E f c' hr' => pe_ownKR h_excess_kw hr' (by rfl) (passes_call (takes_of rfl rfl rfl rfl) fun _ _ _ _ z => z) (pk_cons (pe_var (i := 6) rfl (.inr (.inr rfl))) (pk_cons (pe_var (i := 0) rfl (.inr (.inr rfl))) pk_nil)))) pa_nil)))
      (pss_cons (ps_if (pt_cmpR (op_neD hu64) (pv 3) (pe_at (pe_lst pa_nil)) (nomark _)) (pss_one (ps_set (i := 8) sc_law_sets_right.nd rfl (.inl rfl) (pe_at (pe_tup (pa_cons pe_str (pa_cons (pe_ix ix_list (pv 3) pe_int (fun _ _ => rfl)) pa_nil)))))) (pss_cons (ps_set (i := 8) sc_law_sets_right.nd rfl (.inl rfl) (pe_at (pe_tup (pa_cons pe_str (pa_cons (pe_own h_law_surplus (hr.mono (by decide)) (by rfl) (pa_cons (pv 0) (pa_cons (pv 1) (pa_cons (pv 6) pa_nil)))) pa_nil)))))
      (pss_cons (ps_set (i := 9) sc_law_sets_right.nd rfl (.inl rfl) (pe_at (pe_callTy call_tuple_of (by rfl) T.b_tuple (by decide +kernel) (pa_cons (pe_lc (own := [("at", 4)]) (g := gName 4) rfl sc_law_sets_right.nd (pi_range1 (by rfl) T.b_range (pa_cons (pe_ix ix_tup (pv 0) pe_int (fun _ _ => rfl)) pa_nil)) (blkOk_by (N := ["net", "pairs", "spots_there", "missing", "at", "pair", "spots", "told", "due", "rest", "gaps"]) (sc := defScope s_law_sets_right) (by decide +kernel)) (fun _ _ _ _ _ => (pg_name (i := 4) sc_law_sets_right.nd rfl (Or.inl rfl))) (fun _ _ _ _ _ => (pts_one (pt_cmpR (op_notInK K) (pv 4) (pv 6) (by rfl)))) (fun _ _ _ _ _ => (pv 4))) pa_nil))))
      (pss_cons (ps_setLc (i := 10) (own := [("at", 4)]) (g := gName 4) (tt := tYes) rfl sc_law_sets_right.nd rfl rfl (sw_true rfl rfl rfl (by decide +kernel)) (pi_list (pe_at (pe_op op_cat (pe_own h_law_ins (hr.mono (by decide)) (by rfl) (pa_cons (pv 0) (pa_cons (pv 6) pa_nil))) (pe_own h_law_outs (hr.mono (by decide)) (by rfl) (pa_cons (pv 0) (pa_cons (pv 6) pa_nil)))))) (blkOk_by (N := ["net", "pairs", "spots_there", "missing", "at", "pair", "spots", "told", "due", "rest", "gaps"]) (sc := defScope s_law_sets_right) (by decide +kernel)) (fun _ _ _ _ _ => (pg_name (i := 4) sc_law_sets_right.nd rfl (Or.inl rfl))) (fun _ _ _ _ _ => pts_nil) (fun _ _ _ _ _ => (pe_op op_sub (pe_ix (ix_tupK K) (pe_ix (ix_tupK K) (pv 1) (pv 4) (fun _ _ => rfl)) pe_int (fun _ _ => rfl)) (pe_ix (ix_tupK K) (pe_ix (ix_tupK K) (pv 1) (pv 4) (fun _ _ => rfl)) pe_int (fun _ _ => rfl)))))
      (pss_one (ps_if (pt_cmpR op_ne (pe_op op_add (pe_ix ix_tup (pv 8) pe_int (fun _ _ => rfl)) (pe_ownXE h_excess (hr.mono (by decide)) (by rfl) passL (pa_cons (pv 0) (pa_cons (pv 9) pa_nil)))) (pe_callB (cr_sum rfl) (by rfl) T.b_sum (by decide +kernel) (pa_cons (pv 10) pa_nil)) (nomark _)) (pss_one (ps_ret pe_bl)) pss_nil))))))
      (pss_one (ps_if (pt_cmpR op_ne (pe_callB (call_repr hG hu64) (by rfl) T.b_repr (by decide +kernel) (pa_cons (pv 7) pa_nil)) (pe_callB (call_repr hG hu64) (by rfl) T.b_repr (by decide +kernel) (pa_cons (pe_at (pe_lst (pa_cons (pv 8) (pa_cons (pv 8) pa_nil)))) pa_nil)) (nomark _)) (pss_one (ps_ret pe_bl)) pss_nil))))))
      (pss_one (ps_ret pe_bl)))), ?_⟩
    have hwl : ws.length = N.tubes.length := by rw [Paired.length hB, bL_len']
    have hlen := ok.len
    refine ⟨_, rfl, pa, _, rfl, hpa, fun D1 hD1 => ?_⟩
    refine lc_it (walk_enumT (xs := ws)) (fun i H' => Same H H' ∧ H' D1 = some (.lst ((missL N i).map natV))) ⟨same_upd hD1, upd_same⟩ (fun i H' _ ⟨s2, _⟩ => upT s2 hpa) ?_ ?_
    · rintro i v H2 H3 hi ⟨s2, hacc⟩ ⟨T0, x1, x2, rfl, hT0, rfl, e1, e2⟩
      cases e1
      obtain ⟨o, ho, hvo⟩ := paired_get hB e2
      have sT : Same H2 (upd H2 T0 (.tup [.int (i : Nat), x2])) := same_upd hT0
      have hT2 : upd H2 T0 (.tup [.int (i : Nat), x2]) T0 = some _ := upd_same
      generalize upd H2 T0 (.tup [.int (i : Nat), x2]) = H4 at sT hT2
      have s3 := s2.trans sT
      have hacc3 := sT _ _ hacc
      have hml := missL_len N i
      have hil : i < N.tubes.length := by rw [← hwl]; exact hi
      have hms := missL_succ ho
      refine ⟨T0, _, rfl, SqT.of hT2, rfl, _, _, rfl, _, _, rfl, rfl, ?_⟩
      refine ⟨rfl, _, rfl, rfl, _, rfl, ite2 (fun c => ?_) (fun c => ?_)⟩
      · have hon : o.isNone = true := by
          cases o with
          | none => rfl
          | some q =>
            obtain ⟨t', rfl, _⟩ := hvo
            exact absurd (of_decide_eq_true c) (by simp)
        rw [if_pos hon] at hms
        refine ⟨_, rfl, _, hacc3, small1000 (by rw [List.length_map]; omega), fun x o e => ?_, ?_⟩
        · rw [upd_ne (ne_of_none e hD1)]
          exact s3 _ _ e
        · rw [upd_same, hms, List.map_append]
          rfl
      · have hon : ¬ o.isNone = true := fun z => by
          cases o with
          | none => exact c (by rw [show x2 = V.non from hvo]; rfl)
          | some q => cases z
        rw [if_neg hon, List.append_nil] at hms
        refine ⟨s3, ?_⟩
        rw [hms]
        exact hacc3
    · rintro H1 ⟨s1, hmi⟩
      rw [hwl] at hmi
      have fD := hD1
      refine ⟨_, rfl, la, rfl, ⟨_, upL s1 hla⟩, ?_⟩
      refine for_it (walk_list (xs := ts.map V.ref)) (fun i σ H' => (∃ y6 y7 y8 y9 y10, σ = [some (.ref na), some (.ref pa), some (.ref la), some (.ref D1), none, none, y6, y7, y8, y9, y10]) ∧ ExtN H1 H' ∧ Tabs (tb2 pS pR) H') ⟨⟨_, _, _, _, _, rfl⟩, ExtN.refl _, upB s1 hTab⟩ (fun i σ H' _ h => extL h.2.1 (upL s1 hla)) ?_ ?_
      · rintro i v σ H2 H3 hi ⟨⟨y6, y7, y8, y9, y10, rfl⟩, x2, T2⟩ ⟨rfl, hv⟩
        have hv2 : (ts.map V.ref)[i]? = some v := hv
        rw [List.getElem?_map] at hv2
        cases hti : ts[i]? with
        | none => rw [hti] at hv2; cases hv2
        | some t =>
          rw [hti] at hv2
          obtain rfl : V.ref t = v := Option.some.inj hv2
          obtain ⟨S, hSi, hSt⟩ := paired_get hSs hti
          have hsS := hset S (List.mem_of_getElem? hSi)
          have k3 := s1.keepT.trans (ext_keepT x2)
          have hN3 := extNet x2 (upN s1 hN)
          have hSt3 := extT x2 (upT s1 hSt)
          refine ⟨T2, fun A1 e1 U1 => ?_⟩
          refine caught_ex (extNet e1 hN3) ok calm (extT e1 hSt3) hsS (fun E' Q' z => ⟨_, rfl, _, rfl, z⟩) fun A2 t1 r1 f1 a1 => ?_
          refine ⟨(by show 1 ≤ sizeLine; decide), alloc fun l A3 r2 f2 a2 => ?_⟩
          have x3 := e1.trans ((extN_of r1).trans (extN_of r2))
          have U3 := upB r2 (upB r1 U1)
          refine ⟨_, rfl, .inl ⟨rfl, _, SqL.of a2⟩, U3, fun A4 e2 U4 => ?_⟩
          refine caught_ex (extNet (x3.trans e2) hN3) ok calm (extT (x3.trans e2) hSt3) hsS (fun E' Q' z => ⟨_, rfl, _, rfl, rfl, z⟩) fun A5 t2 r3 f3 a3 => ?_
          have a2' : A5 l = some (.lst [.ref t1]) := r3 _ _ (ext1 e2 a2)
          have a1' : A5 t1 = some _ := r3 _ _ (ext1 e2 (r2 _ _ a1))
          refine ⟨l, _, _, rfl, rfl, a2', (by show 1 < sizeLine; decide), ?_⟩
          have x5 : ExtN H3 A5 := (x3.trans e2).trans (extN_of r3)
          have x6 : ExtN H3 (upd A5 l (.lst ([.ref t1] ++ [.ref t2]))) := ext_upd (e1.trans (extN_of r1)) f2 x5
          have U6 : Tabs (tb2 pS pR) (upd A5 l (.lst ([.ref t1] ++ [.ref t2]))) := tabs_upd (upB r3 U4) a2'
          have al6 : upd A5 l (.lst ([.ref t1] ++ [.ref t2])) l = some (.lst [.ref t1, .ref t2]) := upd_same
          have t16 : upd A5 l (.lst ([.ref t1] ++ [.ref t2])) t1 = some (.tup (exTold N S)) := by
            rw [upd_ne (fun z => by rw [z, a2'] at a1'; cases a1')]
            exact a1'
          have t26 : upd A5 l (.lst ([.ref t1] ++ [.ref t2])) t2 = some (.tup (exTold N S)) := by
            rw [upd_ne (fun z => by rw [z, a2'] at a3; cases a3)]
            exact a3
          generalize upd A5 l (.lst ([.ref t1] ++ [.ref t2])) = A6 at x6 U6 al6 t16 t26
          have hmi6 := ext1 x6 (ext1 x2 hmi)
          clear x5 a2' a1' a3 U4 e2 U3 x3 a2 a1 U1 e1
          have mh := missL_head N
          have ml := missL_len N N.tubes.length
          refine ⟨_, rfl, Nat.zero_le _, alloc fun e0 A7 r7 f7 a7 => ?_⟩
          have hmi7 := r7 _ _ hmi6
          refine ⟨.list ((missL N N.tubes.length).map fun x : Nat => PyData.int x), .list [], .lst (SqL.of hmi7) (dpAll_map _ fun x _ => .int x), .lst (SqL.of a7) .nil, ?_, (by decide +kernel), _, rfl, ?_⟩
          · have e : ((missL N N.tubes.length).map fun x : Nat => PyData.int x) = ((missL N N.tubes.length).map fun x : Nat => (x : Int)).map PyData.int := by
              rw [List.map_map]
              rfl
            rw [e]
            exact shaped_ints5 _
          rw [eqv_nil]
          have x7 := x6.trans (extN_of r7)
          have U7 := upB r7 U6
          have al7 := r7 _ _ al6
          have t17 := r7 _ _ t16
          have t27 := r7 _ _ t26
          clear hmi6 U6 al6 t16 t26 x6 r7 f7 a7
          have hN7 := extNet x7 hN3
          have hSt7 := extT x7 hSt3
          refine ite2 (fun c => ?_) (fun c => ?_)
          case' refine_1 =>
            have hex : ∃ i, N.noB = some i := by
              cases e : N.noB with
              | some i => exact ⟨i, rfl⟩
              | none =>
                exfalso
                rw [e] at mh
                have : missL N N.tubes.length = [] := by
                  cases z : missL N N.tubes.length with
                  | nil => rfl
                  | cons x l => rw [z] at mh; cases mh
                rw [this] at c
                exact absurd c (by decide)
            obtain ⟨ib, hib⟩ := hex
            rw [hib] at mh
            refine ⟨_, rfl, D1, _, 0, _, rfl, rfl, SqL.of hmi7, atI_nat (j := 0) (v := natV ib) (by rw [List.getElem?_map, mh]; rfl), (by show 2 ≤ sizeLine; decide), alloc fun d A8 r8 f8 a8 => ?_⟩
            have ad : A8 d = some (.tup (exTold N S)) := by
              rw [a8]
              unfold exTold
              rw [hib]
            have x8 := x7.trans (extN_of r8)
            have U8 := upB r8 U7
            have al8 := r8 _ _ al7
            have t18 := r8 _ _ t17
            have t28 := r8 _ _ t27
          case' refine_2 =>
            have hnn : N.noB = none := by
              cases e : N.noB with
              | none => rfl
              | some i =>
                exfalso
                rw [e] at mh
                have : ((missL N N.tubes.length).map fun x : Nat => PyData.int x).isEmpty = false := by
                  cases z : missL N N.tubes.length with
                  | nil => rw [z] at mh; cases mh
                  | cons x l => rfl
                rw [this] at c
                exact c rfl
            have k7 := k3.trans (ext_keepT x7)
            have hP7 : PairsV K A7 ws N.pL := (BndsV.keep k7 (by rw [← bL_of_pL hnn]; exact hB)).pairs
            have hpa7 := k7.seq hpa
            refine ⟨_, rfl, _, rfl, _, rfl, na, pa, N, ws, N.pL, .ref t, S, rfl, hN7, ok, hpa7, hP7, pL_len N, ⟨t, rfl, .inr hSt7⟩, fun B1 w1 => ?_⟩
            refine ⟨(by show 2 ≤ sizeLine; decide), alloc fun d B2 w2 g2 b2 => ?_⟩
            have w12 := w1.trans w2
            obtain ⟨bb, xb, hab, hbb, _⟩ := upN w12 hN7
            have e62 : ((N.many : Nat) : Int) < 2 ^ 62 := by have := ok.m24; omega
            refine ⟨_, rfl, na, _, 1, _, rfl, rfl, hab, atI_nat (j := 1) rfl, N.many, rfl, by omega, e62, fun D2 hD2 => ?_⟩
            have hS2 := upT w12 hSt7
            refine lc_range (lo := 0) (n := ((N.many : Int)).toNat) (fun j H' => Same B2 H' ∧ H' D2 = some (.lst ((lack S j).map natV))) ⟨same_upd hD2, upd_same⟩ (fun j H' hj ⟨s9, acc⟩ => ?_) (fun H' ⟨s9, acc⟩ => ?_)
            case' refine_1 =>
              have e0 : (0 : Int) + (j : Nat) = (j : Int) := by omega
              rw [e0]
              have hjl := lack_le S j
              have hm24 := ok.m24
              rw [Int.toNat_natCast] at hj
              refine ⟨rfl, _, rfl, _, rfl, t, _, rfl, .inr (upT s9 hS2), rfl, flat_nats S, _, rfl, ite2 (fun hw => ?_) (fun hw => ?_)⟩
              · have hw' : (!inV (natV j) (S.map natV)) = true := hw
                rw [inV_nat] at hw'
                refine ⟨_, rfl, _, acc, small1000 (by rw [List.length_map]; omega), fun x o e => ?_, ?_⟩
                · rw [upd_ne (ne_of_none e hD2)]
                  exact s9 _ _ e
                · rw [upd_same, lack_succ, if_pos hw', List.map_append]
                  rfl
              · have hw' : ¬ (!inV (natV j) (S.map natV)) = true := hw
                rw [inV_nat] at hw'
                refine ⟨s9, ?_⟩
                rw [lack_succ, if_neg hw', List.append_nil]
                exact acc
            rw [Int.toNat_natCast] at acc
            refine ⟨D2, _, rfl, .inl ⟨SqL.of acc, alloc fun tR B3 w3 g3 b3 => ?_⟩⟩
            have w13 := w12.trans (s9.trans w3)
            have hN13 := upN w13 hN7
            have hS13 := upT w13 hSt7
            have hd13 : B3 d = some _ := (s9.trans w3) _ _ b2
            -- gaps
            refine ⟨_, rfl, _, rfl, na, N, _, S, rfl, hN13, hlen, ⟨t, rfl, .inr hS13⟩, fun B4 l1 w4 hl1 hl14 => ?_⟩
            refine ⟨_, rfl, _, rfl, na, N, _, S, rfl, upN w4 hN13, hlen, ⟨t, rfl, .inr (upT w4 hS13)⟩, fun B5 l2 w5 hl2 hl25 => ?_⟩
            have hl15 := w5 _ _ hl14
            have hle1 := hits_le (ent S) N.tubes N.tubes.length
            have hle2 := hits_le (exi S) N.tubes N.tubes.length
            refine ⟨l1, l2, _, _, rfl, rfl, hl15, hl25, Nat.le_of_lt (small1000 (by rw [List.length_map, List.length_map]; omega)), alloc fun l3 B6 w6 g6 b6 => ⟨l3, rfl, ⟨_, SqL.of b6⟩, fun D3 hD3 => ?_⟩⟩
            have w46 := (w4.trans w5).trans w6
            have w16 := w13.trans w46
            have b6' : B6 l3 = some (.lst ((hits (ent S) N.tubes N.tubes.length ++ hits (exi S) N.tubes N.tubes.length).map natV)) := by rw [b6, List.map_append]
            have hpa16 := upT w16 hpa7
            have hP16 : PairsV K B6 ws N.pL := hP7.keep w16.keepT
            have hkey : ∀ k ∈ hits (ent S) N.tubes N.tubes.length ++ hits (exi S) N.tubes N.tubes.length, k < N.tubes.length := fun k hk => by
              rcases List.mem_append.mp hk with z | z
              · exact hits_lt z
              · exact hits_lt z
            have both := exS_both ok N.pL S
            have hsl : (hits (ent S) N.tubes N.tubes.length ++ hits (exi S) N.tubes N.tubes.length).length ≤ 120 := by rw [List.length_append]; omega
            generalize hits (ent S) N.tubes N.tubes.length ++ hits (exi S) N.tubes N.tubes.length = ks at b6' hkey both hsl
            have eks : (B6 l3 = some (.lst (ks.map natV))) := b6'
            refine lc_it (walk_list (xs := ks.map natV)) (fun j H' => Same B6 H' ∧ H' D3 = some (.lst (((ks.take j).map fun k => (N.pL.getD k (0, 0)).1 - (N.pL.getD k (0, 0)).2).map V.int))) ⟨same_upd hD3, upd_same⟩ (fun j H' _ ⟨s2, _⟩ => SqL.of (s2 _ _ eks)) ?_ (fun H' ⟨s10, acc3⟩ => ?_)
            case' refine_1 =>
              rintro j v H4 H5 hj ⟨s10, acc3⟩ ⟨rfl, hv⟩
              have hv2 : (ks.map natV)[j]? = some v := hv
              rw [List.getElem?_map] at hv2
              cases hk : ks[j]? with
              | none => rw [hk] at hv2; cases hv2
              | some k =>
                rw [hk] at hv2
                obtain rfl : natV k = v := Option.some.inj hv2
                have hkl := hkey k (List.mem_of_getElem? hk)
                have hkw : k < ws.length := by rw [hwl]; exact hkl
                obtain ⟨q1, hq1, t', hwk, ht'⟩ := paired_get hP16 (List.getElem?_eq_getElem hkw)
                have hwk' : ws[k]? = some (.ref t') := by rw [List.getElem?_eq_getElem hkw, hwk]
                have eq1 : N.pL.getD k (0, 0) = q1 := by
                  rw [List.getD_eq_getElem?_getD, hq1]
                  rfl
                have htk : ks.take (j + 1) = ks.take j ++ [k] := by
                  rw [List.take_add_one, hk]
                  rfl
                have ht10 := upT s10 ht'
                have hp10 := upT s10 hpa16
                refine ⟨rfl, _, rfl, _, rfl, pa, _, (k : Int), _, rfl, rfl, hp10, atI_nat (j := k) hwk', t', _, 0, _, rfl, rfl, ht10, atI_nat (j := 0) rfl, ?_⟩
                refine ⟨_, rfl, _, rfl, pa, _, (k : Int), _, rfl, rfl, hp10, atI_nat (j := k) hwk', t', _, 1, _, rfl, rfl, ht10, atI_nat (j := 1) rfl, _, _, rfl, rfl, _, acc3, small1000 (by rw [List.length_map, List.length_map, List.length_take]; omega), fun x o e => ?_, ?_⟩
                · rw [upd_ne (ne_of_none e hD3)]
                  exact s10 _ _ e
                · rw [upd_same, htk, List.map_append, List.map_append, List.map_singleton, List.map_singleton, eq1]
            rw [List.length_map, List.take_length] at acc3
            have wE := w16.trans s10
            have hdE : H' d = some (.tup [.str "returned", .int (exS N N.pL S N.tubes.length)]) := (w46.trans s10) _ _ hd13
            have trE : H' tR = some (.tup ((lack S N.many).map natV)) := (w46.trans s10) _ _ b3
            refine ⟨_, rfl, d, _, 1, _, rfl, rfl, SqT.of hdE, atI_nat (j := 1) rfl, _, rfl, _, rfl, na, N, .ref tR, true, rfl, upN wE hN7, ok, .inl ⟨tR, _, rfl, SqT.of trE, kinds_nats _, (setB_lack S N.many).symm⟩, (fun z => by cases z), fun _ => ⟨(fun x hx => by rw [calm_iff.mp calm] at hx; cases hx), (fun _ i hi => by rw [hnn] at hi; cases hi), tR, lack S N.many, rfl, SqT.of trE, fun x hx => (mem_lack.mp hx).1, fun _ _ A8 sA8 => ?_⟩⟩
            refine ⟨_, _, rfl, rfl, _, rfl, D3, _, rfl, SqL.of (sA8 _ _ acc3), rfl, _, rfl, ?_⟩
            rw [decide_eq_true (congrArg V.int both)]
            refine iteF ?_
            have wA8 := wE.trans sA8
            have x8 := x7.trans (extN_of wA8)
            have U8 := upB wA8 U7
            have al8 := wA8 _ _ al7
            have t18 := wA8 _ _ t17
            have t28 := wA8 _ _ t27
            have ad : A8 d = some (.tup (exTold N S)) := by
              rw [sA8 _ _ hdE]
              unfold exTold
              rw [hnn]
          all_goals
            have rp := rep_two5 (shw_exD ok S) (by decide) (by decide)
            refine ⟨_, rfl, l, _, rfl, .lst (SqL.of al8) (.cons (dp_exD t18) (.cons (dp_exD t28) .nil)), rp.1, rp.2.1, rp.2.2.1, rp.2.2.2, ?_⟩
            refine ⟨_, rfl, _, rfl, (by show 2 ≤ sizeLine; decide), alloc fun q1 A9 r9 f9 a9 => ?_⟩
            refine ⟨q1, _, rfl, .lst (SqL.of a9) (.cons (dp_exD (r9 _ _ ad)) (.cons (dp_exD (r9 _ _ ad)) .nil)), rp.1, rp.2.1, rp.2.2.1, rp.2.2.2, rfl, _, rfl, ?_⟩
            rw [decide_eq_true rfl]
            exact iteF ⟨⟨_, _, _, _, _, rfl⟩, x2.trans (x8.trans (extN_of r9)), upB r9 U8⟩
      · rintro σ H2 ⟨⟨y6, y7, y8, y9, y10, rfl⟩, x2, T2⟩
        exact q H2 ((extN_of s1).trans x2) T2
end
end Wc

set_option Elab.async false
set_option linter.all false
set_option maxRecDepth 100000
/-! What the law is told of bounds, and of values that are no sets of places. -/
namespace Wc
open PySem PySem.Spec PyProof PyProof.Rows L2 LamX
/-- what the law is told of the bounds -/
def ToldB (K : PySem.W.Frag) (H : Hp) (t : Addr) (N : Net) : Prop :=
  (wrongs N = [] ∧ ∃ g ws, SqT K H t [.str "returned", .ref g] ∧ SqT K H g ws ∧ BndsV K H ws N.bL) ∨
  ∃ x, (wrongs N).head? = some x ∧ ∃ g, SqT K H t [.str "sum", .ref g] ∧ SqT K H g ((comp (OEdge N.tubes none) N.many x).map natV)
theorem ToldB.keep {K : PySem.W.Frag} {H H' : Hp} {t : Addr} {N : Net} (s : KeepT H H') (h : ToldB K H t N) : ToldB K H' t N := by
  rcases h with ⟨h1, g, ws, h2, h3, h4⟩ | ⟨x, h1, g, h2, h3⟩
  · exact .inl ⟨h1, g, ws, s.seq h2, s.seq h3, h4.keep s⟩
  · exact .inr ⟨x, h1, g, s.seq h2, s.seq h3⟩
abbrev E3 (CP CG CN : Addr) (Q : VK) : XK := fun cls d H' => ∃ (dd : Addr) (f nm : Str) (C : Addr) (g : V), cls = .ref C ∧ d = some dd ∧ H' dd = some (.xd [(f, g)]) ∧ ((C = CP ∧ f = "value" ∧ nm = "places") ∨ (C = CG ∧ f = "group" ∧ nm = "sum") ∨ (C = CN ∧ f = "pipe" ∧ nm = "count")) ∧ ∀ t H2, Same H' H2 → H' t = none → H2 t = some (.tup [.str nm, g]) → Q (.ref t) H2
abbrev R3 (Q : VK) : VK := fun v H' => ∀ t H2, Same H' H2 → H' t = none → H2 t = some (.tup [.str "returned", v]) → Q (.ref t) H2
theorem bo_told {K : PySem.W.Frag} {CP CG CN na : Addr} {N : Net} {H : Hp} {Q : VK} (hN : NetAt K H na N) (ok : NetOk N) (h : ∀ H2 t, Same H H2 → H t = none → ToldB K H2 t N → Q (.ref t) H2) : sp_bounds K CG [.ref na] H (R3 Q) (E3 CP CG CN Q) :=
  ⟨na, N, rfl, hN, ok, fun calm H1 l ws s1 hl1 hl2 hB t H2 s2 ht ht2 => h H2 t (s1.trans s2) (s1.free ht) (.inl ⟨calm_iff.mp calm, l, ws, SqT.of ht2, SqT.of (s2 _ _ hl2), hB.keep s2.keepT⟩),
    fun x hx H1 d g s1 hd hd2 hg => ⟨d, "group", "sum", CG, .ref g, rfl, rfl, hd2, .inr (.inl ⟨rfl, rfl, rfl⟩), fun t H2 s2 ht ht2 => h H2 t (s1.trans s2) (s1.free ht) (.inr ⟨x, hx, g, SqT.of ht2, SqT.of (s2 _ _ hg)⟩)⟩⟩
theorem ex_bad {K : PySem.W.Frag} {CP CG CN na : Addr} {N : Net} {v : V} {H : Hp} {Q : VK} (hN : NetAt K H na N) (ok : NetOk N) (hs : SetOr K H v N.many false) (h : ∀ H2 t, Same H H2 → H t = none → H2 t = some (.tup [.str "places", v]) → Q (.ref t) H2) : sp_excess K CP CG CN [.ref na, v] H (R3 Q) (E3 CP CG CN Q) :=
  ⟨na, N, v, false, rfl, hN, ok, hs, fun _ H1 d s1 hd hd2 => ⟨d, "value", "places", CP, v, rfl, rfl, hd2, .inl ⟨rfl, rfl, rfl⟩, fun t H2 s2 ht ht2 => h H2 t (s1.trans s2) (s1.free ht) ht2⟩, fun z => by cases z⟩
/-- the excess where a group is wrong -/
theorem ex_sum {K : PySem.W.Frag} {CP CG CN na a : Addr} {N : Net} {S : List Nat} {x : Nat} {H : Hp} {Q : VK} (hN : NetAt K H na N) (ok : NetOk N) (hx : (wrongs N).head? = some x) (hS : SqT K H a (S.map natV)) (hs : setB N.many 0 (S.map natV) = true) (h : ∀ H2 t, Same H H2 → H t = none → ToldB K H2 t N → Q (.ref t) H2) : sp_excess K CP CG CN [.ref na, .ref a] H (R3 Q) (E3 CP CG CN Q) := by
  have nc : ¬ Calm N := fun z => by
    rw [calm_iff.mp z] at hx
    cases hx
  exact ⟨na, N, .ref a, true, rfl, hN, ok, .inl ⟨a, _, rfl, hS, kinds_nats S, hs.symm⟩, (fun z => by cases z), fun _ => ⟨fun x' hx' H1 d g s1 hd hd2 hg => ⟨d, "group", "sum", CG, .ref g, rfl, rfl, hd2, .inr (.inl ⟨rfl, rfl, rfl⟩), fun t H2 s2 ht ht2 => h H2 t (s1.trans s2) (s1.free ht) (.inr ⟨x', hx', g, SqT.of ht2, SqT.of (s2 _ _ hg)⟩)⟩,
    fun c => absurd c nc, a, S, rfl, hS, (fun y hy => by have := (set_facts hs).1 y hy; omega), fun c => absurd c nc⟩⟩
theorem caught_bo {K : PySem.W.Frag} {CP CG CN na : Addr} {N : Net} {tl : XK → Hp → VK → Prop} {H : Hp} {Q : VK} (hN : NetAt K H na N) (ok : NetOk N) (hl : ∀ E Q', sp_bounds K CG [.ref na] H Q' E → tl E H Q') (h : ∀ H2 t, Same H H2 → H t = none → ToldB K H2 t N → Q (.ref t) H2) : TCaught3 CP CG CN tl H Q := by
  show tl (E3 CP CG CN Q) H (R3 Q)
  exact hl _ _ (bo_told hN ok h)
theorem caught_bad {K : PySem.W.Frag} {CP CG CN na : Addr} {N : Net} {o : HO} {tl : XK → Hp → VK → Prop} {H : Hp} {Q : VK} (hN : NetAt K H na N) (ok : NetOk N) (hs : ∀ H1 v, H1 v = some o → SetOr K H1 (.ref v) N.many false) (hl : ∀ E Q', (∀ H1 v, Same H H1 → H1 v = some o → sp_excess K CP CG CN [.ref na, .ref v] H1 Q' E) → tl E H Q')
    (h : ∀ H2 t v, Same H H2 → H t = none → H2 v = some o → H2 t = some (.tup [.str "places", .ref v]) → Q (.ref t) H2) : TCaught3 CP CG CN tl H Q := by
  show tl (E3 CP CG CN Q) H (R3 Q)
  exact hl _ _ fun H1 v s1 hv => ex_bad (upN s1 hN) ok (hs H1 v hv) fun H2 t s2 ht ht2 => h H2 t v (s1.trans s2) (s1.free ht) (s2 _ _ hv) ht2
theorem caught_sum {K : PySem.W.Frag} {CP CG CN na a : Addr} {N : Net} {S : List Nat} {x : Nat} {tl : XK → Hp → VK → Prop} {H : Hp} {Q : VK} (hN : NetAt K H na N) (ok : NetOk N) (hx : (wrongs N).head? = some x) (hS : SqT K H a (S.map natV)) (hs : setB N.many 0 (S.map natV) = true) (hl : ∀ E Q', sp_excess K CP CG CN [.ref na, .ref a] H Q' E → tl E H Q')
    (h : ∀ H2 t, Same H H2 → H t = none → ToldB K H2 t N → Q (.ref t) H2) : TCaught3 CP CG CN tl H Q := by
  show tl (E3 CP CG CN Q) H (R3 Q)
  exact hl _ _ (ex_sum hN ok hx hS hs h)
/-! ### as data -/
def bdD : Option (Int × Int) → PyData
  | none => .none
  | some q => .tuple [.int q.1, .int q.2]
noncomputable def bndsD (N : Net) : PyData := .tuple (N.bL.map bdD)
theorem dp_bds {K : PySem.W.Frag} {H : Hp} : ∀ {ws : List V} {os : List (Option (Int × Int))}, BndsV K H ws os → DpAll K H ws (os.map bdD)
  | [], [], _ => .nil
  | _ :: _, [], h => by cases h
  | [], _ :: _, h => by cases h
  | v :: vs, o :: os, h => by
    cases h with
    | cons r h =>
      refine .cons ?_ (dp_bds h)
      cases o with
      | none =>
        have : v = .non := r
        rw [this]
        exact .non
      | some q =>
        obtain ⟨t, rfl, ht⟩ := r
        exact .tup ht (.cons (.int _) (.cons (.int _) .nil))
theorem dp_bnds {K : PySem.W.Frag} {H : Hp} {g : Addr} {ws : List V} {N : Net} (h : SqT K H g ws) (hB : BndsV K H ws N.bL) : Dp K H (.ref g) (bndsD N) := .tup h (dp_bds hB)
theorem shw_bnds {N : Net} (ok : NetOk N) : Shw 2 200 (bndsD N) := by
  have hl := ok.len
  refine (shw_tuple (n := 1) (B := 2) fun d hd => ?_).mono (by decide) (by rw [List.length_map, bL_len']; omega)
  obtain ⟨o, ho, rfl⟩ := List.mem_map.mp hd
  cases o with
  | none => exact shw_none.mono (by decide) (by decide)
  | some q =>
    obtain ⟨k, hk, e⟩ := List.getElem_of_mem ho
    have hk' : k < N.tubes.length := by rw [← bL_len' N]; exact hk
    have e2 : N.bL[k]? = some (some q) := by rw [List.getElem?_eq_getElem hk, e]
    have e3 : bndAt N (fun k => (N.resL N.tubes.length).getD k 0) k = some q := by
      have : N.bL[k]? = some (bndAt N (fun k => (N.resL N.tubes.length).getD k 0) k) := bndL_get hk'
      exact Option.some.inj (this.symm.trans e2)
    rw [bndAt_eq hk'] at e3
    have e4 : N.pL.getD k (0, 0) = bdpAt N (fun k => (N.resL N.tubes.length).getD k 0) k := by
      rw [List.getD_eq_getElem?_getD]
      unfold Net.pL
      rw [bdpL_get hk']
      rfl
    have e5 : N.pL.getD k (0, 0) = q := by
      rw [e4]
      by_cases c : (bdpAt N (fun k => (N.resL N.tubes.length).getD k 0) k).1 ≤ (bdpAt N (fun k => (N.resL N.tubes.length).getD k 0) k).2
      · rw [if_pos c] at e3
        exact Option.some.inj e3
      · rw [if_neg c] at e3
        cases e3
    have r := pL_range ok k
    rw [e5] at r
    have big : (10 : Nat) ^ 15 < 10 ^ 18 := by decide
    have h1 : q.1.natAbs < 10 ^ 15 := by omega
    have h2 : q.2.natAbs < 10 ^ 15 := by omega
    refine (shw_tuple (n := 0) (B := 0) (ds := [.int q.1, .int q.2]) fun d hd => ?_)
    simp only [List.mem_cons, List.not_mem_nil, or_false] at hd
    rcases hd with rfl | rfl
    · exact shw_int (by omega)
    · exact shw_int (by omega)
noncomputable def toldD (N : Net) : PyData := match (wrongs N).head? with
  | some x => .tuple [.str "sum", natsD (comp (OEdge N.tubes none) N.many x)]
  | none => .tuple [.str "returned", bndsD N]
theorem dp_toldB {K : PySem.W.Frag} {H : Hp} {t : Addr} {N : Net} (h : ToldB K H t N) : Dp K H (.ref t) (toldD N) := by
  unfold toldD
  rcases h with ⟨h1, g, ws, h2, h3, h4⟩ | ⟨x, h1, g, h2, h3⟩
  · rw [h1]
    exact .tup h2 (.cons (.str _) (.cons (dp_bnds h3 h4) .nil))
  · rw [h1]
    exact .tup h2 (.cons (.str _) (.cons (dp_nats h3) .nil))
theorem shw_toldD {N : Net} (ok : NetOk N) : Shw 3 402 (toldD N) := by
  have hm := ok.m24
  unfold toldD
  cases (wrongs N).head? with
  | some x =>
    refine (shw_told5 (n := 1) (B := 60) (shw_str5 (by decide +kernel) (by decide +kernel) (by decide +kernel)) (shw_hits (fun y hy => ?_) ?_) (by decide)).mono (by decide) (by decide)
    · have := (mem_comp.mp hy).1
      omega
    · have := comp_len (OEdge N.tubes none) N.many x
      omega
  | none => exact (shw_told5 (n := 2) (B := 200) (shw_str5 (by decide +kernel) (by decide +kernel) (by decide +kernel)) (shw_bnds ok) (by decide)).mono (by decide) (by decide)
theorem rep_three5 {n B : Nat} {d : PyData} (h : Shw n B d) (hn : n ≤ 50) (hB : B ≤ 20000) : (PyData.list [d, d, d]).showable = true ∧ (PyData.list [d, d, d]).canLay0 = true ∧ (PyData.list [d, d, d]).depth ≤ 60 ∧ (PyData.list [d, d, d]).shown.length ≤ sizeLine :=
  (shw_list (ds := [d, d, d]) fun e he => by
    simp only [List.mem_cons, List.not_mem_nil, or_false, or_self] at he
    rw [he]
    exact h).repr (by omega) (by show 3 * (B + 1) ≤ 100000; omega)
theorem eqv_place (n : Int) : PyData.eqv (.tuple [.str "places", .tuple [.int n]]) (.tuple [.str "places", .tuple [.int n]]) = true := by
  simp [PyData.eqv, PyData.eqvAll]
theorem shaped_place (n : Int) : SeqAt.shaped (.tuple [.str "places", .tuple [.int n]]) = true := by
  have h : PyData.strOk ("places" : Str) = true := by decide +kernel
  simp [SeqAt.shaped, PyData.canLay0, PyData.canLayAll0, PyData.depth, PyData.depthAll, h]
theorem dp_cl5 {K : PySem.W.Frag} {H : Hp} {f : Nat → List Nat} : ∀ {ts : List Addr} {xs : List Nat}, Paired (fun t x => SqT K H t ((f x).map natV)) ts xs → DpAll K H (ts.map V.ref) (xs.map fun x => natsD (f x))
  | _, _, .nil => .nil
  | _, _, .cons r h => .cons (dp_nats r) (dp_cl5 h)
end Wc

set_option Elab.async false
set_option linter.all false
set_option maxRecDepth 100000
/-! Odd values. -/
namespace Wc
open PySem PySem.Spec PyProof PyProof.Rows L2 LamX
theorem kind_int {K : PySem.W.Frag} {H : Hp} {i : Int} : (∃ j : Int, V.int i = .int j) ∨ (NotInt K H (.int i) ∧ ∀ j : Int, V.int i ≠ .int j) := .inl ⟨i, rfl⟩
theorem kind_oth {K : PySem.W.Frag} {H : Hp} {v : V} {t : String} (h : TyX K H v (.type t)) (ht : t = "NoneType" ∨ t = "bool" ∨ t = "str" ∨ t = "list" ∨ t = "tuple" ∨ t = "dict") (hv : ∀ j : Int, v ≠ .int j) : (∃ j : Int, v = .int j) ∨ (NotInt K H v ∧ ∀ j : Int, v ≠ .int j) := .inr ⟨⟨t, h, ht⟩, hv⟩
theorem allv_nil {p : V → Prop} : ∀ x ∈ ([] : List V), p x := fun x hx => absurd hx List.not_mem_nil
theorem allv {p : V → Prop} {a : V} {l : List V} (h : p a) (k : ∀ x ∈ l, p x) : ∀ x ∈ a :: l, p x := fun x hx => by
  rcases List.mem_cons.mp hx with e | e
  · rw [e]; exact h
  · exact k x e
theorem allv_app {p : V → Prop} {l m : List V} (h : ∀ x ∈ l, p x) (k : ∀ x ∈ m, p x) : ∀ x ∈ l ++ m, p x := fun x hx => (List.mem_append.mp hx).elim (h x) (k x)
theorem dpx_nats {K : PySem.W.Frag} {H : Hp} (S : List Nat) : DpXs K H (S.map natV) (S.map fun x : Nat => PyData.int x) := by
  induction S with
  | nil => exact .nil
  | cons x S ih => exact .cons (.int _) ih
theorem shX_small {i : Int} (h : i.natAbs < 100) : ShX 1 5 (.int i) := (shX_int (Nat.lt_trans h (by decide))).mono
end Wc

set_option Elab.async false
set_option linter.all false
set_option maxRecDepth 100000
/-! Whether bounds and excess of a network are right. -/
namespace Wc
open PySem PySem.Spec PyProof PyProof.Rows L2 LamX
local macro_rules | `(tactic| walk_at "up") => `(tactic| first | with_reducible assumption | (refine up1 (by with_reducible assumption) ?_; walk_at "up") | (refine SqT.of ?_; walk_at "up") | (refine SqL.of ?_; walk_at "up") | (refine upT (by with_reducible assumption) ?_; walk_at "up") | (refine upL (by with_reducible assumption) ?_; walk_at "up") | (refine upN (by with_reducible assumption) ?_; walk_at "up"))
section
variable {P : Program} {w : World} {K : PySem.W.Frag} {mg : Str → Option Value} {base : Heap}
abbrev s_law_right : Stmt := top 59
theorem sc_law_right : FnScope ["net", "spots_there", "kept", "wrong", "told", "pairs"] ["net", "spots_there"] (defScope s_law_right) := ⟨rfl, rfl, rfl, by decide +kernel, rfl, by decide +kernel, by decide +kernel⟩
def sp_law_right5 (K : PySem.W.Frag) (pS pR : Addr) : Sp := fun vs H Q _ => ∃ (na la : Addr) (N : Net) (ts : List Addr) (Ss : List (List Nat)), vs = [.ref na, .ref la] ∧ NetAt K H na N ∧ NetOk N ∧ SqL K H la (ts.map V.ref) ∧ SetsAt K H ts Ss ∧ Ss ≠ [] ∧ (∀ S ∈ Ss, setB N.many 0 (S.map natV) = true) ∧ Tabs (tb2 pS pR) H ∧
  ∀ H', ExtN H H' → Tabs (tb2 pS pR) H' → Q (.bl true) H'
set_option maxHeartbeats 8000000 in
theorem has_law_right5 {cR pS pR CW CP CG CN : Addr} (D : DefTab K mg "_law_right" s_law_right ["net", "spots_there"] cR) (TB : TabB base mg cR pR) (hne : pS ≠ pR) (T : Blt mg) (h_bounds : HasX P w K mg base "bounds" 6 ["network"] (sp_bounds K CG)) (h_bounds_kw : HasKX P w K mg base "bounds" 6 ["network"] ["network"] (sp_bounds K CG)) (h_excess : HasX P w K mg base "excess" 6 ["network", "places"] (sp_excess K CP CG CN))
    (h_law_wrong : Has P w K mg base "_law_wrong" 4 ["net"] (sp_law_wrong5 K)) (h_law_pairs : Has P w K mg base "_law_pairs" 4 ["net"] (sp_law_pairs K)) (h_law_sets_right : HasG P w K mg base "_law_sets_right" 9 ["net", "pairs", "spots_there"] (sp_law_sets_right K pS pR)) (D_caught : DefAt K mg "_law_caught" s_law_caught ["call"])
    (cW : mg "WrapcountError" = some (.ref CW)) (kP : K1 K mg CW "InvalidPlaces" CP "value") (kG : K1 K mg CW "GroupSum" CG "group") (kN : K1 K mg CW "NoCount" CN "pipe")
    (gPP : PySem.W.kitOne K (.ref CP) (.ref CP) = some true) (gP : PySem.W.kitOne K (.ref CG) (.ref CP) = some false) (gG : PySem.W.kitOne K (.ref CG) (.ref CG) = some true) (gNP : PySem.W.kitOne K (.ref CN) (.ref CP) = some false) (gNG : PySem.W.kitOne K (.ref CN) (.ref CG) = some false) (gNN : PySem.W.kitOne K (.ref CN) (.ref CN) = some true) :
    HasG P w K mg base "_law_right" 10 ["net", "spots_there"] (sp_law_right5 K pS pR) := by
  obtain ⟨gc, fdc, Fc, hmC, hbC⟩ := D_caught
  have hkC := Fc.kp
  obtain ⟨o1, o2, k1, o3, o4, o5, cdv, o6, o7, rfl, lkC, hcC⟩ := Fc.ex
  refine D.okG sc_law_right (fun vs H Q E h => ?_) (fun f A outer s H vs Q E hr hG h => ?_)
  · obtain ⟨na, la, N, ts, Ss, rfl, _⟩ := h
    rfl
  · obtain ⟨na, la, N, ts, Ss, rfl, hN, ok, hla, hSs, hSe, hset, hTab, q⟩ := h
    have hu64 := hr.b64
    have hnet := (shw_net ok).repr (by decide) (by decide)
    have hm24 := ok.m24
    have hm1 := ok.m1
    refine ⟨_, (pss_cons (ps_par (i := 2) (j := 3) (by rfl) sc_law_right.nd rfl rfl (by decide) rfl rfl (pa_cons (pe_callB (call_repr hG hu64) (by rfl) T.b_repr (by decide +kernel) (pa_cons (pv 0) pa_nil)) (pa_cons (pe_own h_law_wrong (hr.mono (by decide)) (by rfl) (pa_cons (pv 0) pa_nil)) pa_nil)) (by rfl))
      (pss_cons (ps_set (i := 4) sc_law_right.nd rfl (.inl rfl) (pe_at (pe_lst (pa_cons (pe_lamcall (x := "_law_caught") (a := "call") (g := gc) (c := cR) (P := pR) (T := tb2 pS pR) (TT := TCaught3 CP CG CN) (k := 6) (t := fun E => tCall (sp_bounds K CG) [] E (tCons (tVar 0) tNil)) (by rfl) hmC hkC lkC hcC hbC sc_law_caught (by rfl) (.inl rfl) (caught3_gives rfl rfl T cW kP kG kN gPP gP gG gNP gNG gNN) TB rfl (List.mem_cons_of_mem _ List.mem_cons_self) (uniT hne) (hr.mono (by decide)) (lamS_by (sc := defScope s_law_right) (by decide +kernel)) (by rfl) (fun _ _ _ _ _ => by rfl) (fun A outer s H E f c' hr' => pe_ownXE h_bounds hr' (by rfl) (passes_call (takes_of rfl rfl rfl rfl) fun _ _ _ _ z => z) (pa_cons (pe_var (i := 0) rfl (.inr (.inr rfl))) pa_nil))) pa_nil))))
      (pss_cons (ps_expr (pe_bm PySem.F.plainAttrs_list PySem.F.slot_list_append PySem.F.type_list_append mt_append (pv 4) (pa_cons (pe_lamcall (x := "_law_caught") (a := "call") (g := gc) (c := cR) (P := pR) (T := tb2 pS pR) (TT := TCaught3 CP CG CN) (k := 6) (t := fun E => tByKwX (["network"] : List Str).length (sp_bounds K CG) E (tCons (tVar 0) tNil)) (by rfl) hmC hkC lkC hcC hbC sc_law_caught (by rfl) (.inl rfl) (caught3_gives rfl rfl T cW kP kG kN gPP gP gG gNP gNG gNN) TB rfl (List.mem_cons_of_mem _ List.mem_cons_self) (uniT hne) (hr.mono (by decide)) (lamS_by (sc := defScope s_law_right) (by decide +kernel)) (by rfl) (fun _ _ _ _ _ => by rfl) (fun A outer s H E f c' hr' => pe_ownKX h_bounds_kw hr' (by rfl) (passes_call (takes_of rfl rfl rfl rfl) fun _ _ _ _ z => z) (pk_cons (pe_var (i := 0) rfl (.inr (.inr rfl))) pk_nil))) pa_nil)))
      (pss_cons (ps_if (pt_cmpR (op_neD hu64) (pe_lamcall (x := "_law_caught") (a := "call") (g := gc) (c := cR) (P := pR) (T := tb2 pS pR) (TT := TCaught3 CP CG CN) (k := 6) (t := fun E => tCall (sp_excess K CP CG CN) [] E _) (by rfl) hmC hkC lkC hcC hbC sc_law_caught (by rfl) (.inl rfl) (caught3_gives rfl rfl T cW kP kG kN gPP gP gG gNP gNG gNN) TB rfl (List.mem_cons_of_mem _ List.mem_cons_self) (uniT hne) (hr.mono (by decide)) (lamS_by (sc := defScope s_law_right) (by decide +kernel)) (by rfl) (fun _ _ _ _ _ => by rfl) (fun A outer s H E f c' hr' => pe_ownXE h_excess hr' (by rfl) (passes_call (takes_of rfl rfl rfl rfl) fun _ _ _ _ z => z) (pa_cons (pe_var (i := 0) rfl (.inr (.inr rfl))) (pa_cons (pe_at (pe_tup (pa_cons (pe_ix (ix_tupK K) (pe_var (i := 0) rfl (.inr (.inr rfl))) pe_int (fun _ _ => rfl)) pa_nil))) pa_nil)))) (pe_at (pe_tup (pa_cons pe_str (pa_cons (pe_at (pe_tup (pa_cons (pe_ix ix_tup (pv 0) pe_int (fun _ _ => rfl)) pa_nil))) pa_nil)))) (nomark _)) (pss_one (ps_ret pe_bl)) pss_nil)
      (pss_cons (ps_if (pt_cmpR (op_neD hu64) (pe_lamcall (x := "_law_caught") (a := "call") (g := gc) (c := cR) (P := pR) (T := tb2 pS pR) (TT := TCaught3 CP CG CN) (k := 6) (t := fun E => tCall (sp_excess K CP CG CN) [] E _) (by rfl) hmC hkC lkC hcC hbC sc_law_caught (by rfl) (.inl rfl) (caught3_gives rfl rfl T cW kP kG kN gPP gP gG gNP gNG gNN) TB rfl (List.mem_cons_of_mem _ List.mem_cons_self) (uniT hne) (hr.mono (by decide)) (lamS_by (sc := defScope s_law_right) (by decide +kernel)) (by rfl) (fun _ _ _ _ _ => by rfl) (fun A outer s H E f c' hr' => pe_ownXE h_excess hr' (by rfl) (passes_call (takes_of rfl rfl rfl rfl) fun _ _ _ _ z => z) (pa_cons (pe_var (i := 0) rfl (.inr (.inr rfl))) (pa_cons (pe_at (pe_lst (pa_cons pe_int pa_nil))) pa_nil)))) (pe_at (pe_tup (pa_cons pe_str (pa_cons (pe_at (pe_lst (pa_cons pe_int pa_nil))) pa_nil)))) (nomark _)) (pss_one (ps_ret pe_bl)) pss_nil)
      (pss_cons (ps_if (pt_cmpR (op_neD hu64) (pv 3) (pe_at (pe_lst pa_nil)) (nomark _)) (pss_cons (ps_set (i := 4) sc_law_right.nd rfl (.inl rfl) (pe_at (pe_op op_cat (pv 4) (pe_at (pe_lst (pa_cons (pe_lamcall (x := "_law_caught") (a := "call") (g := gc) (c := cR) (P := pR) (T := tb2 pS pR) (TT := TCaught3 CP CG CN) (k := 6) (t := fun E => tCall (sp_excess K CP CG CN) [] E _) (by rfl) hmC hkC lkC hcC hbC sc_law_caught (by rfl) (.inl rfl) (caught3_gives rfl rfl T cW kP kG kN gPP gP gG gNP gNG gNN) TB rfl (List.mem_cons_of_mem _ List.mem_cons_self) (uniT hne) (hr.mono (by decide)) (lamS_by (sc := defScope s_law_right) (by decide +kernel)) (by rfl) (fun _ _ _ _ _ => by rfl) (fun A outer s H E f c' hr' => pe_ownXE h_excess hr' (by rfl) (passes_call (takes_of rfl rfl rfl rfl) fun _ _ _ _ z => z) (pa_cons (pe_var (i := 0) rfl (.inr (.inr rfl))) (pa_cons (pe_ix (ix_listK K) (pe_var (i := 1) rfl (.inr (.inr rfl))) pe_int (fun _ _ => rfl)) pa_nil)))) pa_nil))))))
      (pss_one (ps_ret (pe_and (pe_cmpR op_eq (pe_callB (call_repr hG hu64) (by rfl) T.b_repr (by decide +kernel) (pa_cons (pv 4) pa_nil)) (pe_callB (call_repr hG hu64) (by rfl) T.b_repr (by decide +kernel) (pa_cons (pe_at (pe_op op_rep (pe_at (pe_lst (pa_cons (pe_at (pe_tup (pa_cons pe_str (pa_cons (pe_ix ix_list (pv 3) pe_int (fun _ _ => rfl)) pa_nil)))) pa_nil))) pe_int)) pa_nil)) (nomark _)) (pe_one (pe_cmpR op_eq (pe_callB (call_repr hG hu64) (by rfl) T.b_repr (by decide +kernel) (pa_cons (pv 0) pa_nil)) (pv 2) (nomark _))))))) pss_nil)
      (pss_cons (ps_set (i := 5) sc_law_right.nd rfl (.inl rfl) (pe_own h_law_pairs (hr.mono (by decide)) (by rfl) (pa_cons (pv 0) pa_nil)))
      (pss_cons (ps_if (PW.pt (pw_or (pt_cmpR op_ne (pe_callB (call_repr hG hu64) (by rfl) T.b_repr (by decide +kernel) (pa_cons (pv 4) pa_nil)) (pe_callB (call_repr hG hu64) (by rfl) T.b_repr (by decide +kernel) (pa_cons (pe_at (pe_op op_rep (pe_at (pe_lst (pa_cons (pe_at (pe_tup (pa_cons pe_str (pa_cons (pv 5) pa_nil)))) pa_nil))) pe_int)) pa_nil)) (nomark _)) (pw_or1 (pt_not (pt_val (pe_ownG hG h_law_sets_right (hr.mono (by decide)) (by rfl) (pa_cons (pv 0) (pa_cons (pv 5) (pa_cons (pv 1) pa_nil))))))))) (pss_one (ps_ret pe_bl)) pss_nil)
      (pss_one (ps_ret (pe_cmpR op_eq (pe_callB (call_repr hG hu64) (by rfl) T.b_repr (by decide +kernel) (pa_cons (pv 0) pa_nil)) (pv 2) (nomark _)))))))))))), ?_⟩
    refine ⟨_, rfl, na, _, rfl, dp_net hN, hnet.1, hnet.2.1, hnet.2.2.1, hnet.2.2.2, ?_⟩
    refine ⟨_, rfl, na, N, rfl, hN, ok, fun A1 wl gs r1 fw aw hG1 => ?_⟩
    have U1 := upB r1 hTab
    have e01 := extN_of r1
    -- told
    refine ⟨_, _, rfl, U1, fun A2 e2 U2 => caught_bo (extNet (e01.trans e2) hN) ok (fun E' Q' z => ⟨_, rfl, z⟩) fun A3 t1 r3 f3 b1 => ?_⟩
    refine ⟨(by show 1 ≤ sizeLine; decide), alloc fun l A4 r4 f4 a4 => ?_⟩
    have x4 : ExtN H A4 := (e01.trans e2).trans ((extN_of r3).trans (extN_of r4))
    refine ⟨_, rfl, .inl ⟨rfl, _, SqL.of a4⟩, upB r4 (upB r3 U2), fun A5 e5 U5 => caught_bo (extNet (x4.trans e5) hN) ok (fun E' Q' z => ⟨_, rfl, rfl, z⟩) fun A6 t2 r6 f6 b2 => ?_⟩
    have a6 : A6 l = some (.lst [.ref t1]) := r6 _ _ (ext1 e5 a4)
    have b16 : ToldB K A6 t1 N := b1.keep ((r4.keepT.trans (ext_keepT e5)).trans r6.keepT)
    refine ⟨l, _, _, rfl, rfl, a6, (by show 1 < sizeLine; decide), ?_⟩
    have e06 : ExtN H A6 := (x4.trans e5).trans (extN_of r6)
    have kU : KeepT A6 (upd A6 l (.lst ([.ref t1] ++ [.ref t2]))) := keepT_upd_lst a6
    have x7 : ExtN H (upd A6 l (.lst ([.ref t1] ++ [.ref t2]))) := ext_upd ((e01.trans e2).trans (extN_of r3)) f4 e06
    have U7 : Tabs (tb2 pS pR) (upd A6 l (.lst ([.ref t1] ++ [.ref t2]))) := tabs_upd (upB r6 U5) a6
    have al7 : upd A6 l (.lst ([.ref t1] ++ [.ref t2])) l = some (.lst [.ref t1, .ref t2]) := upd_same
    have b17 := b16.keep kU
    have b27 := b2.keep kU
    have nwl : wl ≠ l := fun z => by
      have := (r3 _ _ (ext1 e2 aw))
      rw [z, f4] at this
      cases this
    have aw7 : upd A6 l (.lst ([.ref t1] ++ [.ref t2])) wl = some (.lst (gs.map V.ref)) := by
      rw [upd_ne nwl]
      exact r6 _ _ (ext1 e5 (r4 _ _ (r3 _ _ (ext1 e2 aw))))
    have hG7 : Paired (fun g x => SqT K (upd A6 l (.lst ([.ref t1] ++ [.ref t2]))) g ((comp (OEdge N.tubes none) N.many x).map natV)) gs (wrongs N) := Paired.mapP hG1 fun g x h => kU.seq (((((ext_keepT e2).trans r3.keepT).trans r4.keepT).trans ((ext_keepT e5).trans r6.keepT)).seq (SqT.of h))
    generalize upd A6 l (.lst ([.ref t1] ++ [.ref t2])) = A7 at x7 U7 al7 b17 b27 aw7 hG7
    clear kU e06 b16 a6 b2 r6 f6 U5 e5 x4 a4 r4 f4 b1 r3 f3 U2 e2 e01 U1 hG1 aw r1
    -- excess(net, (net[1],))
    refine ⟨U7, fun A8 e8 U8 => ?_⟩
    have x8 := x7.trans e8
    obtain ⟨b8, xs8, ha8, _, _⟩ := extNet x8 hN
    refine caught_bad (o := .tup [.int N.many]) (extNet x8 hN) ok (fun H1 v hv => .inl ⟨v, _, rfl, SqT.of hv, kinds_nats [N.many], ?_⟩) (fun E' Q' z => ⟨_, rfl, _, rfl, na, _, 1, _, rfl, rfl, ha8, atI_nat (j := 1) rfl, (by show 1 ≤ sizeLine; decide), alloc fun v A9 r9 f9 a9 => z A9 v r9 a9⟩) fun B0 t3 v r9 g0 hv c0 => ?_
    · show false = (decide ((0 : Int) ≤ (N.many : Int)) && decide ((N.many : Int) ≤ (N.many : Int) - 1) && true)
      rw [decide_eq_false (by omega : ¬ (N.many : Int) ≤ (N.many : Int) - 1)]
      simp
    refine ⟨_, rfl, na, _, 1, _, rfl, rfl, upT r9 ha8, atI_nat (j := 1) rfl, (by show 1 ≤ sizeLine; decide), alloc fun u B1 r10 f10 a10 => ⟨(by show 2 ≤ sizeLine; decide), alloc fun d B2 r11 f11 a11 => ?_⟩⟩
    refine ⟨_, _, .tup (SqT.of (r11 _ _ (r10 _ _ c0))) (.cons (.str _) (.cons (.tup (SqT.of (r11 _ _ (r10 _ _ hv))) (.cons (.int _) .nil)) .nil)), .tup (SqT.of a11) (.cons (.str _) (.cons (.tup (SqT.of (r11 _ _ a10)) (.cons (.int _) .nil)) .nil)), shaped_place _, shaped_place _, _, rfl, ?_⟩
    rw [eqv_place]
    refine iteF ?_
    have x12 := x8.trans (extN_of ((r9.trans r10).trans r11))
    have U12 := upB ((r9.trans r10).trans r11) U8
    have y12 : KeepT A7 B2 := (ext_keepT e8).trans ((r9.trans r10).trans r11).keepT
    have z12 : ExtN A7 B2 := e8.trans (extN_of ((r9.trans r10).trans r11))
    have b112 := b17.keep y12
    have b212 := b27.keep y12
    have al12 := ext1 z12 al7
    have aw12 := ext1 z12 aw7
    have hG12 : Paired (fun g x => SqT K B2 g ((comp (OEdge N.tubes none) N.many x).map natV)) gs (wrongs N) := Paired.mapP hG7 fun g x h => y12.seq h
    clear b17 b27 al7 aw7 hG7 z12 y12 x7 U7
    -- excess(net, [0])
    refine ⟨U12, fun A8 e8 U8 => ?_⟩
    have x8 := x12.trans e8
    have lt : PySem.W.kitOne K (.type "list") (.type "tuple") = some false := kit_ty (by decide +kernel)
    refine caught_bad (o := .lst [.int 0]) (extNet x8 hN) ok (fun H1 v hv => .inr ⟨_, .base (.lst hv), lt, rfl⟩) (fun E' Q' z => ⟨_, rfl, (by show 1 ≤ sizeLine; decide), alloc fun v A9 r9 f9 a9 => z A9 v r9 a9⟩) fun B0 t4 v r9 g0 hv c0 => ?_
    refine ⟨(by show 1 ≤ sizeLine; decide), alloc fun u B1 r10 f10 a10 => ⟨(by show 2 ≤ sizeLine; decide), alloc fun d B3 r11 f11 a11 => ?_⟩⟩
    refine ⟨_, _, .tup (SqT.of (r11 _ _ (r10 _ _ c0))) (.cons (.str _) (.cons (.lst (SqL.of (r11 _ _ (r10 _ _ hv))) (.cons (.int _) .nil)) .nil)), .tup (SqT.of a11) (.cons (.str _) (.cons (.lst (SqL.of (r11 _ _ a10)) (.cons (.int _) .nil)) .nil)), (by decide +kernel), (by decide +kernel), _, rfl, ?_⟩
    have ez : PyData.eqv (.tuple [.str "places", .list [.int 0]]) (.tuple [.str "places", .list [.int 0]]) = true := by decide +kernel
    rw [ez]
    refine iteF ?_
    have x13 := x8.trans (extN_of ((r9.trans r10).trans r11))
    have U13 := upB ((r9.trans r10).trans r11) U8
    have y13 : KeepT B2 B3 := (ext_keepT e8).trans ((r9.trans r10).trans r11).keepT
    have z13 : ExtN B2 B3 := e8.trans (extN_of ((r9.trans r10).trans r11))
    have b113 := b112.keep y13
    have b213 := b212.keep y13
    have al13 := ext1 z13 al12
    have aw13 := ext1 z13 aw12
    have hG13 : Paired (fun g x => SqT K B3 g ((comp (OEdge N.tubes none) N.many x).map natV)) gs (wrongs N) := Paired.mapP hG12 fun g x h => y13.seq h
    clear b112 b212 al12 aw12 hG12 z13 y13 x12 U12
    -- if wrong != []
    refine ⟨_, rfl, Nat.zero_le _, alloc fun e0 A7 r7 f7 a7 => ?_⟩
    refine ⟨.list ((wrongs N).map fun x => natsD (comp (OEdge N.tubes none) N.many x)), .list [], .lst (SqL.of (r7 _ _ aw13)) (dp_cl5 (Paired.mapP hG13 fun g x h => upT r7 h)), .lst (SqL.of a7) .nil, shaped_listOf (fun d hd => ?_), (by decide +kernel), _, rfl, ?_⟩
    · obtain ⟨x, _, rfl⟩ := List.mem_map.mp hd
      exact ⟨(nats_can _).1, Nat.le_trans (nats_can _).2 (by decide)⟩
    rw [eqv_nil]
    have x7 := x13.trans (extN_of r7)
    have U7 := upB r7 U13
    refine ite2 (fun c => ?_) (fun c => ?_)
    · obtain ⟨x, xr, hwx⟩ : ∃ x xr, wrongs N = x :: xr := by
        cases e : wrongs N with
        | nil => rw [e] at c; exact absurd c (by simp)
        | cons x xr => exact ⟨x, xr, rfl⟩
      have hx : (wrongs N).head? = some x := by rw [hwx]; rfl
      obtain ⟨g0, hg0, hgx⟩ : ∃ g0, gs[0]? = some g0 ∧ SqT K B3 g0 ((comp (OEdge N.tubes none) N.many x).map natV) := by
        rw [hwx] at hG13
        cases hG13 with
        | cons r h => exact ⟨_, rfl, r⟩
      obtain ⟨t0, S0, ht0, hS0, hm0⟩ : ∃ t0 S0, ts[0]? = some t0 ∧ SqT K H t0 (S0.map natV) ∧ S0 ∈ Ss := by
        cases hSs with
        | nil => exact absurd rfl hSe
        | cons r h => exact ⟨_, _, rfl, r, List.mem_cons_self⟩
      refine ⟨_, rfl, U7, fun A8 e8 U8 => ?_⟩
      have x8 := x7.trans e8
      refine caught_sum (extNet x8 hN) ok hx (extT x8 hS0) (hset S0 hm0) (fun E' Q' z => ⟨_, rfl, _, rfl, la, _, 0, _, rfl, rfl, extL x8 hla, atI_nat (j := 0) (v := V.ref t0) (by rw [List.getElem?_map, ht0]; rfl), z⟩) fun A9 t5 r9 f9 b9 => ?_
      have z39 : ExtN B3 A9 := (extN_of r7).trans (e8.trans (extN_of r9))
      refine ⟨(by show 1 ≤ sizeLine; decide), alloc fun l2 C0 r10 f10 a10 => ⟨l, l2, _, _, rfl, rfl, r10 _ _ (ext1 z39 al13), a10, (by show 2 + 1 ≤ sizeLine; decide), alloc fun l3 C1 r11 f11 a11 => ?_⟩⟩
      have zC1 : ExtN B3 C1 := z39.trans (extN_of (r10.trans r11))
      have yC1 := ext_keepT zC1
      have rp := rep_three5 (shw_toldD ok) (by decide) (by decide)
      refine ⟨_, rfl, l3, _, rfl, .lst (SqL.of a11) (.cons (dp_toldB (b113.keep yC1)) (.cons (dp_toldB (b213.keep yC1)) (.cons (dp_toldB (b9.keep (r10.trans r11).keepT)) .nil))), rp.1, rp.2.1, rp.2.2.1, rp.2.2.2, ?_⟩
      refine ⟨_, rfl, wl, _, 0, _, rfl, rfl, SqL.of (ext1 zC1 aw13), atI_nat (j := 0) (v := V.ref g0) (by rw [List.getElem?_map, hg0]; rfl), (by show 2 ≤ sizeLine; decide), alloc fun u C2 r12 f12 a12 => ⟨(by show 1 ≤ sizeLine; decide), alloc fun ul C3 r13 f13 a13 => ?_⟩⟩
      refine ⟨ul, 3, _, rfl, rfl, a13, by decide, by decide, (by show 1 * 3 ≤ sizeLine; decide), alloc fun u3 C4 r14 f14 a14 => ?_⟩
      have a14' : C4 u3 = some (.lst [.ref u, .ref u, .ref u]) := a14
      have tu : ToldB K C4 u N := .inr ⟨x, hx, g0, SqT.of (r14 _ _ (r13 _ _ a12)), upT ((r12.trans r13).trans r14) (yC1.seq hgx)⟩
      have x14 : ExtN H C4 := (x13.trans zC1).trans (extN_of ((r12.trans r13).trans r14))
      have U14 : Tabs (tb2 pS pR) C4 := upB ((r12.trans r13).trans r14) (upB (r10.trans r11) (upB r9 U8))
      refine ⟨u3, _, rfl, .lst (SqL.of a14') (.cons (dp_toldB tu) (.cons (dp_toldB tu) (.cons (dp_toldB tu) .nil))), rp.1, rp.2.1, rp.2.2.1, rp.2.2.2, rfl, true, congrArg V.bl (decide_eq_true rfl), ?_⟩
      refine ⟨_, rfl, na, _, rfl, dp_net (extNet x14 hN), hnet.1, hnet.2.1, hnet.2.2.1, hnet.2.2.2, _, rfl, rfl, ?_⟩
      rw [decide_eq_true rfl]
      exact q C4 x14 U14
    · have hw0 : wrongs N = [] := by
        cases e : wrongs N with
        | nil => rfl
        | cons x xr => rw [e] at c; exact absurd rfl c
      have calm := calm_iff.mpr hw0
      refine ⟨_, rfl, na, N, rfl, extNet x7 hN, ok, fun C0 pt ws r8 fp ap hB8 => ?_⟩
      have z38 : ExtN B3 C0 := extN_of (r7.trans r8)
      have y38 := ext_keepT z38
      have rp := rep_two5 (shw_toldD ok) (by decide) (by decide)
      refine ⟨_, rfl, l, _, rfl, .lst (SqL.of (ext1 z38 al13)) (.cons (dp_toldB (b113.keep y38)) (.cons (dp_toldB (b213.keep y38)) .nil)), rp.1, rp.2.1, rp.2.2.1, rp.2.2.2, ?_⟩
      refine ⟨_, rfl, (by show 2 ≤ sizeLine; decide), alloc fun u C2 r12 f12 a12 => ⟨(by show 1 ≤ sizeLine; decide), alloc fun ul C3 r13 f13 a13 => ?_⟩⟩
      refine ⟨ul, 2, _, rfl, rfl, a13, by decide, by decide, (by show 1 * 2 ≤ sizeLine; decide), alloc fun u3 C4 r14 f14 a14 => ?_⟩
      have a14' : C4 u3 = some (.lst [.ref u, .ref u]) := a14
      have r84 := (r12.trans r13).trans r14
      have tu : ToldB K C4 u N := .inl ⟨hw0, pt, ws, SqT.of (r14 _ _ (r13 _ _ a12)), SqT.of (r84 _ _ ap), BndsV.keep r84.keepT hB8⟩
      have x14 : ExtN H C4 := x7.trans (extN_of (r8.trans r84))
      have U14 : Tabs (tb2 pS pR) C4 := upB (r8.trans r84) U7
      refine ⟨u3, _, rfl, .lst (SqL.of a14') (.cons (dp_toldB tu) (.cons (dp_toldB tu) .nil)), rp.1, rp.2.1, rp.2.2.1, rp.2.2.2, rfl, _, rfl, ?_⟩
      rw [decide_eq_true rfl]
      refine iteF ?_
      refine ⟨_, rfl, _, rfl, _, rfl, na, pt, la, N, ws, ts, Ss, rfl, extNet x14 hN, ok, calm, SqT.of (r84 _ _ ap), BndsV.keep r84.keepT hB8, extL x14 hla, Paired.mapP hSs (fun t S h => extT x14 h), hset, U14, fun C9 x9 U9 => ⟨true, rfl, iteF ?_⟩⟩
      have x19 := x14.trans x9
      refine ⟨_, rfl, na, _, rfl, dp_net (extNet x19 hN), hnet.1, hnet.2.1, hnet.2.2.1, hnet.2.2.2, _, rfl, rfl, ?_⟩
      rw [decide_eq_true rfl]
      exact q C9 x19 U9
end
end Wc

set_option Elab.async false
set_option linter.all false
set_option maxRecDepth 100000
/-! A network, as drawn, or with one to three pipes otherwise. -/
namespace Wc
open PySem PySem.Spec PyProof.Rows L2
section
variable {P : Program} {w : World} {K : PySem.W.Frag} {mg : Str → Option Value} {base : Heap}
abbrev s_law_any_net : Stmt := top 43
theorem sc_law_any_net : FnScope ["m", "many", "rings", "more", "net", "n"] ["m", "many", "rings", "more"] (defScope s_law_any_net) := ⟨rfl, rfl, rfl, by decide +kernel, rfl, by decide +kernel, by decide +kernel⟩
def sp_law_any_net (K : PySem.W.Frag) : Sp := fun vs H Q _ => ∃ (a c g : Addr) (r many rings more : Nat), vs = [.ref a, .int many, .int rings, .int more] ∧ MS H a c g (r + 3100) ∧ 1 ≤ many ∧ many ≤ 24 ∧ rings ≤ 15 ∧ more ≤ 20 ∧ 4 * rings + more ≤ 60 ∧
  ∀ H' na N, Dr a g H H' → MS H' a c g r → NetAt K H' na N → NetOk N → N.many = many → Q (.ref na) H'
theorem has_law_any_net (D : DefAt K mg "_law_any_net" s_law_any_net ["m", "many", "rings", "more"]) (T : Blt mg) (h_law_draw : Has P w K mg base "_law_draw" 2 ["m", "top"] sp_law_draw) (h_law_net : Has P w K mg base "_law_net" 5 ["m", "many", "rings", "more"] (sp_law_net K))
    (h_law_bent : Has P w K mg base "_law_bent" 3 ["m", "net"] (sp_law_bent K)) : Has P w K mg base "_law_any_net" 6 ["m", "many", "rings", "more"] (sp_law_any_net K) := by
  refine D.ok sc_law_any_net (fun vs H Q E h => ?_) (fun f cdv A outer s H vs Q E hr h => ?_)
  · obtain ⟨a, c, g, r, many, rings, more, rfl, _⟩ := h
    rfl
  · obtain ⟨a, c, g, r, many, rings, more, rfl, ms, h1, h2, h3, h4, h5, q⟩ := h
    refine ⟨_, (pss_cons (ps_set (i := 4) sc_law_any_net.nd rfl (.inl rfl) (pe_ix ix_tup (pe_own h_law_net (hr.mono (by decide)) (by rfl) (pa_cons (pv 0) (pa_cons (pv 1) (pa_cons (pv 2) (pa_cons (pv 3) pa_nil))))) pe_int (fun _ _ => rfl)))
      (pss_cons (ps_for PassesOwn.never rfl (pi_range1 (by rfl) T.b_range (pa_cons (pe_ix ix_list (pe_lst (pa_cons pe_int (pa_cons pe_int (pa_cons pe_int (pa_cons pe_int pa_nil))))) (pe_own h_law_draw (hr.mono (by decide)) (by rfl) (pa_cons (pv 0) (pa_cons pe_int pa_nil))) (fun _ _ => rfl)) pa_nil)) (pg_name (i := 5) sc_law_any_net.nd rfl (.inl rfl)) (pss_one (ps_set (i := 4) sc_law_any_net.nd rfl (.inl rfl) (pe_own h_law_bent (hr.mono (by decide)) (by rfl) (pa_cons (pv 0) (pa_cons (pv 4) pa_nil))))))
      (pss_one (ps_ret (pv 4))))), ?_⟩
    refine ⟨_, rfl, _, rfl, _, rfl, _, rfl, a, c, g, r + 100, many, rings, more, rfl, ms.le (by omega), h1, h2, h3, h4, h5, fun H1 p na ca N fs d1 ms1 hp hN ok hm _ _ _ => ?_⟩
    refine ⟨p, _, 0, _, rfl, rfl, SqT.of hp, atI_nat (j := 0) rfl, ?_⟩
    refine ⟨(by show 4 ≤ sizeLine; decide), fun l hl => ?_⟩
    refine ⟨_, rfl, a, c, g, r + 99, 4, rfl, ms1.same (same_upd hl), by decide, by decide, fun H2 x d2 ms2 hx0 hx1 => ?_⟩
    have hl2 := d2 l _ (ms1.fa hl) (ms1.fg hl) upd_same
    obtain ⟨v, hv, hmem, _⟩ := atI_in (xs := [V.int 0, .int 1, .int 1, .int 3]) hx0 hx1
    refine ⟨l, _, x, v, rfl, rfl, SqL.of hl2, hv, ?_⟩
    have hN2 : NetAt K H2 na N := (hN.keep (same_upd hl).keepT).keep (Dr.keepT (ms1.same (same_upd hl)) d2)
    have d12 : Dr a g H H2 := (d1.trans (Dr.same (same_upd hl))).trans d2
    obtain ⟨n, rfl, hn⟩ : ∃ n : Nat, v = .int (n : Int) ∧ n ≤ 3 := by
      simp only [List.mem_cons, List.not_mem_nil, or_false] at hmem
      rcases hmem with rfl | rfl | rfl | rfl
      · exact ⟨0, rfl, by decide⟩
      · exact ⟨1, rfl, by decide⟩
      · exact ⟨1, rfl, by decide⟩
      · exact ⟨3, rfl, by decide⟩
    refine ⟨(n : Int), rfl, by omega, by omega, ?_⟩
    refine for_range (lo := 0) (n := ((n : Int)).toNat) (fun i σ H' => ∃ na N y, σ = [some (.ref a), some (.int many), some (.int rings), some (.int more), some (.ref na), y] ∧ Dr a g H H' ∧ MS H' a c g (r + 99 - 4 * i) ∧ NetAt K H' na N ∧ NetOk N ∧ N.many = many)
      ⟨na, N, none, rfl, d12, ms2, hN2, ok, hm⟩ ?_ ?_
    · rintro i σ H3 hi ⟨na', N', y, rfl, d3, ms3, hN3, ok3, hm3⟩
      refine ⟨_, rfl, _, rfl, a, c, g, na', r + 99 - 4 * (i + 1), N', rfl, ms3.le (by omega), hN3, ok3, fun H4 pa N4 d4 ms4 hN4 ok4 hb4 hm4 => ?_⟩
      exact ⟨pa, N4, _, rfl, d3.trans d4, ms4, hN4, ok4, hm4.trans hm3⟩
    · rintro σ H3 ⟨na', N', y, rfl, d3, ms3, hN3, ok3, hm3⟩
      exact ⟨_, rfl, q H3 na' N' d3 (ms3.le (by omega)) hN3 ok3 hm3⟩
end
end Wc

set_option Elab.async false
set_option linter.all false
set_option maxRecDepth 100000
/-! A network with narrower limits. -/
namespace Wc
open PySem PySem.Spec PyProof PyProof.Rows L2
local macro_rules | `(tactic| walk_at "up") => `(tactic| first | with_reducible assumption | (refine up1 (by with_reducible assumption) ?_; walk_at "up") | (refine SqT.of ?_; walk_at "up") | (refine SqL.of ?_; walk_at "up") | (refine upT (by with_reducible assumption) ?_; walk_at "up") | (refine upL (by with_reducible assumption) ?_; walk_at "up") | (refine upN (by with_reducible assumption) ?_; walk_at "up"))
theorem set_splice {α : Type} {l : List α} {k : Nat} {y : α} (hk : k < l.length) : l.set k y = l.take k ++ [y] ++ l.drop (k + 1) := by
  rw [List.set_eq_take_append_cons_drop, if_pos hk, List.append_assoc]
  rfl
theorem paired_set {α β : Type} {F : α → β → Prop} {l : List α} {m : List β} {x : α} {y : β} (h : Paired F l m) {k : Nat} (hk : k < m.length) (r : F x y) : Paired F (l.set k x) (m.set k y) := by
  rw [set_splice hk, set_splice (by rw [Paired.length h]; exact hk)]
  exact paired_splice h k r
theorem ms_fc {H : Hp} {a c g b : Addr} {r : Nat} (h : MS H a c g r) (e : H b = none) : b ≠ c := by
  obtain ⟨⟨n, cells, gs, h1, h2, _⟩, _⟩ := h
  rintro rfl
  rw [h2] at e
  cases e
theorem ms_upd {H : Hp} {a c g b : Addr} {r : Nat} {o : HO} (h : MS H a c g r) (ha : b ≠ a) (hc : b ≠ c) (hg : b ≠ g) : MS (upd H b o) a c g r := by
  obtain ⟨⟨n, cells, gs, h1, h2, h3, h4⟩, h5⟩ := h
  exact ⟨⟨n, cells, gs, by rw [upd_ne (Ne.symm ha)]; exact h1, by rw [upd_ne (Ne.symm hc)]; exact h2, by rw [upd_ne (Ne.symm hg)]; exact h3, h4⟩, h5⟩
theorem ok_narrow {N : Net} {ts : List Tube} (ok : NetOk ⟨N.base, N.many, ts⟩) {k : Nat} {p p' : Tube} (hp : ts[k]? = some p) (okn : TubeOk N.base N.many p') (wdn : p'.wide = true → p.wide = true ∧ p.s = p'.s ∧ p.t = p'.t) : NetOk ⟨N.base, N.many, ts.set k p'⟩ := by
  rw [set_splice (List.getElem?_eq_some_iff.mp hp).1]
  exact net_splice ok hp okn wdn
section
variable {P : Program} {w : World} {K : PySem.W.Frag} {mg : Str → Option Value} {base : Heap}
abbrev s_law_narrowed : Stmt := top 60
theorem sc_law_narrowed : FnScope ["m", "net", "tubes", "n", "at", "source", "target", "low", "high", "meter"] ["m", "net"] (defScope s_law_narrowed) := ⟨rfl, rfl, rfl, by decide +kernel, rfl, by decide +kernel, by decide +kernel⟩
def sp_law_narrowed (K : PySem.W.Frag) : Sp := fun vs H Q _ => ∃ (a c g na : Addr) (r : Nat) (N : Net), vs = [.ref a, .ref na] ∧ MS H a c g (r + 6) ∧ NetAt K H na N ∧ NetOk N ∧
  ∀ H' pa N', Dr a g H H' → MS H' a c g r → NetAt K H' pa N' → NetOk N' → N'.many = N.many → Q (.ref pa) H'
set_option maxHeartbeats 4000000 in
theorem has_law_narrowed (D : DefAt K mg "_law_narrowed" s_law_narrowed ["m", "net"]) (T : Blt mg) (h_law_draw : Has P w K mg base "_law_draw" 2 ["m", "top"] sp_law_draw) :
    Has P w K mg base "_law_narrowed" 3 ["m", "net"] (sp_law_narrowed K) := by
  refine D.ok sc_law_narrowed (fun vs H Q E h => ?_) (fun f cdv A outer s H vs Q E hr h => ?_)
  · obtain ⟨a, c, g, na, r, N, rfl, _⟩ := h
    rfl
  · obtain ⟨a, c, g, na, r, N, rfl, ms, hN, ok, q⟩ := h
    have hu64 := hr.b64
    obtain ⟨b, xs, ha, hb, hts⟩ := id hN
    have hxl : xs.length = N.tubes.length := Paired.length hts
    have hlen := ok.len
    refine ⟨_, (pss_cons (ps_set (i := 2) sc_law_narrowed.nd rfl (.inl rfl) (pe_at (pe_callTy call_list_of (by rfl) T.b_list (by decide +kernel) (pa_cons (pe_ix ix_tup (pv 1) pe_int (fun _ _ => rfl)) pa_nil))))
      (pss_cons (ps_for PassesOwn.never rfl (pi_range1 (by rfl) T.b_range (pa_cons (pe_ifExp (pt_cmpR (op_neD hu64) (pv 2) (pe_at (pe_lst pa_nil)) (nomark _)) pe_int pe_int) pa_nil)) (pg_name (i := 3) sc_law_narrowed.nd rfl (.inl rfl)) (pss_cons (ps_set (i := 4) sc_law_narrowed.nd rfl (.inl rfl) (pe_own h_law_draw (hr.mono (by decide)) (by rfl) (pa_cons (pv 0) (pa_cons (pe_callB call_len_seq (by rfl) T.b_len (by decide +kernel) (pa_cons (pv 2) pa_nil)) pa_nil))))
      (pss_cons (ps_asg (pe_ix ix_list (pv 2) (pv 4) (fun _ _ => rfl)) (pg_tup rfl (pgs_cons (pg_name (i := 5) sc_law_narrowed.nd rfl (.inl rfl)) (pgs_cons (pg_name (i := 6) sc_law_narrowed.nd rfl (.inl rfl)) (pgs_cons (pg_name (i := 7) sc_law_narrowed.nd rfl (.inl rfl)) (pgs_cons (pg_name (i := 8) sc_law_narrowed.nd rfl (.inl rfl)) (pgs_cons (pg_name (i := 9) sc_law_narrowed.nd rfl (.inl rfl)) pgs_nil)))))))
      (pss_cons (ps_set (i := 7) sc_law_narrowed.nd rfl (.inl rfl) (pe_op op_add (pv 7) (pe_own h_law_draw (hr.mono (by decide)) (by rfl) (pa_cons (pv 0) (pa_cons (pe_op op_add (pe_op op_sub (pv 8) (pv 7)) pe_int) pa_nil)))))
      (pss_cons (ps_set (i := 8) sc_law_narrowed.nd rfl (.inl rfl) (pe_op op_add (pv 7) (pe_callB (call_min2 rfl) (by rfl) T.b_min (by decide +kernel) (pa_cons (pe_op op_sub (pv 8) (pv 7)) (pa_cons (pe_own h_law_draw (hr.mono (by decide)) (by rfl) (pa_cons (pv 0) (pa_cons (pe_ix ix_tup (pv 1) pe_int (fun _ _ => rfl)) pa_nil))) pa_nil)))))
      (pss_one (ps_if (PW.pt (pw_or (pt_cmpR op_notN (pv 9) pe_non (nomark _)) (pw_or1 (pt_cmpR op_lt (pv 7) (pv 8) (nomark _))))) (pss_one (ps_asg (pe_at (pe_tup (pa_cons (pv 5) (pa_cons (pv 6) (pa_cons (pv 7) (pa_cons (pv 8) (pa_cons (pv 9) pa_nil))))))) (pg_sub (pv 2) (pv 4) set_list))) pss_nil)))))))
      (pss_one (ps_ret (pe_at (pe_op op_catA (pe_at (pe_slice sl_tupA (pv 1) po_none (po_some pe_int))) (pe_at (pe_tup (pa_cons (pe_at (pe_callTy call_tuple_of (by rfl) T.b_tuple (by decide +kernel) (pa_cons (pv 2) pa_nil))) pa_nil))))))))), ?_⟩
    refine ⟨_, rfl, na, _, 2, _, rfl, rfl, ha, atI_nat (j := 2) rfl, b, xs, rfl, .inr hb, alloc fun tb H1 s1 f1 a1 => ?_⟩
    refine ⟨_, rfl, Nat.zero_le _, alloc fun e0 H2 s2 f2 a2 => ?_⟩
    have s02 := s1.trans s2
    refine ⟨.list (N.tubes.map tubeD), .list [], .lst (SqL.of (s2 _ _ a1)) (dp_tubes (Paired.mapP hts fun _ _ h => h.keep s02.keepT)), .lst (SqL.of a2) .nil, shaped_listOf (fun d hd => ?_), (by decide +kernel), _, rfl, ?_⟩
    · obtain ⟨p, _, rfl⟩ := List.mem_map.mp hd
      exact ⟨(tube_can p).1, Nat.le_trans (tube_can p).2 (by decide)⟩
    rw [eqv_nil]
    have ms2 := ms.same s02
    have d2 : Dr a g H H2 := Dr.same s02
    have tb2 := s2 _ _ a1
    have hbA := upT s02 hb
    have haA := upT s02 ha
    have htsA : Paired (TubeAt K H2) xs N.tubes := Paired.mapP hts fun _ _ h => h.keep s02.keepT
    refine ite2 (fun c0 => ⟨2, rfl, by decide, by decide, ?g1⟩) (fun c0 => ⟨0, rfl, by decide, by decide, ?g2⟩)
    case' g1 =>
      have hpos : ∀ i : Nat, i < (2 : Int).toNat → i < 2 ∧ 0 < N.tubes.length := fun i hi => ⟨hi, by
        cases z : N.tubes with
        | nil => rw [z] at c0; exact absurd c0 (by decide)
        | cons p r => exact Nat.succ_pos _⟩
    case' g2 =>
      have hpos : ∀ i : Nat, i < (0 : Int).toNat → i < 2 ∧ 0 < N.tubes.length := fun i hi => absurd hi (Nat.not_lt_zero i)
    all_goals
      refine for_range (lo := 0) (fun i σ H' => ∃ ts ys y3 y4 y5 y6 y7 y8 y9, σ = [some (.ref a), some (.ref na), some (.ref tb), y3, y4, y5, y6, y7, y8, y9] ∧ Dr a g H H' ∧ MS H' a c g (r + 6 - 3 * i) ∧ H' tb = some (.lst ys) ∧ Paired (TubeAt K H') ys ts ∧ ts.length = N.tubes.length ∧ NetOk ⟨N.base, N.many, ts⟩ ∧ KeepT H H') ⟨N.tubes, xs, none, none, none, none, none, none, none, rfl, d2, ms2, tb2, htsA, rfl, ok, s02.keepT⟩ ?_ ?_
      · rintro i σ H3 hi ⟨ts, ys, y3, y4, y5, y6, y7, y8, y9, rfl, d3, ms3, tb3, hts3, hl3, ok3, k3⟩
        obtain ⟨hi2, hpl⟩ := hpos i hi
        have hyl : ys.length = N.tubes.length := by rw [Paired.length hts3, hl3]
        have f1a : tb ≠ a := ms.fa f1
        have f1g : tb ≠ g := ms.fg f1
        have f1c : tb ≠ c := ms_fc ms f1
        refine ⟨_, rfl, _, rfl, tb, ys, rfl, .inl (SqL.of tb3), a, c, g, _, _, rfl, ms3.le (r' := r + 6 - 3 * (i + 1) + 2 + 1) (by omega), by omega, by omega, fun H4 x d4 ms4 hx0 hx1 => ?_⟩
        obtain ⟨k, rfl⟩ := Int.eq_ofNat_of_zero_le hx0
        have hk : k < ts.length := by omega
        have hts4 : Paired (TubeAt K H4) ys ts := Paired.mapP hts3 fun _ _ h => h.keep (d4.keepT ms3)
        obtain ⟨a1, p, hxk, hpk, hpa⟩ := both_at hts4 hk
        have okp := ok3.ok p (List.mem_of_getElem? hpk)
        have o1 := okp.lo
        have o2 := okp.lh
        have o3 := okp.hi
        have tb4 : H4 tb = some (.lst ys) := d4 _ _ f1a f1g tb3
        refine ⟨_, rfl, _, rfl, tb, ys, (k : Int), .ref a1, rfl, rfl, SqL.of tb4, atI_nat (j := k) hxk, a1, _, rfl, hpa, rfl, _, _, rfl, _, _, rfl, _, _, rfl, _, _, rfl, _, _, rfl, rfl, ?_⟩
        show (_ : L2.St → Hp → Prop) [some (.ref a), some (.ref na), some (.ref tb), some (.int (0 + (i : Nat))), some (.int (k : Int)), some (.int p.s), some (.int p.t), some (.int p.lo), some (.int p.hi), some (optV p.me)] H4
        refine ⟨_, rfl, _, rfl, _, rfl, _, rfl, _, _, rfl, rfl, _, _, rfl, rfl, a, c, g, r + 6 - 3 * (i + 1) + 1, _, rfl, ms4.le (by omega), by show (0 : Int) < p.hi - p.lo + 1; omega, by show p.hi - p.lo + 1 < 1073741824; omega, fun H5 x1 d5 ms5 h10 h11 => ?_⟩
        refine ⟨_, _, rfl, rfl, ?_⟩
        have ha5 := (((k3.trans (d4.keepT ms3)).trans (d5.keepT ms4))).seq ha
        have hb2 := ok.b2
        have hb6 := ok.b6
        refine ⟨_, rfl, _, rfl, _, rfl, _, _, rfl, rfl, _, rfl, _, rfl, na, _, 0, _, rfl, rfl, ha5, atI_nat (j := 0) rfl, a, c, g, r + 6 - 3 * (i + 1), N.base, rfl, ms5.le (by omega), by omega, by omega, fun H6 x2 d6 ms6 h20 h21 => ⟨_, _, rfl, _, _, rfl, rfl, ?_⟩⟩
        have tb6 : H6 tb = some (.lst ys) := d6 _ _ f1a f1g (d5 _ _ f1a f1g tb4)
        have k36 : KeepT H3 H6 := ((d4.keepT ms3).trans (d5.keepT ms4)).trans (d6.keepT ms5)
        have d36 : Dr a g H3 H6 := (d4.trans d5).trans d6
        obtain ⟨p', hp'⟩ : ∃ p' : Tube, p' = Tube.mk p.s p.t (p.lo + x1) (p.lo + x1 + (if x2 < p.hi - (p.lo + x1) then x2 else p.hi - (p.lo + x1))) p.me := ⟨_, rfl⟩
        have hmn : 0 ≤ (if x2 < p.hi - (p.lo + x1) then x2 else p.hi - (p.lo + x1)) ∧ (if x2 < p.hi - (p.lo + x1) then x2 else p.hi - (p.lo + x1)) ≤ p.hi - (p.lo + x1) := by split <;> omega
        have okn : TubeOk N.base N.many p' := by
          rw [hp']
          exact ⟨okp.s, okp.t, okp.st, by show 0 ≤ p.lo + x1; omega, by show p.lo + x1 ≤ p.lo + x1 + _; omega, by show p.lo + x1 + _ ≤ 1010000000; omega, okp.me⟩
        have wdn : p'.wide = true → p.wide = true ∧ p.s = p'.s ∧ p.t = p'.t := fun z => by
          rw [hp'] at z ⊢
          unfold Tube.wide at z ⊢
          rw [Bool.and_eq_true] at z
          refine ⟨?_, rfl, rfl⟩
          rw [z.1, Bool.true_and]
          have z2 := of_decide_eq_true z.2
          exact decide_eq_true (by have z3 : p.lo + x1 < p.lo + x1 + (if x2 < p.hi - (p.lo + x1) then x2 else p.hi - (p.lo + x1)) := z2; omega)
        refine ⟨_, rfl, rfl, _, rfl, ite2 (fun c1 => ?_) (fun c1 => ⟨_, rfl, _, rfl, _, _, rfl, rfl, _, rfl, ite2 (fun c2 => ?_) (fun c2 => ?_)⟩)⟩
        · rw [hp'] at okn wdn
          refine ⟨_, rfl, _, rfl, _, rfl, _, rfl, _, rfl, (by show 5 ≤ sizeLine; decide), alloc fun tp H7 s7 f7 a7 => ?_⟩
          have a7' : H7 tp = some (.tup (Tube.mk p.s p.t (p.lo + x1) (p.lo + x1 + (if x2 < p.hi - (p.lo + x1) then x2 else p.hi - (p.lo + x1))) p.me).vs) := a7
          have tb7 := s7 _ _ tb6
          have kU : KeepT H7 (upd H7 tb (.lst (ys.set k (.ref tp)))) := keepT_upd_lst tb7
          have hk7 := (k36.trans s7.keepT).trans kU
          refine ⟨_, rfl, _, rfl, tb, _, (k : Int), k, rfl, rfl, tb7, ixN_nat (by omega), ?_⟩
          refine ⟨ts.set k (Tube.mk p.s p.t (p.lo + x1) (p.lo + x1 + (if x2 < p.hi - (p.lo + x1) then x2 else p.hi - (p.lo + x1))) p.me), ys.set k (.ref tp), _, _, _, _, _, _, _, rfl, fun x o n1 n2 e => ?_, ms_upd (((ms6.le (by omega)).same s7)) f1a f1c f1g, upd_same, paired_set (Paired.mapP hts3 fun _ _ h => h.keep hk7) hk ⟨tp, rfl, kU.seq (SqT.of a7')⟩, by rw [List.length_set]; exact hl3, ok_narrow ok3 hpk okn wdn, k3.trans hk7⟩
          rw [upd_ne (ne_of_none e f1)]
          exact s7 _ _ (d36 _ _ n1 n2 (d3 _ _ n1 n2 e))
        · rw [hp'] at okn wdn
          refine ⟨_, rfl, _, rfl, _, rfl, _, rfl, _, rfl, (by show 5 ≤ sizeLine; decide), alloc fun tp H7 s7 f7 a7 => ?_⟩
          have a7' : H7 tp = some (.tup (Tube.mk p.s p.t (p.lo + x1) (p.lo + x1 + (if x2 < p.hi - (p.lo + x1) then x2 else p.hi - (p.lo + x1))) p.me).vs) := a7
          have tb7 := s7 _ _ tb6
          have kU : KeepT H7 (upd H7 tb (.lst (ys.set k (.ref tp)))) := keepT_upd_lst tb7
          have hk7 := (k36.trans s7.keepT).trans kU
          refine ⟨_, rfl, _, rfl, tb, _, (k : Int), k, rfl, rfl, tb7, ixN_nat (by omega), ?_⟩
          refine ⟨ts.set k (Tube.mk p.s p.t (p.lo + x1) (p.lo + x1 + (if x2 < p.hi - (p.lo + x1) then x2 else p.hi - (p.lo + x1))) p.me), ys.set k (.ref tp), _, _, _, _, _, _, _, rfl, fun x o n1 n2 e => ?_, ms_upd (((ms6.le (by omega)).same s7)) f1a f1c f1g, upd_same, paired_set (Paired.mapP hts3 fun _ _ h => h.keep hk7) hk ⟨tp, rfl, kU.seq (SqT.of a7')⟩, by rw [List.length_set]; exact hl3, ok_narrow ok3 hpk okn wdn, k3.trans hk7⟩
          rw [upd_ne (ne_of_none e f1)]
          exact s7 _ _ (d36 _ _ n1 n2 (d3 _ _ n1 n2 e))
        · refine ⟨ts, ys, _, _, _, _, _, _, _, rfl, d3.trans d36, ms6.le (by omega), tb6, Paired.mapP hts3 fun _ _ h => h.keep k36, hl3, ok3, k3.trans k36⟩
      · rintro σ H3 ⟨ts, ys, y3, y4, y5, y6, y7, y8, y9, rfl, d3, ms3, tb3, hts3, hl3, ok3, k3⟩
        have ha3 := k3.seq ha
        refine ⟨_, rfl, ?_⟩
        show tNoPart _ _ _
        delta tNoPart
        refine ⟨2, rfl, ?_⟩
        show rSlA K (.ref na) none (some 2) H3 _
        refine slA_any ha3 fun H7 t7 s7 a7 => ?_
        refine ⟨_, rfl, tb, _, rfl, .inl ⟨SqL.of (s7 _ _ tb3), alloc fun u H8 s8 f8 a8 => ⟨(by show 1 ≤ sizeLine; decide), alloc fun t9 H9 s9 f9 a9 => ?_⟩⟩⟩
        refine catA_any (upT s9 (upT s8 a7)) (SqT.of a9) (by show 2 + 1 ≤ sizeLine; decide) fun HA tA sA aA => ?_
        have eA : cutV [V.int N.base, V.int (N.many : Int), V.ref b] none (some 2) ++ [V.ref u] = [V.int N.base, V.int (N.many : Int), V.ref u] := rfl
        rw [eA] at aA
        have sall := ((s7.trans s8).trans s9).trans sA
        exact q HA tA ⟨N.base, N.many, ts⟩ (d3.trans (Dr.same sall)) ((ms3.same sall).le (by omega)) ⟨u, ys, aA, SqT.of (sA _ _ (s9 _ _ a8)), Paired.mapP hts3 fun _ _ h => h.keep sall.keepT⟩ ok3 rfl
end
end Wc

set_option Elab.async false
set_option linter.all false
set_option maxRecDepth 100000
/-! The law. -/
namespace Wc
open PySem PySem.Spec PyProof PyProof.Rows L2 LamX
local macro_rules | `(tactic| walk_at "up") => `(tactic| first | with_reducible assumption | (refine up1 (by with_reducible assumption) ?_; walk_at "up") | (refine SqT.of ?_; walk_at "up") | (refine SqL.of ?_; walk_at "up") | (refine upT (by with_reducible assumption) ?_; walk_at "up") | (refine upL (by with_reducible assumption) ?_; walk_at "up") | (refine upN (by with_reducible assumption) ?_; walk_at "up"))
theorem forest_one {ts : List Tube} {k0 : Nat} (h : ∀ k p, ts[k]? = some p → p.wide = true → k = k0 ∧ p.s ≠ p.t) : Forest ts := by
  intro k p hk hw c
  obtain ⟨rfl, hst⟩ := h k p hk hw
  have := c.closed (S := fun z => z = p.s) rfl fun x y _ e => by
    exfalso
    rcases e with ⟨k', p', h1, h2, h3, _⟩ | ⟨k', p', h1, h2, h3, _⟩
    · exact h3 (congrArg some (h k' p' h1 h2).1.symm)
    · exact h3 (congrArg some (h k' p' h1 h2).1.symm)
  exact hst this.symm
def hand1 : List Tube := [⟨0, 1, 0, 40, some 5⟩, ⟨1, 2, 0, 40, none⟩, ⟨2, 0, 3, 45, some 5⟩]
def hand2 : List Tube := [⟨0, 1, 8, 21, some 5⟩, ⟨1, 0, 0, 33, none⟩]
theorem hand1_ok {b : Int} (h1 : 7 ≤ b) (h2 : b ≤ 97) : NetOk ⟨b, 3, hand1⟩ := by
  refine ⟨by show 2 ≤ b; omega, by show b ≤ 1000000; omega, by show 1 ≤ 3; decide, by show 3 ≤ 24; decide, by show 3 ≤ 60; decide, fun p hp => ?_, forest_one (k0 := 1) fun k p hk hw => ?_⟩
  · simp only [hand1, List.mem_cons, List.not_mem_nil, or_false] at hp
    rcases hp with rfl | rfl | rfl
    · exact ⟨by show 0 < 3; decide, by show 1 < 3; decide, by decide, by decide, by decide, by decide, fun i e => by cases e; show (0 : Int) ≤ 5 ∧ 5 < b; omega⟩
    · exact ⟨by show 1 < 3; decide, by show 2 < 3; decide, by decide, by decide, by decide, by decide, fun i e => by cases e⟩
    · exact ⟨by show 2 < 3; decide, by show 0 < 3; decide, by decide, by decide, by decide, by decide, fun i e => by cases e; show (0 : Int) ≤ 5 ∧ 5 < b; omega⟩
  · match k, hk with
    | 0, hk => obtain rfl := Option.some.inj hk; cases hw
    | 1, hk => obtain rfl := Option.some.inj hk; exact ⟨rfl, by decide⟩
    | 2, hk => obtain rfl := Option.some.inj hk; cases hw
    | k + 3, hk => cases hk
theorem hand2_ok {b : Int} (h1 : 7 ≤ b) (h2 : b ≤ 97) : NetOk ⟨b, 3, hand2⟩ := by
  refine ⟨by show 2 ≤ b; omega, by show b ≤ 1000000; omega, by show 1 ≤ 3; decide, by show 3 ≤ 24; decide, by show 2 ≤ 60; decide, fun p hp => ?_, forest_one (k0 := 1) fun k p hk hw => ?_⟩
  · simp only [hand2, List.mem_cons, List.not_mem_nil, or_false] at hp
    rcases hp with rfl | rfl
    · exact ⟨by show 0 < 3; decide, by show 1 < 3; decide, by decide, by decide, by decide, by decide, fun i e => by cases e; show (0 : Int) ≤ 5 ∧ 5 < b; omega⟩
    · exact ⟨by show 1 < 3; decide, by show 0 < 3; decide, by decide, by decide, by decide, by decide, fun i e => by cases e⟩
  · match k, hk with
    | 0, hk => obtain rfl := Option.some.inj hk; cases hw
    | 1, hk => obtain rfl := Option.some.inj hk; exact ⟨rfl, by decide⟩
    | k + 2, hk => cases hk
theorem allS_ne (n : Nat) : allS n ≠ [] := by
  intro z
  have := allS_len n
  rw [z] at this
  have h2 : 0 < 2 ^ n := Nat.pow_pos (by decide)
  rw [← this] at h2
  exact absurd h2 (by decide)
section
variable {P : Program} {w : World} {K : PySem.W.Frag} {mg : Str → Option Value} {base : Heap}
abbrev s_law : Stmt := top 61
theorem sc_law : FnScope ["script", "m", "again", "net", "tubes", "base", "spots_there", "n"] ["script"] (defScope s_law) := ⟨rfl, rfl, rfl, by decide +kernel, rfl, by decide +kernel, by decide +kernel⟩
def sp_law5 (K : PySem.W.Frag) (pS pR : Addr) : Sp := fun vs H Q _ => ∃ (sa : Addr) (ns : List Int), vs = [.ref sa] ∧ SqL K H sa (ns.map V.int) ∧ ns.length ≤ 63 ∧ Tabs (tb2 pS pR) H ∧ ∀ H', Q (.bl true) H'
set_option maxHeartbeats 8000000 in
theorem ok_law5 {f pS pR : Addr} {fd : FuncData} (F : Fun K "law" "law" s_law f fd) (T : Blt mg) (h_law_begun : Has P w K mg base "_law_begun" 2 ["script"] (sp_law_begun K)) (h_law_draw : Has P w K mg base "_law_draw" 2 ["m", "top"] sp_law_draw)
    (h_law_any_net : Has P w K mg base "_law_any_net" 6 ["m", "many", "rings", "more"] (sp_law_any_net K)) (h_law_net : Has P w K mg base "_law_net" 5 ["m", "many", "rings", "more"] (sp_law_net K)) (h_law_sets : Has P w K mg base "_law_sets" 1 ["many"] (sp_law_sets K)) (h_law_mixed_up : Has P w K mg base "_law_mixed_up" 3 ["m", "things"] (sp_law_mixed_up K))
    (h_law_narrowed : Has P w K mg base "_law_narrowed" 3 ["m", "net"] (sp_law_narrowed K)) (h_law_right : HasG P w K mg base "_law_right" 10 ["net", "spots_there"] (sp_law_right5 K pS pR)) : OkG P w K mg base 11 f fd ["script"] (sp_law5 K pS pR) := by
  refine FunG F sc_law (fun vs H Q E h => ?_) (fun cdv A outer s H vs Q E hr hG h => ?_)
  · obtain ⟨sa, ns, rfl, _⟩ := h
    rfl
  · obtain ⟨sa, ns, rfl, hS, hlen, hTab, q⟩ := h
    have hu64 := hr.b64
    refine ⟨_, (pss_cons (ps_set (i := 1) sc_law.nd rfl (.inl rfl) (pe_own h_law_begun (hr.mono (by decide)) (by rfl) (pa_cons (pv 0) pa_nil)))
      (pss_cons (ps_for PassesOwn.never rfl (pi_range1 (by rfl) T.b_range (pa_cons pe_int pa_nil)) (pg_name (i := 2) sc_law.nd rfl (.inl rfl)) (pss_cons (ps_set (i := 3) sc_law.nd rfl (.inl rfl) (pe_own h_law_any_net (hr.mono (by decide)) (by rfl) (pa_cons (pv 1) (pa_cons (pe_op op_add pe_int (pe_op op_mod (pe_op op_add (pv 2) (pe_own h_law_draw (hr.mono (by decide)) (by rfl) (pa_cons (pv 1) (pa_cons pe_int pa_nil)))) pe_int)) (pa_cons (pe_own h_law_draw (hr.mono (by decide)) (by rfl) (pa_cons (pv 1) (pa_cons pe_int pa_nil))) (pa_cons (pe_own h_law_draw (hr.mono (by decide)) (by rfl) (pa_cons (pv 1) (pa_cons pe_int pa_nil))) pa_nil))))))
      (pss_one (ps_if (PW.pt (pw_or (pt_not (pt_val (pe_ownG hG h_law_right (hr.mono (by decide)) (by rfl) (pa_cons (pv 3) (pa_cons (pe_own h_law_sets (hr.mono (by decide)) (by rfl) (pa_cons (pe_ix ix_tup (pv 3) pe_int (fun _ _ => rfl)) pa_nil)) pa_nil))))) (pw_or1 (pt_not (pt_val (pe_ownG hG h_law_right (hr.mono (by decide)) (by rfl) (pa_cons (pe_own h_law_narrowed (hr.mono (by decide)) (by rfl) (pa_cons (pv 1) (pa_cons (pv 3) pa_nil))) (pa_cons (pe_own h_law_sets (hr.mono (by decide)) (by rfl) (pa_cons (pe_ix ix_tup (pv 3) pe_int (fun _ _ => rfl)) pa_nil)) pa_nil)))))))) (pss_one (ps_ret pe_bl)) pss_nil))))
      (pss_cons (ps_for PassesOwn.never rfl (pi_tup (pe_at (pe_tup (pa_cons (pe_at (pe_tup (pa_cons (pe_at (pe_tup (pa_cons pe_int (pa_cons pe_int (pa_cons pe_int (pa_cons pe_int (pa_cons pe_int pa_nil))))))) (pa_cons (pe_at (pe_tup (pa_cons pe_int (pa_cons pe_int (pa_cons pe_int (pa_cons pe_int (pa_cons pe_non pa_nil))))))) (pa_cons (pe_at (pe_tup (pa_cons pe_int (pa_cons pe_int (pa_cons pe_int (pa_cons pe_int (pa_cons pe_int pa_nil))))))) pa_nil))))) (pa_cons (pe_at (pe_tup (pa_cons (pe_at (pe_tup (pa_cons pe_int (pa_cons pe_int (pa_cons pe_int (pa_cons pe_int (pa_cons pe_int pa_nil))))))) (pa_cons (pe_at (pe_tup (pa_cons pe_int (pa_cons pe_int (pa_cons pe_int (pa_cons pe_int (pa_cons pe_non pa_nil))))))) pa_nil)))) pa_nil))))) (pg_name (i := 4) sc_law.nd rfl (.inl rfl)) (pss_one (ps_for PassesOwn.never rfl (pi_tup (pe_at (pe_tup (pa_cons pe_int (pa_cons pe_int (pa_cons pe_int (pa_cons pe_int (pa_cons pe_int (pa_cons pe_int pa_nil))))))))) (pg_name (i := 5) sc_law.nd rfl (.inl rfl)) (pss_one (ps_if (pt_not (pt_val (pe_ownG hG h_law_right (hr.mono (by decide)) (by rfl) (pa_cons (pe_at (pe_tup (pa_cons (pv 5) (pa_cons pe_int (pa_cons (pv 4) pa_nil))))) (pa_cons (pe_own h_law_sets (hr.mono (by decide)) (by rfl) (pa_cons pe_int pa_nil)) pa_nil))))) (pss_one (ps_ret pe_bl)) pss_nil)))))
      (pss_cons (ps_set (i := 3) sc_law.nd rfl (.inl rfl) (pe_ix ix_tup (pe_own h_law_net (hr.mono (by decide)) (by rfl) (pa_cons (pv 1) (pa_cons (pe_op op_add pe_int (pe_own h_law_draw (hr.mono (by decide)) (by rfl) (pa_cons (pv 1) (pa_cons pe_int pa_nil)))) (pa_cons (pe_op op_add pe_int (pe_own h_law_draw (hr.mono (by decide)) (by rfl) (pa_cons (pv 1) (pa_cons pe_int pa_nil)))) (pa_cons pe_int pa_nil))))) pe_int (fun _ _ => rfl)))
      (pss_cons (ps_set (i := 6) sc_law.nd rfl (.inl rfl) (pe_at (pe_lst (pa_cons (pe_at (pe_tup pa_nil)) pa_nil))))
      (pss_cons (ps_for PassesOwn.never rfl (pi_range1 (by rfl) T.b_range (pa_cons pe_int pa_nil)) (pg_name (i := 7) sc_law.nd rfl (.inl rfl)) (pss_one (ps_expr (pe_bm PySem.F.plainAttrs_list PySem.F.slot_list_append PySem.F.type_list_append mt_append (pv 6) (pa_cons (pe_at (pe_callTy call_tuple_of (by rfl) T.b_tuple (by decide +kernel) (pa_cons (pe_at (pe_callB cr_sortedI (by rfl) T.b_sorted (by decide +kernel) (pa_cons (pe_at (pe_slice sl_list (pe_own h_law_mixed_up (hr.mono (by decide)) (by rfl) (pa_cons (pv 1) (pa_cons (pe_at (pe_listRg rfl (by rfl) T.b_list (prg_1 (by rfl) T.b_range (pe_ix ix_tup (pv 3) pe_int (fun _ _ => rfl))))) pa_nil))) po_none (po_some (pe_own h_law_draw (hr.mono (by decide)) (by rfl) (pa_cons (pv 1) (pa_cons (pe_op op_add (pe_ix ix_tup (pv 3) pe_int (fun _ _ => rfl)) pe_int) pa_nil)))))) pa_nil))) pa_nil))) pa_nil)))))
      (pss_one (ps_ret (pe_and (pe_ownG hG h_law_right (hr.mono (by decide)) (by rfl) (pa_cons (pv 3) (pa_cons (pv 6) pa_nil))) (pe_one (pe_ownG hG h_law_right (hr.mono (by decide)) (by rfl) (pa_cons (pe_own h_law_narrowed (hr.mono (by decide)) (by rfl) (pa_cons (pv 1) (pa_cons (pv 3) pa_nil))) (pa_cons (pv 6) pa_nil))))))))))))), ?_⟩
    refine ⟨_, rfl, sa, ns, rfl, hS, hlen, fun H1 a c g s1 ms => ?_⟩
    have T1 : Tabs (tb2 pS pR) H1 := upB s1 hTab
    refine ⟨6, rfl, by decide, by decide, ?_⟩
    refine for_range (lo := 0) (n := (6 : Int).toNat) (fun i σ H' => (∃ y2 y3, σ = [some (.ref sa), some (.ref a), y2, y3, none, none, none, none]) ∧ MS H' a c g (2 ^ 40 - 3300 * i) ∧ Tabs (tb2 pS pR) H') ⟨⟨none, none, rfl⟩, ms, T1⟩ ?_ ?_
    · rintro i σ H2 hi ⟨⟨y2, y3, rfl⟩, ms2, T2⟩
      have hi5 : i < 6 := by
        have : (6 : Int).toNat = 6 := rfl
        omega
      show (tSeq _ _ : TS) _ _ _
      refine ⟨_, rfl, _, rfl, _, rfl, a, c, g, 2 ^ 40 - 3300 * i - 1, 5, rfl, ms2.le (by omega), by decide, by decide, fun H3 x1 d1 ms3 l1 u1 => ⟨_, _, rfl, rfl, _, _, rfl, rfl, (by show (0 : Int) < 5; decide), _, _, rfl, rfl, ?_⟩⟩
      refine ⟨_, rfl, a, c, g, 2 ^ 40 - 3300 * i - 2, 5, rfl, ms3.le (by omega), by decide, by decide, fun H4 x2 d2 ms4 l2 u2 => ⟨_, rfl, a, c, g, 2 ^ 40 - 3300 * i - 3, 5, rfl, ms4.le (by omega), by decide, by decide, fun H5 x3 d3 ms5 l3 u3 => ?_⟩⟩
      obtain ⟨k2, rfl⟩ := Int.eq_ofNat_of_zero_le l2
      obtain ⟨k3, rfl⟩ := Int.eq_ofNat_of_zero_le l3
      obtain ⟨k1, hk1, hk8⟩ : ∃ k : Nat, (0 + (i : Int) + x1) % 5 = (k : Int) ∧ k < 5 := by
        have h1 := Int.emod_nonneg (0 + (i : Int) + x1) (by decide : (5 : Int) ≠ 0)
        have h2 := Int.emod_lt_of_pos (0 + (i : Int) + x1) (by decide : (0 : Int) < 5)
        obtain ⟨k, hk⟩ := Int.eq_ofNat_of_zero_le h1
        exact ⟨k, hk, by omega⟩
      have T5 := tabs_dr ms4 d3 (tabs_dr ms3 d2 (tabs_dr ms2 d1 T2))
      refine ⟨a, c, g, 2 ^ 40 - 3300 * i - 3110, 1 + k1, k2, k3, ?_, ms5.le (by omega), by omega, by omega, by omega, by omega, by omega, fun H6 na N d4 ms6 hN ok hmany => ?_⟩
      · show [V.ref a, .int (1 + (0 + (i : Int) + x1) % 5), .int k2, .int k3] = _
        rw [hk1]
        rfl
      have T6 := tabs_dr ms5 d4 T5
      have hm5 : N.many ≤ 5 := by omega
      obtain ⟨b, xs, ha, hb, hts⟩ := id hN
      -- not _law_right(net, _law_sets(net[1]))
      refine ⟨_, rfl, _, rfl, na, _, 1, _, rfl, rfl, ha, atI_nat (j := 1) rfl, N.many, rfl, hm5, fun H7 l ts s7 fl al hSets => ?_⟩
      refine ⟨na, l, N, ts, allS N.many, rfl, upN s7 hN, ok, SqL.of al, hSets, allS_ne _, (fun S hS => setB_allS hS), upB s7 T6, fun H8 x8 T8 => ⟨true, rfl, iteF ?_⟩⟩
      have x68 := (extN_of s7).trans x8
      have ms8 := ms_ext ms6 x68
      refine ⟨_, rfl, _, rfl, a, c, g, na, 2 ^ 40 - 3300 * i - 3120, N, rfl, ms8.le (by omega), extNet x68 hN, ok, fun H9 nb N9 d9 ms9 hN9 ok9 hm9 => ?_⟩
      have T9 := tabs_dr ms8 d9 T8
      have ha9 := (d9.keepT ms8).seq (extT x68 ha)
      refine ⟨_, rfl, na, _, 1, _, rfl, rfl, ha9, atI_nat (j := 1) rfl, N.many, rfl, hm5, fun HA l2 ts2 sA flA alA hSetsA => ?_⟩
      refine ⟨nb, l2, N9, ts2, allS N.many, rfl, upN sA hN9, ok9, SqL.of alA, hSetsA, allS_ne _, (fun S hS => by rw [hm9]; exact setB_allS hS), upB sA T9, fun HB xB TB => ⟨true, rfl, iteF ?_⟩⟩
      exact ⟨⟨_, _, rfl⟩, (ms_ext ms9 ((extN_of sA).trans xB)).le (by omega), TB⟩
    · rintro σ H2 ⟨⟨y2, y3, rfl⟩, ms2, T2⟩
      have e5 : (6 : Int).toNat = 6 := rfl
      rw [e5] at ms2
      have ms2 : MS H2 a c g (2 ^ 40 - 19800) := ms2
      -- the nets by hand
      refine ⟨(by show 5 ≤ sizeLine; decide), alloc fun p1 G1 r1 g1 b1 => ⟨(by show 5 ≤ sizeLine; decide), alloc fun p2 G2 r2 g2 b2 => ⟨(by show 5 ≤ sizeLine; decide), alloc fun p3 G3 r3 g3 b3 => ⟨(by show 3 ≤ sizeLine; decide), alloc fun p4 G4 r4 g4 b4 => ?_⟩⟩⟩⟩
      refine ⟨(by show 5 ≤ sizeLine; decide), alloc fun p5 G5 r5 g5 b5 => ⟨(by show 5 ≤ sizeLine; decide), alloc fun p6 G6 r6 g6 b6 => ⟨(by show 2 ≤ sizeLine; decide), alloc fun p7 G7 r7 g7 b7 => ⟨(by show 2 ≤ sizeLine; decide), alloc fun p8 G8 r8 g8 b8 => ?_⟩⟩⟩⟩
      have A1 : SqT K G8 p4 [.ref p1, .ref p2, .ref p3] := by walk_at "up"
      have A2 : SqT K G8 p7 [.ref p5, .ref p6] := by walk_at "up"
      have P1 : Paired (TubeAt K G8) [V.ref p1, .ref p2, .ref p3] hand1 := .cons ⟨p1, rfl, SqT.of (H := G8) (a := p1) (xs := [.int 0, .int 1, .int 0, .int 40, .int 5]) (by walk_at "up")⟩ (.cons ⟨p2, rfl, SqT.of (H := G8) (a := p2) (xs := [.int 1, .int 2, .int 0, .int 40, .non]) (by walk_at "up")⟩ (.cons ⟨p3, rfl, SqT.of (H := G8) (a := p3) (xs := [.int 2, .int 0, .int 3, .int 45, .int 5]) (by walk_at "up")⟩ .nil))
      have P2 : Paired (TubeAt K G8) [V.ref p5, .ref p6] hand2 := .cons ⟨p5, rfl, SqT.of (H := G8) (a := p5) (xs := [.int 0, .int 1, .int 8, .int 21, .int 5]) (by walk_at "up")⟩ (.cons ⟨p6, rfl, SqT.of (H := G8) (a := p6) (xs := [.int 1, .int 0, .int 0, .int 33, .non]) (by walk_at "up")⟩ .nil)
      have s28 : Same H2 G8 := ((((((r1.trans r2).trans r3).trans r4).trans r5).trans r6).trans r7).trans r8
      have ms8 := ms2.same s28
      have T8 := upB s28 T2
      clear r1 r2 r3 r4 r5 r6 r7 b1 b2 b3 b4 b5 b6 b7
      refine ⟨p8, rfl, ⟨_, SqT.of b8⟩, ?_⟩
      refine for_it (walk_tup (xs := [.ref p4, .ref p7])) (fun i σ H' => (∃ y3 y4 y5, σ = [some (.ref sa), some (.ref a), y2, y3, y4, y5, none, none]) ∧ ExtN G8 H' ∧ Tabs (tb2 pS pR) H') ⟨⟨_, _, _, rfl⟩, ExtN.refl _, T8⟩ (fun i σ H' _ h => extT h.2.1 (SqT.of b8)) ?_ ?_
      · rintro i v σ H3 H4 hi ⟨⟨y3', y4, y5, rfl⟩, x3, T3⟩ ⟨rfl, hv⟩
        obtain ⟨tv, xs, hd, rfl, hxs, hP, hok⟩ : ∃ (tv : Addr) (xs : List V) (hd : List Tube), v = .ref tv ∧ SqT K G8 tv xs ∧ Paired (TubeAt K G8) xs hd ∧ ∀ b : Int, 7 ≤ b → b ≤ 97 → NetOk ⟨b, 3, hd⟩ := by
          match i, hv with
          | 0, hv => exact ⟨p4, _, hand1, (Option.some.inj hv).symm, A1, P1, fun b h1 h2 => hand1_ok h1 h2⟩
          | 1, hv => exact ⟨p7, _, hand2, (Option.some.inj hv).symm, A2, P2, fun b h1 h2 => hand2_ok h1 h2⟩
        refine ⟨(by show 6 ≤ sizeLine; decide), alloc fun p9 H5 r9 g9 b9 => ?_⟩
        have x5 := x3.trans (extN_of r9)
        refine ⟨p9, rfl, ⟨_, SqT.of b9⟩, ?_⟩
        refine for_it (walk_tup (xs := [.int 7, .int 10, .int 20, .int 7, .int 97, .int 10])) (fun j σ H' => (∃ y3 y5, σ = [some (.ref sa), some (.ref a), y2, y3, some (.ref tv), y5, none, none]) ∧ ExtN H5 H' ∧ Tabs (tb2 pS pR) H') ⟨⟨_, _, rfl⟩, ExtN.refl _, upB r9 T3⟩ (fun i σ H' _ h => extT h.2.1 (SqT.of b9)) ?_ ?_
        · rintro j v σ H6 H7 hj ⟨⟨y3'', y5', rfl⟩, x6, T6⟩ ⟨rfl, hv⟩
          obtain ⟨bb, rfl, hb1, hb2⟩ : ∃ bb : Int, v = .int bb ∧ 7 ≤ bb ∧ bb ≤ 97 := by
            match j, hv with
            | 0, hv => exact ⟨7, (Option.some.inj hv).symm, by decide, by decide⟩
            | 1, hv => exact ⟨10, (Option.some.inj hv).symm, by decide, by decide⟩
            | 2, hv => exact ⟨20, (Option.some.inj hv).symm, by decide, by decide⟩
            | 3, hv => exact ⟨7, (Option.some.inj hv).symm, by decide, by decide⟩
            | 4, hv => exact ⟨97, (Option.some.inj hv).symm, by decide, by decide⟩
            | 5, hv => exact ⟨10, (Option.some.inj hv).symm, by decide, by decide⟩
          have x56 := x5.trans x6
          refine ⟨_, rfl, _, rfl, (by show 3 ≤ sizeLine; decide), alloc fun pn H8 q8 f8 c8 => ?_⟩
          refine ⟨3, rfl, by decide, fun H9 l ts s9 fl al hSets => ?_⟩
          have x9 := x56.trans (extN_of (q8.trans s9))
          refine ⟨pn, l, ⟨bb, 3, hd⟩, ts, allS 3, rfl, ⟨tv, xs, SqT.of (s9 _ _ c8), extT x9 hxs, Paired.mapP hP fun _ _ h => h.keep (ext_keepT x9)⟩, hok bb hb1 hb2, SqL.of al, hSets, allS_ne _, (fun S hS => setB_allS hS), upB (q8.trans s9) T6, fun HA xA TA => ⟨true, rfl, iteF ⟨⟨_, _, rfl⟩, ?_, TA⟩⟩⟩
          exact (x6.trans (extN_of (q8.trans s9))).trans xA
        · rintro σ H6 ⟨⟨y3'', y5', rfl⟩, x6, T6⟩
          exact ⟨⟨_, _, _, rfl⟩, x5.trans x6, T6⟩
      · rintro σ H3 ⟨⟨y3', y4, y5, rfl⟩, x3, T3⟩
        have ms3 := ms_ext ms8 x3
        refine ⟨_, rfl, _, rfl, a, c, g, 2 ^ 40 - 19801, 23, rfl, ms3.le (by omega), by decide, by decide, fun H4 x1 d1 ms4 l1 u1 => ⟨_, _, rfl, rfl, _, rfl, a, c, g, 2 ^ 40 - 19802, 9, rfl, ms4.le (by omega), by decide, by decide, fun H5 x2 d2 ms5 l2 u2 => ⟨_, _, rfl, rfl, ?_⟩⟩⟩
        obtain ⟨k1, rfl⟩ := Int.eq_ofNat_of_zero_le l1
        obtain ⟨k2, rfl⟩ := Int.eq_ofNat_of_zero_le l2
        have T5 := tabs_dr ms4 d2 (tabs_dr ms3 d1 T3)
        refine ⟨a, c, g, 2 ^ 40 - 30000, 2 + k1, 5 + k2, 6, rfl, ms5.le (by omega), by omega, by omega, by omega, by omega, by omega, fun H6 p na ca N fs d3 ms6 hp hN ok hmany _ _ _ => ?_⟩
        have T6 := tabs_dr ms5 d3 T5
        have hm1 := ok.m1
        have hm24 := ok.m24
        refine ⟨p, _, 0, _, rfl, rfl, SqT.of hp, atI_nat (j := 0) rfl, ?_⟩
        refine ⟨Nat.zero_le _, alloc fun t0 H7 s7 f7 a7 => ⟨(by show 1 ≤ sizeLine; decide), alloc fun sp H8 s8 f8 a8 => ?_⟩⟩
        have s68 := s7.trans s8
        have ms8' := ms6.same s68
        have f86 := s7.free f8
        have npa := ms6.fa f86
        have npg := ms6.fg f86
        have npc := ms_fc ms6 f86
        refine ⟨6, rfl, by decide, by decide, ?_⟩
        refine for_range (lo := 0) (n := (6 : Int).toNat) (fun i σ H' => (∃ y7, σ = [some (.ref sa), some (.ref a), y2, some (.ref na), y4, y5, some (.ref sp), y7]) ∧ MS H' a c g (2 ^ 40 - 30000 - 30 * i) ∧ NetAt K H' na N ∧ Tabs (tb2 pS pR) H' ∧ ∃ ts Ss, H' sp = some (.lst (ts.map V.ref)) ∧ SetsAt K H' ts Ss ∧ (∀ S ∈ Ss, setB N.many 0 (S.map natV) = true) ∧ Ss.length = i + 1)
          ⟨⟨_, rfl⟩, ms8', upN s68 hN, upB s68 T6, [t0], [[]], a8, .cons (SqT.of (s8 _ _ a7)) .nil, (fun S hS => by rw [List.mem_singleton.mp hS]; rfl), rfl⟩ ?_ ?_
        · rintro i σ H9 hi ⟨⟨y7, rfl⟩, ms9, hN9, T9, ts, Ss, hsp, hSets, hset, hlS⟩
          have hi6 : i < 6 := by
            have : (6 : Int).toNat = 6 := rfl
            omega
          obtain ⟨b, xs, ha, hb, hts⟩ := id hN9
          have htl : ts.length = i + 1 := by rw [Paired.length hSets, hlS]
          have hlr0 : (rgV 0 (N.many : Int)).length = N.many := by rw [rgV_nat, List.length_map, List.length_range]
          refine ⟨_, rfl, .inl ⟨rfl, _, SqL.of hsp⟩, ?_⟩
          refine ⟨_, rfl, _, rfl, na, _, 1, _, rfl, rfl, ha, atI_nat (j := 1) rfl, _, rfl, RgOk.of_le (by omega) (by omega) (by omega) (by omega), alloc fun lr HA s9 f9 a9 => ?_⟩
          refine ⟨a, c, g, lr, 2 ^ 40 - 30000 - 30 * (i + 1) + 1, rgV 0 (N.many : Int), rfl, (ms9.same s9).le (by rw [hlr0]; omega), SqL.of a9, by rw [hlr0]; omega, fun HB p1 ys dB msB fB aB hperm => ?_⟩
          obtain ⟨R, hRp, rfl⟩ := perm_map_ex hperm (rgV_nat N.many)
          have hRn : R.Nodup := hRp.nodup_iff.mpr List.nodup_range
          have hRlt : ∀ x ∈ R, x < N.many := fun x hx => List.mem_range.mp (hRp.mem_iff.mp hx)
          have hNB := (upN s9 hN9).keep (Dr.keepT (ms9.same s9) dB)
          obtain ⟨bB, xsB, haB, _, _⟩ := id hNB
          have np1a := (ms9.same s9).fa fB
          have np1g := (ms9.same s9).fg fB
          refine ⟨_, rfl, _, rfl, na, _, 1, _, rfl, rfl, haB, atI_nat (j := 1) rfl, _, _, rfl, rfl, a, c, g, 2 ^ 40 - 30000 - 30 * (i + 1), _, rfl, msB, by omega, by omega, fun HC x dC msC hx0 hx1 => ?_⟩
          refine ⟨_, rfl, p1, R.map natV, rfl, SqL.of (dC _ _ np1a np1g aB), alloc fun p2 HD sD fD aD => ?_⟩
          obtain ⟨kx, rfl⟩ := Int.eq_ofNat_of_zero_le hx0
          rw [cut_take] at aD
          rw [← List.map_take] at aD
          have eI : (R.take kx).map natV = ((R.take kx).map fun y : Nat => (y : Int)).map V.int := by
            rw [List.map_map]
            rfl
          rw [eI] at aD
          refine ⟨p2, _, rfl, SqL.of aD, fun zs l hzp hzs hl => alloc (fun p3 HE sE fE aE => ?_) l hl⟩
          have hRk : (R.take kx).Nodup := hRn.sublist (List.take_sublist _ _)
          obtain ⟨S, hSp, rfl⟩ := perm_map_ex hzp rfl
          have hSs : S.Pairwise (· < ·) := by
            have h1 := List.pairwise_map.mp hzs
            have h2 : S.Nodup := hSp.nodup_iff.mpr hRk
            exact (h1.and h2).imp fun ⟨h3, h4⟩ => by omega
          have hSlt : ∀ x ∈ S, x < N.many := fun x hx => hRlt x (List.take_subset _ _ (hSp.mem_iff.mp hx))
          have aE : HE p3 = some (.lst (S.map natV)) := by
            rw [List.map_map] at aE
            exact aE
          refine ⟨p3, _, rfl, .inl ⟨SqL.of aE, alloc fun t HF sF fF aF => ?_⟩⟩
          have setS : setB (N.many : Int) 0 (S.map natV) = true := setB_of (lo := 0) (fun x hx => ⟨Nat.zero_le _, by have := hSlt x hx; omega⟩) hSs
          have sS := (sD.trans sE).trans sF
          have spF : HF sp = some (.lst (ts.map V.ref)) := sS _ _ (dC _ _ npa npg (dB _ _ npa npg (s9 _ _ hsp)))
          have k9F : KeepT H9 HF := ((s9.keepT.trans (dB.keepT (ms9.same s9))).trans (dC.keepT msB)).trans sS.keepT
          have TF := upB sS (tabs_dr msB dC (tabs_dr (ms9.same s9) dB (upB s9 T9)))
          have msF := msC.same sS
          refine ⟨sp, _, _, rfl, rfl, spF, small1000 (by rw [List.length_map]; omega), ?_⟩
          have kU : KeepT HF (upd HF sp (.lst (ts.map V.ref ++ [.ref t]))) := keepT_upd_lst spF
          refine ⟨⟨_, rfl⟩, (ms_upd msF npa npc npg).le (by omega), hN9.keep (k9F.trans kU), tabs_upd TF spF, ts ++ [t], Ss ++ [S], ?_, ?_, fun S' hS' => ?_, by rw [List.length_append, hlS]; rfl⟩
          · rw [upd_same, List.map_append]
            rfl
          · exact Paired.snoc (Paired.mapP hSets fun t' S' h => (k9F.trans kU).seq h) (kU.seq (SqT.of aF))
          · rcases List.mem_append.mp hS' with z | z
            · exact hset S' z
            · rw [List.mem_singleton.mp z]
              exact setS
        · rintro σ H9 ⟨⟨y7, rfl⟩, ms9, hN9, T9, ts, Ss, hsp, hSets, hset, hlS⟩
          have ms9 : MS H9 a c g (2 ^ 40 - 30180) := ms9
          have hne : Ss ≠ [] := fun z => by rw [z] at hlS; cases hlS
          refine ⟨_, rfl, _, rfl, na, sp, N, ts, Ss, rfl, hN9, ok, SqL.of hsp, hSets, hne, hset, T9, fun HA xA TA => ⟨true, rfl, ?_⟩⟩
          have msA := ms_ext ms9 xA
          have spA := ext1 xA hsp
          refine ⟨_, rfl, _, rfl, a, c, g, na, 2 ^ 40 - 40000, N, rfl, msA.le (by omega), extNet xA hN9, ok, fun HB nb N' dB msB hNB okB hmB => ?_⟩
          refine ⟨_, rfl, nb, sp, N', ts, Ss, rfl, hNB, okB, SqL.of (dB _ _ npa npg spA), Paired.mapP hSets (fun t S h => (dB.keepT msA).seq (extT xA h)), hne, (fun S hS => by rw [hmB]; exact hset S hS), tabs_dr msA dB TA, fun HC xC TC => q HC⟩
end
end Wc

set_option Elab.async false
set_option linter.all false
set_option maxRecDepth 100000
/-! The end of a law whose def wants that no repr is under way. -/
namespace Wc
open PySem PySem.Spec PyProof PyProof.Rows L2
/-- the heap as the claim sees it: the script alone, as it stands -/
def hScript (a : Addr) (o : Obj) (xs : List V) : Hp := fun b => if b = a then some (.frz o (.lst xs)) else none
section
variable {P : Program} {w : World} {K : PySem.W.Frag} {mg mb : Str → Option Value} {k : Nat} {fa a : Addr} {fd : FuncData} {x : Str} {sp : Sp} {s₁ : Shared} {vs : List Value} {ns : List Int}
theorem at_top (KX : K.In s₁.heap) (hns : s₁.heap.Ns mainGlobals mg) (hb : s₁.heap.Ns builtinsNs mb) (hbb : ∀ x : Str, x ≠ ("__name__" : Str) → mb x = bootBuiltins x) (hlim : s₁.heap.NoLimit) (hg : s₁.gens = #[])
    (ha : s₁.heap.get? a = some { cls := .type "list", data := .seq vs.toArray }) (hr : Room k callerA) (F : ∀ base : Heap, K.In base → base.Ns mainGlobals mg → OkG P w K mg base k fa fd [x] sp) (hbind : ∀ (s : Shared) (u : Value), BindsTo s fd { pos := [u] } [(x, u)])
    (H : Hp) (hO : Only H) (hsp : sp [.ref a] H (fun v _ => v = .bl true) E0) (hok : HOk P w H s₁.heap) (hA : ∀ b, H b ≠ none → b = a) (hK : H a ≠ none → K.lookup a = none) :
    codeAny (model P w) callerA (.call (.ref fa) { pos := [.ref a] }) (fun r s' => r = .ok (.ret (.bool true)) ∧ OldK s₁.heap s'.heap ∧ s'.os = s₁.os ∧ AllBare s'.gens) s₁ := by
  have free : ∀ {b : Addr} {o : Obj} {es ep}, s₁.heap.get? b = some o → o.data = .dict es ep → H b = none := by
    intro b o es ep e d
    cases q : H b with
    | none => rfl
    | some u =>
      have eb := hA b (by rw [q]; exact Option.some_ne_none _)
      subst eb
      rw [ha] at e
      have eo := Option.some.inj e
      subst eo
      cases d
  have names : ∀ {b : Addr} {m : Str → Option Value}, s₁.heap.Ns b m → (hidT s₁.heap H).Ns b m := by
    rintro b m ⟨o, es, ep, e, d, r⟩
    exact ⟨o, es, ep, hidT_get e (free e d), d, r⟩
  have hKb : K.In (hidT s₁.heap H) := fun b o e => hidT_get (KX b o e) (by
    cases q : H b with
    | none => rfl
    | some u =>
      have eb := hA b (by rw [q]; exact Option.some_ne_none _)
      subst eb
      rw [hK (by rw [q]; exact Option.some_ne_none _)] at e
      cases e)
  have hM : L2.Mod K mg (hidT s₁.heap H) := by
    obtain ⟨mc, h1, h2⟩ := hlim
    exact ⟨hKb, names hns, ⟨mb, names hb, hbb⟩, ⟨mc, names h1, h2⟩⟩
  have e0 : Env0 P w K mg (hidT s₁.heap H) callerA [] s₁ H := ⟨rfl, hM, fun b o e => of_hidT e, Nat.le_of_eq (hidT_size _ _), trivial, fun b hb => absurd hb List.not_mem_nil, hok, AllBare.of_eq hg⟩
  refine codeAny_mono ((F _ hKb (names hns)).run callerA [] s₁ H { pos := [.ref a] } [.ref a] [.ref a] (fun v _ => v = .bl true) E0 hr rfl e0 (hbind s₁ _) (.cons rfl .nil) hsp) fun r s' h => ?_
  cases r with
  | error e => exact h.elim
  | ok fl =>
    cases fl with
    | ret u =>
      obtain ⟨v, H', os, bare, un, hok', rel, e⟩ := h
      subst e
      cases rel
      refine ⟨rfl, OldK.of_keep fun b o e => ?_, os, bare⟩
      rcases hO b with z | ⟨ob, xs, z⟩
      · exact un.keep b o e z List.not_mem_nil List.not_mem_nil
      · have h2 := (hok' b _ (un.frzs b ob _ z)).1
        have h1 := (hok b _ z).1
        rw [h1] at e
        rw [h2]
        exact e
    | _ => exact h.elim
theorem law_callG (KX : K.In s₁.heap) (hns : s₁.heap.Ns mainGlobals mg) (hb : s₁.heap.Ns builtinsNs mb) (hbb : ∀ x : Str, x ≠ ("__name__" : Str) → mb x = bootBuiltins x) (hlim : s₁.heap.NoLimit) (hg : s₁.gens = #[])
    (ha : s₁.heap.get? a = some { cls := .type "list", data := .seq vs.toArray }) (hi : IntsAre vs ns) (hl : ns.length ≤ sizeLine) (hr : Room k callerA) (F : ∀ base : Heap, K.In base → base.Ns mainGlobals mg → OkG P w K mg base k fa fd [x] sp) (hbind : ∀ (s : Shared) (u : Value), BindsTo s fd { pos := [u] } [(x, u)])
    (hsp : ∀ H : Hp, Only H → SqL K H a (ns.map V.int) → sp [.ref a] H (fun v _ => v = .bl true) E0) :
    codeAny (model P w) callerA (.call (.ref fa) { pos := [.ref a] }) (fun r s' => r = .ok (.ret (.bool true)) ∧ OldK s₁.heap s'.heap ∧ s'.os = s₁.os ∧ AllBare s'.gens) s₁ := by
  have rv := vals_ints hi
  have ln := IntsAre.length hi
  cases hk : K.lookup a with
  | none =>
    have hO : Only (hScript a { cls := .type "list", data := .seq vs.toArray } (ns.map V.int)) := fun b => by
      unfold hScript
      by_cases e : b = a
      · rw [if_pos e]
        exact .inr ⟨_, _, rfl⟩
      · rw [if_neg e]
        exact .inl rfl
    have atA : hScript a { cls := .type "list", data := .seq vs.toArray } (ns.map V.int) a = some (.frz { cls := .type "list", data := .seq vs.toArray } (.lst (ns.map V.int))) := if_pos rfl
    refine at_top KX hns hb hbb hlim hg ha hr F hbind _ hO (hsp _ hO (.inl (.inr ⟨_, atA⟩))) (fun b u z => ?_) (fun b z => ?_) fun _ => hk
    · unfold hScript at z
      by_cases e : b = a
      · subst e
        rw [if_pos rfl] at z
        have eu := Option.some.inj z
        subst eu
        exact ⟨ha, by rw [List.length_map]; exact hl, vs, 0, rv, ha⟩
      · rw [if_neg e] at z
        cases z
    · unfold hScript at z
      by_cases e : b = a
      · exact e
      · rw [if_neg e] at z
        exact absurd rfl z
  | some o =>
    have e := KX a o hk
    rw [ha] at e
    have eo := Option.some.inj e
    subst eo
    have hO : Only (fun _ => none) := fun _ => .inl rfl
    refine at_top KX hns hb hbb hlim hg ha hr F hbind _ hO (hsp _ hO (.inr ⟨_, _, _, hk, rfl, rfl, rfl, ?_, rv⟩)) (fun b u z => by cases z) (fun b z => absurd rfl z) fun z => absurd rfl z
    rw [List.size_toArray, ln]
    exact hl
end
theorem walk_ofG {l : PySem.W.OpenLaw} {n k : Nat} {q : Program} {loose : List Str} {XP : (Str → Option Value) → Heap → Prop} {YP : World → Heap → Prop} {d : DefRec} {K : Params → PySem.W.Frag} {sp : World → Sp} {x : Str} (hn : l.most = some n) (hn2 : n ≤ sizeLine) (hdf : d.params.defaults = []) (hr : Room k callerA)
    (hY : ∀ (w : World) (h : Heap), YP w h → (K w.params).In h)
    (F : ∀ (w : World) (mg : Str → Option Value) (fa : Addr) (h : Heap), (K w.params).In h → h.Ns mainGlobals mg → mg d.name = some (.ref fa) →
      ∃ fd, (∀ (s : Shared) (u : Value), BindsTo s fd { pos := [u] } [(x, u)]) ∧ ∀ base : Heap, (K w.params).In base → base.Ns mainGlobals mg → OkG l.prog w (K w.params) mg base k fa fd [x] (sp w))
    (hsp : ∀ (w : World) (H : Hp) (a : Addr) (ns : List Int), ns.length ≤ n → Only H → SqL (K w.params) H a (ns.map V.int) → sp w [.ref a] H (fun v _ => v = .bl true) E0) :
    PySem.W.WalkO q loose XP YP l.row.toRowW d [] fun f vs => call f vs := by
  refine Att.attach_call hn hdf fun w s0 s1 mg mb fa o pm cd doc a vs ns G Y ho hd hcd hmg hobj hints hlen hg => ?_
  have KX := hY w s1.heap Y
  obtain ⟨fd, hb, hF⟩ := F w mg fa s1.heap KX G.T.g hmg
  exact law_callG KX G.T.g G.T.b G.T.builtins G.T.nolimit hg hobj hints (Nat.le_trans hlen hn2) hr hF hb fun H hO hS => hsp w H a ns hlen hO hS
end Wc

set_option Elab.async false
set_option linter.all false
set_option maxRecDepth 100000
/-! The end of a law whose def makes lambdas in one def and wants that no repr is under way. -/
namespace Wc
open PySem PySem.Spec PyProof PyProof.Rows L2 LamX
/-- the heap as the claim sees it: the script, as it stands, and the table of code objects -/
def hBoth (a P : Addr) (scr : Option HO) : Hp := fun b => if b = P then some (.tbl #[]) else if b = a then scr else none
section
variable {P : Program} {w : World} {K : PySem.W.Frag} {mg mb : Str → Option Value} {k : Nat} {fa a c T : Addr} {fd : FuncData} {x : Str} {sp : Sp} {s₁ : Shared} {vs : List Value} {ns : List Int}
theorem top_tab (KX : K.In s₁.heap) (hns : s₁.heap.Ns mainGlobals mg) (hb : s₁.heap.Ns builtinsNs mb) (hbb : ∀ x : Str, x ≠ ("__name__" : Str) → mb x = bootBuiltins x) (hlim : s₁.heap.NoLimit) (hg : s₁.gens = #[])
    (bmain : ∃ (bm : Addr) (ob : Obj), mg "__builtins__" = some (.ref bm) ∧ bm ≠ builtinsNs ∧ s₁.heap.get? bm = some ob ∧ ob.cls = .type "module" ∧ ob.dict = some builtinsNs ∧ ob.data = .plain)
    (hT : s₁.heap.get? T = some { cls := .none, data := .fields #[] }) (nT : K.lookup T = none) (hC : PySem.W.CodeHd s₁.heap c T)
    (ha : s₁.heap.get? a = some { cls := .type "list", data := .seq vs.toArray }) (hr : Room k callerA) (F : ∀ base : Heap, K.In base → base.Ns mainGlobals mg → TabB base mg c T → OkG P w K mg base k fa fd [x] sp) (hbind : ∀ (s : Shared) (u : Value), BindsTo s fd { pos := [u] } [(x, u)])
    (scr : Option HO) (hscr : scr = none ∨ ∃ o xs, scr = some (.frz o (.lst xs))) (hsp : sp [.ref a] (hBoth a T scr) (fun v _ => v = .bl true) E0) (hok : HOk P w (hBoth a T scr) s₁.heap) (hK : scr ≠ none → K.lookup a = none) :
    codeAny (model P w) callerA (.call (.ref fa) { pos := [.ref a] }) (fun r s' => r = .ok (.ret (.bool true)) ∧ OldK s₁.heap s'.heap ∧ s'.os = s₁.os ∧ AllBare s'.gens) s₁ := by
  have atT : hBoth a T scr T = some (.tbl #[]) := if_pos rfl
  have hid : ∀ b, hBoth a T scr b ≠ none → b = T ∨ (b = a ∧ scr ≠ none) := by
    intro b z
    unfold hBoth at z
    by_cases e : b = T
    · exact .inl e
    · rw [if_neg e] at z
      by_cases e2 : b = a
      · rw [if_pos e2] at z
        exact .inr ⟨e2, z⟩
      · rw [if_neg e2] at z
        exact absurd rfl z
  have stays : ∀ {b : Addr} {o : Obj}, s₁.heap.get? b = some o → o ≠ { cls := .none, data := .fields #[] } → o ≠ { cls := .type "list", data := .seq vs.toArray } → hBoth a T scr b = none := by
    intro b o e n1 n2
    cases q : hBoth a T scr b with
    | none => rfl
    | some u =>
      rcases hid b (by rw [q]; exact Option.some_ne_none _) with z | ⟨z, _⟩
      · rw [z, hT] at e
        exact absurd (Option.some.inj e).symm n1
      · rw [z, ha] at e
        exact absurd (Option.some.inj e).symm n2
  have shown : ∀ {b : Addr} {o : Obj}, s₁.heap.get? b = some o → o ≠ { cls := .none, data := .fields #[] } → o ≠ { cls := .type "list", data := .seq vs.toArray } → (hidT s₁.heap (hBoth a T scr)).get? b = some o := fun e n1 n2 => hidT_get e (stays e n1 n2)
  have names : ∀ {b : Addr} {m : Str → Option Value}, s₁.heap.Ns b m → (hidT s₁.heap (hBoth a T scr)).Ns b m := by
    rintro b m ⟨o, es, ep, e, d, r⟩
    refine ⟨o, es, ep, shown e (fun z => ?_) (fun z => ?_), d, r⟩ <;> (rw [z] at d; cases d)
  have hKb : K.In (hidT s₁.heap (hBoth a T scr)) := fun b o e => hidT_get (KX b o e) (by
    cases q : hBoth a T scr b with
    | none => rfl
    | some u =>
      exfalso
      rcases hid b (by rw [q]; exact Option.some_ne_none _) with z | ⟨z, z2⟩
      · rw [z, nT] at e
        cases e
      · rw [z, hK z2] at e
        cases e)
  have hM : L2.Mod K mg (hidT s₁.heap (hBoth a T scr)) := by
    obtain ⟨mc, h1, h2⟩ := hlim
    exact ⟨hKb, names hns, ⟨mb, names hb, hbb⟩, ⟨mc, names h1, h2⟩⟩
  have tab : TabB (hidT s₁.heap (hBoth a T scr)) mg c T := by
    refine ⟨?_, ?_, fun z => ?_⟩
    · obtain ⟨o, us, file, tf, flags, tg, inF, text, tt, e1, r1, rest⟩ := hC
      refine ⟨o, us, file, tf, flags, tg, inF, text, tt, shown e1 (fun z => ?_) (fun z => ?_), r1, rest⟩
      · rw [z] at r1
        cases r1
      · rw [z] at r1
        have z2 : Value.type "list" = Value.type "code" := r1
        exact absurd z2 (by decide)
    · obtain ⟨bm, ob, b1, b2, b3, b4, b5, b6⟩ := bmain
      refine ⟨bm, ob, b1, b2, fun z => ?_, fun z => ?_, shown b3 (fun z => ?_) (fun z => ?_), b4, b5, b6⟩
      · obtain ⟨o, es, ep, e, d, _⟩ := hns
        rw [z, e] at b3
        have z2 := Option.some.inj b3
        rw [← z2, d] at b6
        cases b6
      · rw [z, hT] at b3
        have z2 := Option.some.inj b3
        rw [← z2] at b6
        cases b6
      · rw [z] at b6
        cases b6
      · rw [z] at b6
        cases b6
    · obtain ⟨o, es, ep, e, d, _⟩ := hns
      rw [z, hT] at e
      have z2 := Option.some.inj e
      rw [← z2] at d
      cases d
  have e0 : Env0 P w K mg (hidT s₁.heap (hBoth a T scr)) callerA [] s₁ (hBoth a T scr) := ⟨rfl, hM, fun b o e => of_hidT e, Nat.le_of_eq (hidT_size _ _), trivial, fun b hb => absurd hb List.not_mem_nil, hok, AllBare.of_eq hg⟩
  refine codeAny_mono ((F _ hKb (names hns) tab).run callerA [] s₁ (hBoth a T scr) { pos := [.ref a] } [.ref a] [.ref a] (fun v _ => v = .bl true) E0 hr rfl e0 (hbind s₁ _) (.cons rfl .nil) hsp) fun r s' h => ?_
  cases r with
  | error e => exact h.elim
  | ok fl =>
    cases fl with
    | ret u =>
      obtain ⟨v, H', os, bare, un, hok', rel, e⟩ := h
      subst e
      cases rel
      obtain ⟨more, hm⟩ := un.tbls T #[] atT
      have hm2 : s'.heap.get? T = some { cls := .none, data := .fields (#[] ++ more) } := hok' T _ hm
      have other : ∀ b o, b ≠ T → s₁.heap.get? b = some o → s'.heap.get? b = some o := fun b o nb e => by
        cases q : hBoth a T scr b with
        | none => exact un.keep b o e q List.not_mem_nil List.not_mem_nil
        | some u =>
          rcases hid b (by rw [q]; exact Option.some_ne_none _) with z | ⟨z, z2⟩
          · exact absurd z nb
          · rcases hscr with z3 | ⟨ob, xs, z3⟩
            · exact absurd z3 z2
            · have q2 : hBoth a T scr b = some (.frz ob (.lst xs)) := by
                unfold hBoth
                rw [if_neg nb, if_pos z, z3]
              have h2 := (hok' b _ (un.frzs b ob _ q2)).1
              have h1 := (hok b _ q2).1
              rw [h1] at e
              rw [h2]
              exact e
      refine ⟨rfl, ⟨fun b o e => ?_, fun b o e => ?_⟩, os, bare⟩
      · by_cases nb : b = T
        · rw [nb, hT] at e
          have z := (Option.some.inj e).symm
          subst z
          rw [nb]
          exact .inr (.inl ⟨(hC.tab hT).isCodeTable, rfl, #[], more, rfl, hm2⟩)
        · exact .inl (other b o nb e)
      · by_cases nb : b = T
        · rw [nb]
          exact ⟨_, hm2⟩
        · exact ⟨o, other b o nb e⟩
    | _ => exact h.elim
end
/-- what is known of the law's promise at the head -/
def LawT (l : PySem.W.OpenLaw) (q : Program) (w : World) (K : PySem.W.Frag) (k n : Nat) (x : Str) (mg : Str → Option Value) (fa : Addr) : Prop :=
  ∃ (fd : FuncData) (c T : Addr) (nm : Str) (sp : Sp), ((PyProof.Rows.recsOf q).find? (fun e => e.name == nm)).isSome = true ∧ PySem.W.tabIn K nm = some (c, T) ∧ K.lookup T = none ∧ (∀ (s : Shared) (u : Value), BindsTo s fd { pos := [u] } [(x, u)]) ∧
    (∀ (H : Hp) (a : Addr) (ns : List Int), ns.length ≤ n → H T = some (.tbl #[]) → SqL K H a (ns.map V.int) → sp [.ref a] H (fun v _ => v = .bl true) E0) ∧
    ∀ base : Heap, K.In base → base.Ns mainGlobals mg → TabB base mg c T → OkG l.prog w K mg base k fa fd [x] sp
theorem walk_tab {l : PySem.W.OpenLaw} {n k : Nat} {q : Program} {loose : List Str} {XP : (Str → Option Value) → Heap → Prop} {YP : World → Heap → Prop} {d : DefRec} {K : Params → PySem.W.Frag} {x : Str} (hn : l.most = some n) (hn2 : n ≤ sizeLine) (hdf : d.params.defaults = []) (hr : Room k callerA)
    (hY : ∀ (w : World) (h : Heap), YP w h → (K w.params).In h)
    (F : ∀ (w : World) (mg : Str → Option Value) (fa : Addr) (h : Heap), (K w.params).In h → h.Ns mainGlobals mg → mg d.name = some (.ref fa) → LawT l q w (K w.params) k n x mg fa) :
    PySem.W.WalkO q loose XP YP l.row.toRowW d [] fun f vs => call f vs := by
  refine Att.attach_call hn hdf fun w s0 s1 mg mb fa o pm cd doc a vs ns G Y ho hd hcd hmg hobj hints hlen hg => ?_
  have KX := hY w s1.heap Y
  obtain ⟨fd, c, T, nm, sp, hf, ht, nT, hb, hsp, hF⟩ := F w mg fa s1.heap KX G.T.g hmg
  obtain ⟨dr, hf⟩ := Option.isSome_iff_exists.mp hf
  obtain ⟨hC, hTo⟩ := PySem.W.tab_of G.T KX hf ht
  have rv := vals_ints hints
  have ln := IntsAre.length hints
  have naT : a ≠ T := fun z => by
    rw [z, hTo] at hobj
    cases hobj
  have fits : ns.length ≤ sizeLine := Nat.le_trans hlen hn2
  cases hk : (K w.params).lookup a with
  | none =>
    have atA : hBoth a T (some (.frz { cls := .type "list", data := .seq vs.toArray } (.lst (ns.map V.int)))) a = some (.frz { cls := .type "list", data := .seq vs.toArray } (.lst (ns.map V.int))) := by
      unfold hBoth
      rw [if_neg naT, if_pos rfl]
    refine top_tab KX G.T.g G.T.b G.T.builtins G.T.nolimit hg G.T.bmain hTo nT hC hobj hr hF hb _ (.inr ⟨_, _, rfl⟩) (hsp _ a ns hlen (if_pos rfl) (.inl (.inr ⟨_, atA⟩))) (fun b u z => ?_) fun _ => hk
    unfold hBoth at z
    by_cases e : b = T
    · rw [if_pos e] at z
      cases z
      rw [e]
      exact hTo
    · rw [if_neg e] at z
      by_cases e2 : b = a
      · rw [if_pos e2] at z
        cases z
        rw [e2]
        exact ⟨hobj, by rw [List.length_map]; exact fits, vs, 0, rv, hobj⟩
      · rw [if_neg e2] at z
        cases z
  | some o2 =>
    have e := KX a o2 hk
    rw [hobj] at e
    have eo := Option.some.inj e
    subst eo
    refine top_tab KX G.T.g G.T.b G.T.builtins G.T.nolimit hg G.T.bmain hTo nT hC hobj hr hF hb none (.inl rfl) (hsp _ a ns hlen (if_pos rfl) (.inr ⟨_, _, _, hk, rfl, rfl, rfl, ?_, rv⟩)) (fun b u z => ?_) fun z => absurd rfl z
    · rw [List.size_toArray, ln]
      exact fits
    · unfold hBoth at z
      by_cases e : b = T
      · rw [if_pos e] at z
        cases z
        rw [e]
        exact hTo
      · rw [if_neg e] at z
        by_cases e2 : b = a
        · rw [if_pos e2] at z
          cases z
        · rw [if_neg e2] at z
          cases z
end Wc

set_option Elab.async false
set_option linter.all false
set_option maxRecDepth 100000
/-! The end of a law that makes lambdas in two defs. -/
namespace Wc
open PySem PySem.Spec PyProof PyProof.Rows L2 LamX
/-- the heap as the claim sees it: the script, as it stands, and the two tables of code objects -/
def hTwo (a P R : Addr) (scr : Option HO) : Hp := fun b => if b = P then some (.tbl #[]) else if b = R then some (.tbl #[]) else if b = a then scr else none
section
variable {P : Program} {w : World} {K : PySem.W.Frag} {mg mb : Str → Option Value} {k : Nat} {fa a c TT c2 T2 : Addr} {fd : FuncData} {x : Str} {sp : Sp} {s₁ : Shared} {vs : List Value} {ns : List Int}
theorem top_tab2 (KX : K.In s₁.heap) (hns : s₁.heap.Ns mainGlobals mg) (hb : s₁.heap.Ns builtinsNs mb) (hbb : ∀ x : Str, x ≠ ("__name__" : Str) → mb x = bootBuiltins x) (hlim : s₁.heap.NoLimit) (hg : s₁.gens = #[])
    (bmain : ∃ (bm : Addr) (ob : Obj), mg "__builtins__" = some (.ref bm) ∧ bm ≠ builtinsNs ∧ s₁.heap.get? bm = some ob ∧ ob.cls = .type "module" ∧ ob.dict = some builtinsNs ∧ ob.data = .plain)
    (hT : s₁.heap.get? TT = some { cls := .none, data := .fields #[] }) (nT : K.lookup TT = none) (hC : PySem.W.CodeHd s₁.heap c TT)
    (hT2 : s₁.heap.get? T2 = some { cls := .none, data := .fields #[] }) (nT2 : K.lookup T2 = none) (hC2 : PySem.W.CodeHd s₁.heap c2 T2)
    (ha : s₁.heap.get? a = some { cls := .type "list", data := .seq vs.toArray }) (hr : Room k callerA) (F : ∀ base : Heap, K.In base → base.Ns mainGlobals mg → TabB base mg c TT → TabB base mg c2 T2 → OkG P w K mg base k fa fd [x] sp) (hbind : ∀ (s : Shared) (u : Value), BindsTo s fd { pos := [u] } [(x, u)])
    (scr : Option HO) (hscr : scr = none ∨ ∃ o xs, scr = some (.frz o (.lst xs))) (hsp : sp [.ref a] (hTwo a TT T2 scr) (fun v _ => v = .bl true) E0) (hok : HOk P w (hTwo a TT T2 scr) s₁.heap) (hK : scr ≠ none → K.lookup a = none) :
    codeAny (model P w) callerA (.call (.ref fa) { pos := [.ref a] }) (fun r s' => r = .ok (.ret (.bool true)) ∧ OldK s₁.heap s'.heap ∧ s'.os = s₁.os ∧ AllBare s'.gens) s₁ := by
  have atT : hTwo a TT T2 scr TT = some (.tbl #[]) := if_pos rfl
  have atT2 : hTwo a TT T2 scr T2 = some (.tbl #[]) := by
    unfold hTwo
    by_cases e : T2 = TT
    · rw [if_pos e]
    · rw [if_neg e, if_pos rfl]
  have hid : ∀ b, hTwo a TT T2 scr b ≠ none → (b = TT ∨ b = T2) ∨ (b = a ∧ scr ≠ none) := by
    intro b z
    unfold hTwo at z
    by_cases e : b = TT
    · exact .inl (.inl e)
    · rw [if_neg e] at z
      by_cases e3 : b = T2
      · exact .inl (.inr e3)
      · rw [if_neg e3] at z
        by_cases e2 : b = a
        · rw [if_pos e2] at z
          exact .inr ⟨e2, z⟩
        · rw [if_neg e2] at z
          exact absurd rfl z
  have isT : ∀ {b : Addr}, b = TT ∨ b = T2 → s₁.heap.get? b = some { cls := .none, data := .fields #[] } := fun h => by
    rcases h with rfl | rfl
    · exact hT
    · exact hT2
  have stays : ∀ {b : Addr} {o : Obj}, s₁.heap.get? b = some o → o ≠ { cls := .none, data := .fields #[] } → o ≠ { cls := .type "list", data := .seq vs.toArray } → hTwo a TT T2 scr b = none := by
    intro b o e n1 n2
    cases q : hTwo a TT T2 scr b with
    | none => rfl
    | some u =>
      rcases hid b (by rw [q]; exact Option.some_ne_none _) with z | ⟨z, _⟩
      · rw [isT z] at e
        exact absurd (Option.some.inj e).symm n1
      · rw [z, ha] at e
        exact absurd (Option.some.inj e).symm n2
  have shown : ∀ {b : Addr} {o : Obj}, s₁.heap.get? b = some o → o ≠ { cls := .none, data := .fields #[] } → o ≠ { cls := .type "list", data := .seq vs.toArray } → (hidT s₁.heap (hTwo a TT T2 scr)).get? b = some o := fun e n1 n2 => hidT_get e (stays e n1 n2)
  have names : ∀ {b : Addr} {m : Str → Option Value}, s₁.heap.Ns b m → (hidT s₁.heap (hTwo a TT T2 scr)).Ns b m := by
    rintro b m ⟨o, es, ep, e, d, r⟩
    refine ⟨o, es, ep, shown e (fun z => ?_) (fun z => ?_), d, r⟩ <;> (rw [z] at d; cases d)
  have hKb : K.In (hidT s₁.heap (hTwo a TT T2 scr)) := fun b o e => hidT_get (KX b o e) (by
    cases q : hTwo a TT T2 scr b with
    | none => rfl
    | some u =>
      exfalso
      rcases hid b (by rw [q]; exact Option.some_ne_none _) with (z | z) | ⟨z, z2⟩
      · rw [z, nT] at e
        cases e
      · rw [z, nT2] at e
        cases e
      · rw [z, hK z2] at e
        cases e)
  have hM : L2.Mod K mg (hidT s₁.heap (hTwo a TT T2 scr)) := by
    obtain ⟨mc, h1, h2⟩ := hlim
    exact ⟨hKb, names hns, ⟨mb, names hb, hbb⟩, ⟨mc, names h1, h2⟩⟩
  have tab : ∀ (c T : Addr), s₁.heap.get? T = some { cls := .none, data := .fields #[] } → PySem.W.CodeHd s₁.heap c T → TabB (hidT s₁.heap (hTwo a TT T2 scr)) mg c T := by
    intro c T hT hC
    refine ⟨?_, ?_, fun z => ?_⟩
    · obtain ⟨o, us, file, tf, flags, tg, inF, text, tt, e1, r1, rest⟩ := hC
      refine ⟨o, us, file, tf, flags, tg, inF, text, tt, shown e1 (fun z => ?_) (fun z => ?_), r1, rest⟩
      · rw [z] at r1
        cases r1
      · rw [z] at r1
        have z2 : Value.type "list" = Value.type "code" := r1
        exact absurd z2 (by decide)
    · obtain ⟨bm, ob, b1, b2, b3, b4, b5, b6⟩ := bmain
      refine ⟨bm, ob, b1, b2, fun z => ?_, fun z => ?_, shown b3 (fun z => ?_) (fun z => ?_), b4, b5, b6⟩
      · obtain ⟨o, es, ep, e, d, _⟩ := hns
        rw [z, e] at b3
        have z2 := Option.some.inj b3
        rw [← z2, d] at b6
        cases b6
      · rw [z, hT] at b3
        have z2 := Option.some.inj b3
        rw [← z2] at b6
        cases b6
      · rw [z] at b6
        cases b6
      · rw [z] at b6
        cases b6
    · obtain ⟨o, es, ep, e, d, _⟩ := hns
      rw [z, hT] at e
      have z2 := Option.some.inj e
      rw [← z2] at d
      cases d
  have e0 : Env0 P w K mg (hidT s₁.heap (hTwo a TT T2 scr)) callerA [] s₁ (hTwo a TT T2 scr) := ⟨rfl, hM, fun b o e => of_hidT e, Nat.le_of_eq (hidT_size _ _), trivial, fun b hb => absurd hb List.not_mem_nil, hok, AllBare.of_eq hg⟩
  refine codeAny_mono ((F _ hKb (names hns) (tab c TT hT hC) (tab c2 T2 hT2 hC2)).run callerA [] s₁ (hTwo a TT T2 scr) { pos := [.ref a] } [.ref a] [.ref a] (fun v _ => v = .bl true) E0 hr rfl e0 (hbind s₁ _) (.cons rfl .nil) hsp) fun r s' h => ?_
  cases r with
  | error e => exact h.elim
  | ok fl =>
    cases fl with
    | ret u =>
      obtain ⟨v, H', os, bare, un, hok', rel, e⟩ := h
      subst e
      cases rel
      have grown : ∀ {b : Addr}, b = TT ∨ b = T2 → ∃ more, s'.heap.get? b = some { cls := .none, data := .fields (#[] ++ more) } := fun h => by
        rcases h with rfl | rfl
        · obtain ⟨more, hm⟩ := un.tbls _ #[] atT
          exact ⟨more, hok' _ _ hm⟩
        · obtain ⟨more, hm⟩ := un.tbls _ #[] atT2
          exact ⟨more, hok' _ _ hm⟩
      have isTab : ∀ {b : Addr}, b = TT ∨ b = T2 → isCodeTable s₁.heap b := fun h => by
        rcases h with rfl | rfl
        · exact (hC.tab hT).isCodeTable
        · exact (hC2.tab hT2).isCodeTable
      have other : ∀ b o, ¬ (b = TT ∨ b = T2) → s₁.heap.get? b = some o → s'.heap.get? b = some o := fun b o nb e => by
        cases q : hTwo a TT T2 scr b with
        | none => exact un.keep b o e q List.not_mem_nil List.not_mem_nil
        | some u =>
          rcases hid b (by rw [q]; exact Option.some_ne_none _) with z | ⟨z, z2⟩
          · exact absurd z nb
          · rcases hscr with z3 | ⟨ob, xs, z3⟩
            · exact absurd z3 z2
            · have q2 : hTwo a TT T2 scr b = some (.frz ob (.lst xs)) := by
                unfold hTwo
                rw [if_neg (fun z => nb (.inl z)), if_neg (fun z => nb (.inr z)), if_pos z, z3]
              have h2 := (hok' b _ (un.frzs b ob _ q2)).1
              have h1 := (hok b _ q2).1
              rw [h1] at e
              rw [h2]
              exact e
      refine ⟨rfl, ⟨fun b o e => ?_, fun b o e => ?_⟩, os, bare⟩
      · by_cases nb : b = TT ∨ b = T2
        · rw [isT nb] at e
          have z := (Option.some.inj e).symm
          subst z
          obtain ⟨more, hm2⟩ := grown nb
          exact .inr (.inl ⟨isTab nb, rfl, #[], more, rfl, hm2⟩)
        · exact .inl (other b o nb e)
      · by_cases nb : b = TT ∨ b = T2
        · obtain ⟨more, hm2⟩ := grown nb
          exact ⟨_, hm2⟩
        · exact ⟨o, other b o nb e⟩
    | _ => exact h.elim
end
/-- what is known of the law's promise at the head -/
def LawT2 (l : PySem.W.OpenLaw) (q : Program) (w : World) (K : PySem.W.Frag) (k n : Nat) (x : Str) (mg : Str → Option Value) (fa : Addr) : Prop :=
  ∃ (fd : FuncData) (c T c2 T2 : Addr) (nm nm2 : Str) (sp : Sp), (((PyProof.Rows.recsOf q).find? (fun e => e.name == nm)).isSome = true ∧ PySem.W.tabIn K nm = some (c, T) ∧ K.lookup T = none) ∧ (((PyProof.Rows.recsOf q).find? (fun e => e.name == nm2)).isSome = true ∧ PySem.W.tabIn K nm2 = some (c2, T2) ∧ K.lookup T2 = none) ∧ (∀ (s : Shared) (u : Value), BindsTo s fd { pos := [u] } [(x, u)]) ∧
    (∀ (H : Hp) (a : Addr) (ns : List Int), ns.length ≤ n → H T = some (.tbl #[]) → H T2 = some (.tbl #[]) → SqL K H a (ns.map V.int) → sp [.ref a] H (fun v _ => v = .bl true) E0) ∧
    ∀ base : Heap, K.In base → base.Ns mainGlobals mg → TabB base mg c T → TabB base mg c2 T2 → OkG l.prog w K mg base k fa fd [x] sp
theorem walk_tab2 {l : PySem.W.OpenLaw} {n k : Nat} {q : Program} {loose : List Str} {XP : (Str → Option Value) → Heap → Prop} {YP : World → Heap → Prop} {d : DefRec} {K : Params → PySem.W.Frag} {x : Str} (hn : l.most = some n) (hn2 : n ≤ sizeLine) (hdf : d.params.defaults = []) (hr : Room k callerA)
    (hY : ∀ (w : World) (h : Heap), YP w h → (K w.params).In h)
    (F : ∀ (w : World) (mg : Str → Option Value) (fa : Addr) (h : Heap), (K w.params).In h → h.Ns mainGlobals mg → mg d.name = some (.ref fa) → LawT2 l q w (K w.params) k n x mg fa) :
    PySem.W.WalkO q loose XP YP l.row.toRowW d [] fun f vs => call f vs := by
  refine Att.attach_call hn hdf fun w s0 s1 mg mb fa o pm cd doc a vs ns G Y ho hd hcd hmg hobj hints hlen hg => ?_
  have KX := hY w s1.heap Y
  obtain ⟨fd, c, T, c2, T2, nm, nm2, sp, ⟨hf, ht, nT⟩, ⟨hf2, ht2, nT2⟩, hb, hsp, hF⟩ := F w mg fa s1.heap KX G.T.g hmg
  obtain ⟨dr, hf⟩ := Option.isSome_iff_exists.mp hf
  obtain ⟨dr2, hf2⟩ := Option.isSome_iff_exists.mp hf2
  obtain ⟨hC, hTo⟩ := PySem.W.tab_of G.T KX hf ht
  obtain ⟨hC2, hTo2⟩ := PySem.W.tab_of G.T KX hf2 ht2
  have rv := vals_ints hints
  have ln := IntsAre.length hints
  have naT : a ≠ T := fun z => by
    rw [z, hTo] at hobj
    cases hobj
  have naT2 : a ≠ T2 := fun z => by
    rw [z, hTo2] at hobj
    cases hobj
  have at1 : ∀ scr, hTwo a T T2 scr T = some (.tbl #[]) := fun scr => if_pos rfl
  have at2 : ∀ scr, hTwo a T T2 scr T2 = some (.tbl #[]) := fun scr => by
    unfold hTwo
    by_cases e : T2 = T
    · rw [if_pos e]
    · rw [if_neg e, if_pos rfl]
  have fits : ns.length ≤ sizeLine := Nat.le_trans hlen hn2
  cases hk : (K w.params).lookup a with
  | none =>
    have atA : hTwo a T T2 (some (.frz { cls := .type "list", data := .seq vs.toArray } (.lst (ns.map V.int)))) a = some (.frz { cls := .type "list", data := .seq vs.toArray } (.lst (ns.map V.int))) := by
      unfold hTwo
      rw [if_neg naT, if_neg naT2, if_pos rfl]
    refine top_tab2 KX G.T.g G.T.b G.T.builtins G.T.nolimit hg G.T.bmain hTo nT hC hTo2 nT2 hC2 hobj hr hF hb _ (.inr ⟨_, _, rfl⟩) (hsp _ a ns hlen (at1 _) (at2 _) (.inl (.inr ⟨_, atA⟩))) (fun b u z => ?_) fun _ => hk
    unfold hTwo at z
    by_cases e : b = T
    · rw [if_pos e] at z
      cases z
      rw [e]
      exact hTo
    · rw [if_neg e] at z
      by_cases e3 : b = T2
      · rw [if_pos e3] at z
        cases z
        rw [e3]
        exact hTo2
      rw [if_neg e3] at z
      by_cases e2 : b = a
      · rw [if_pos e2] at z
        cases z
        rw [e2]
        exact ⟨hobj, by rw [List.length_map]; exact fits, vs, 0, rv, hobj⟩
      · rw [if_neg e2] at z
        cases z
  | some o2 =>
    have e := KX a o2 hk
    rw [hobj] at e
    have eo := Option.some.inj e
    subst eo
    refine top_tab2 KX G.T.g G.T.b G.T.builtins G.T.nolimit hg G.T.bmain hTo nT hC hTo2 nT2 hC2 hobj hr hF hb none (.inl rfl) (hsp _ a ns hlen (at1 _) (at2 _) (.inr ⟨_, _, _, hk, rfl, rfl, rfl, ?_, rv⟩)) (fun b u z => ?_) fun z => absurd rfl z
    · rw [List.size_toArray, ln]
      exact fits
    · unfold hTwo at z
      by_cases e : b = T
      · rw [if_pos e] at z
        cases z
        rw [e]
        exact hTo
      · rw [if_neg e] at z
        by_cases e3 : b = T2
        · rw [if_pos e3] at z
          cases z
          rw [e3]
          exact hTo2
        rw [if_neg e3] at z
        by_cases e2 : b = a
        · rw [if_pos e2] at z
          cases z
        · rw [if_neg e2] at z
          cases z
end Wc

set_option Elab.async false
set_option linter.all false
set_option maxRecDepth 100000
namespace Wc
open PySem PySem.Spec PyProof.Rows L2 LamX
theorem all_lawZ {P : Program} {w : World} {K : PySem.W.Frag} {mg : Str → Option Value} {base : Heap} {f9 : Addr} {CG CP CN cS pS pR CW cR : Addr} {fd9 : FuncData} (F9 : Fun K "law" "law" s_law f9 fd9) (T : Blt mg) (C : Cst mg)
    (D_law_begun : DefAt K mg "_law_begun" s_law_begun ["script"])
    (D_law_folded : DefAt K mg "_law_folded" s_law_folded ["script"])
    (D_law_draw : DefAt K mg "_law_draw" s_law_draw ["m", "top"])
    (D_law_mixed : DefAt K mg "_law_mixed" s_law_mixed ["cell", "n"])
    (D_law_any_net : DefAt K mg "_law_any_net" s_law_any_net ["m", "many", "rings", "more"])
    (D_law_net : DefAt K mg "_law_net" s_law_net ["m", "many", "rings", "more"])
    (D_law_base : DefAt K mg "_law_base" s_law_base ["m"])
    (D_law_amount : DefAt K mg "_law_amount" s_law_amount ["m", "base"])
    (D_law_tubes : DefAt K mg "_law_tubes" s_law_tubes ["m", "many", "base", "rings", "more"])
    (D_law_mixed_up : DefAt K mg "_law_mixed_up" s_law_mixed_up ["m", "things"])
    (D_law_root : DefAt K mg "_law_root" s_law_root ["trees", "at"])
    (D_law_bent : DefAt K mg "_law_bent" s_law_bent ["m", "net"])
    (D_law_sets : DefAt K mg "_law_sets" s_law_sets ["many"])
    (D_law_narrowed : DefAt K mg "_law_narrowed" s_law_narrowed ["m", "net"])
    (DT_law_right : DefTab K mg "_law_right" s_law_right ["net", "spots_there"] cR)
    (TB_cR : TabB base mg cR pR)
    (hne : pS ≠ pR)
    (D_checked_branches : DefAt K mg "checked_branches" s_checked_branches ["value"])
    (D_is_between : DefAt K mg "is_between" s_is_between ["value", "low", "high"])
    (D_is_integer : DefAt K mg "is_integer" s_is_integer ["value"])
    (D_is_pipe : DefAt K mg "is_pipe" s_is_pipe ["value", "modulus", "places"])
    (D_find_branches : DefAt K mg "find_branches" s_find_branches ["places", "pipes"])
    (D_find_bounds : DefAt K mg "find_bounds" s_find_bounds ["network", "known"])
    (D_checked_residues : DefAt K mg "checked_residues" s_checked_residues ["network", "branches"])
    (x_GroupSum : X1 P w K mg base "GroupSum" CG "group")
    (D_read_meters : DefAt K mg "read_meters" s_read_meters ["network", "branches"])
    (D_carry_along : DefAt K mg "carry_along" s_carry_along ["network", "branches", "counts"])
    (D_place_balances : DefAt K mg "place_balances" s_place_balances ["network", "counts"])
    (D_find_sums : DefAt K mg "find_sums" s_find_sums ["network", "branches", "left"])
    (D_find_groups : DefAt K mg "find_groups" s_find_groups ["places", "branches"])
    (N_bounds : ∃ (f : Addr) (fd : FuncData), Fun K "bounds" "bounds" s_bounds f fd ∧ mg "bounds" = some (.ref f) ∧ Binds K fd ["network"] [] ∧ KBn K fd ["network"] 0 ["network"] (fun _ ws => ws) (fun _ zs => zs))
    (D_check_places : DefAt K mg "check_places" s_check_places ["network", "places"])
    (x_InvalidPlaces : X1 P w K mg base "InvalidPlaces" CP "value")
    (D_is_number_set : DefAt K mg "is_number_set" s_is_number_set ["value", "end"])
    (D_checked_bounds : DefAt K mg "checked_bounds" s_checked_bounds ["network", "branches"])
    (x_NoCount : X1 P w K mg base "NoCount" CN "pipe")
    (D_find_excess : DefAt K mg "find_excess" s_find_excess ["network", "limits", "places"])
    (N_excess : ∃ (f : Addr) (fd : FuncData), Fun K "excess" "excess" s_excess f fd ∧ mg "excess" = some (.ref f) ∧ Binds K fd ["network", "places"] [] ∧ KBn K fd ["network", "places"] 0 ["places", "network"] (fun _ ws => ws.reverse) (fun _ zs => zs.reverse))
    (D_law_wrong : DefAt K mg "_law_wrong" s_law_wrong ["net"])
    (D_law_clusters : DefAt K mg "_law_clusters" s_law_clusters ["net"])
    (D_law_joined : DefAt K mg "_law_joined" s_law_joined ["net", "at", "without"])
    (D_law_is_wide : DefAt K mg "_law_is_wide" s_law_is_wide ["tube"])
    (D_law_total : DefAt K mg "_law_total" s_law_total ["net", "spots"])
    (D_law_shown : DefAt K mg "_law_shown" s_law_shown ["net", "tube"])
    (D_law_ins : DefAt K mg "_law_ins" s_law_ins ["net", "spots"])
    (D_law_outs : DefAt K mg "_law_outs" s_law_outs ["net", "spots"])
    (D_law_pairs : DefAt K mg "_law_pairs" s_law_pairs ["net"])
    (D_law_pair : DefAt K mg "_law_pair" s_law_pair ["net", "tube", "rest"])
    (D_law_rests : DefAt K mg "_law_rests" s_law_rests ["net"])
    (DT_law_sets_right : DefTab K mg "_law_sets_right" s_law_sets_right ["net", "pairs", "spots_there"] cS)
    (TB_cS : TabB base mg cS pS)
    (D_law_surplus : DefAt K mg "_law_surplus" s_law_surplus ["net", "limits", "spots"])
    (D_law_caught : DefAt K mg "_law_caught" s_law_caught ["call"])
    (cW : mg "WrapcountError" = some (.ref CW))
    (kP : K1 K mg CW "InvalidPlaces" CP "value")
    (kG : K1 K mg CW "GroupSum" CG "group")
    (kN : K1 K mg CW "NoCount" CN "pipe")
    (gPP : PySem.W.kitOne K (.ref CP) (.ref CP) = some true)
    (gP : PySem.W.kitOne K (.ref CG) (.ref CP) = some false)
    (gG : PySem.W.kitOne K (.ref CG) (.ref CG) = some true)
    (gNP : PySem.W.kitOne K (.ref CN) (.ref CP) = some false)
    (gNG : PySem.W.kitOne K (.ref CN) (.ref CG) = some false)
    (gNN : PySem.W.kitOne K (.ref CN) (.ref CN) = some true) :
    OkG P w K mg base 11 f9 fd9 ["script"] ((sp_law5 K pS pR)) := by
  have h_law_folded := has_law_folded (P := P) (w := w) (base := base) D_law_folded T
  have h_law_begun := has_law_begun (P := P) (w := w) (base := base) D_law_begun T h_law_folded
  have h_law_mixed := has_law_mixed (P := P) (w := w) (base := base) D_law_mixed
  have h_law_draw := has_law_draw (P := P) (w := w) (base := base) D_law_draw T h_law_mixed
  have h_law_base := has_law_base (P := P) (w := w) (base := base) D_law_base T h_law_draw
  have h_law_amount := has_law_amount (P := P) (w := w) (base := base) D_law_amount T h_law_draw
  have h_law_mixed_up := has_law_mixed_up (P := P) (w := w) (base := base) D_law_mixed_up T h_law_draw
  have h_law_tubes := has_law_tubes (P := P) (w := w) (base := base) D_law_tubes T h_law_draw h_law_mixed_up h_law_amount
  have h_law_root := has_law_root (P := P) (w := w) (base := base) D_law_root T
  have h_law_net := has_law_net (P := P) (w := w) (base := base) D_law_net T h_law_draw h_law_base h_law_amount h_law_tubes h_law_root
  have h_law_bent := has_law_bent (P := P) (w := w) (base := base) D_law_bent T h_law_draw
  have h_law_any_net := has_law_any_net (P := P) (w := w) (base := base) D_law_any_net T h_law_draw h_law_net h_law_bent
  have h_law_sets := has_law_sets (P := P) (w := w) (base := base) D_law_sets T
  have h_law_narrowed := has_law_narrowed (P := P) (w := w) (base := base) D_law_narrowed T h_law_draw
  have h_is_integer := has_is_integer (P := P) (w := w) (base := base) D_is_integer T
  have h_is_between := has_is_between (P := P) (w := w) (base := base) D_is_between T h_is_integer
  have h_is_pipe := has_is_pipe (P := P) (w := w) (base := base) D_is_pipe T C
  have h_find_branches := has_find_branches (P := P) (w := w) (base := base) D_find_branches T
  have h_checked_branches := has_checked_branches (P := P) (w := w) (base := base) D_checked_branches T C h_is_between h_is_pipe h_find_branches
  have h_find_bounds := has_find_bounds (P := P) (w := w) (base := base) D_find_bounds T
  have h_place_balances := has_place_balances (P := P) (w := w) (base := base) D_place_balances T
  have h_carry_along := has_carry_along (P := P) (w := w) (base := base) D_carry_along h_place_balances
  have h_read_meters := has_read_meters (P := P) (w := w) (base := base) D_read_meters h_carry_along
  have h_find_groups := has_find_groups (P := P) (w := w) (base := base) D_find_groups T
  have h_find_sums := has_find_sums (P := P) (w := w) (base := base) D_find_sums T h_find_groups
  have h_checked_residues := hasX_checked_residues (P := P) (w := w) (base := base) D_checked_residues T x_GroupSum h_read_meters h_find_sums
  obtain ⟨f_bounds, fd_bounds, F_bounds, m_bounds, b_bounds, k0_bounds⟩ := N_bounds
  have h_bounds : HasX P w K mg base "bounds" 6 ["network"] (sp_bounds K CG) := ⟨f_bounds, fd_bounds, m_bounds, F_bounds.kp, b_bounds, fnX_bounds (P := P) (w := w) (base := base) F_bounds T h_checked_branches h_find_bounds h_checked_residues⟩
  have h_bounds_kw : HasKX P w K mg base "bounds" 6 ["network"] ["network"] (sp_bounds K CG) := ⟨f_bounds, fd_bounds, m_bounds, F_bounds.kp, k0_bounds, fnX_bounds (P := P) (w := w) (base := base) F_bounds T h_checked_branches h_find_bounds h_checked_residues⟩
  have h_is_number_set := has_is_number_set (P := P) (w := w) (base := base) D_is_number_set T h_is_between
  have h_check_places := hasX_check_places (P := P) (w := w) (base := base) D_check_places x_InvalidPlaces h_is_number_set
  have h_checked_bounds := hasX_checked_bounds (P := P) (w := w) (base := base) D_checked_bounds T x_NoCount h_find_bounds h_checked_residues
  have h_find_excess := has_find_excess (P := P) (w := w) (base := base) D_find_excess T
  obtain ⟨f_excess, fd_excess, F_excess, m_excess, b_excess, k0_excess⟩ := N_excess
  have h_excess : HasX P w K mg base "excess" 6 ["network", "places"] (sp_excess K CP CG CN) := ⟨f_excess, fd_excess, m_excess, F_excess.kp, b_excess, fnX_excess (P := P) (w := w) (base := base) F_excess T h_checked_branches h_check_places h_checked_bounds h_find_excess⟩
  have h_law_is_wide := has_law_is_wide (P := P) (w := w) (base := base) D_law_is_wide
  have h_law_joined := has_law_joined (P := P) (w := w) (base := base) D_law_joined T h_law_is_wide
  have h_law_clusters := has_law_clusters (P := P) (w := w) (base := base) D_law_clusters T h_law_joined
  have h_law_shown := has_law_shown (P := P) (w := w) (base := base) D_law_shown
  have h_law_ins := has_law_ins (P := P) (w := w) (base := base) D_law_ins T
  have h_law_outs := has_law_outs (P := P) (w := w) (base := base) D_law_outs T
  have h_law_total := has_law_total (P := P) (w := w) (base := base) D_law_total T h_law_is_wide h_law_shown h_law_ins h_law_outs
  have h_law_wrong := has_law_wrong5 (P := P) (w := w) (base := base) D_law_wrong T h_law_clusters h_law_total
  have h_law_pair := has_law_pair (P := P) (w := w) (base := base) D_law_pair T
  have h_law_rests := has_law_rests (P := P) (w := w) (base := base) D_law_rests T h_law_is_wide h_law_shown h_law_joined h_law_total
  have h_law_pairs := has_law_pairs (P := P) (w := w) (base := base) D_law_pairs T h_law_pair h_law_rests
  have h_excess_kw : HasKR P w K mg base "excess" 6 ["network", "places"] ["places", "network"] (sp_excess K CP CG CN) := ⟨f_excess, fd_excess, m_excess, F_excess.kp, k0_excess, fnX_excess (P := P) (w := w) (base := base) F_excess T h_checked_branches h_check_places h_checked_bounds h_find_excess⟩
  have h_law_surplus := has_law_surplus (P := P) (w := w) (base := base) D_law_surplus T h_law_ins h_law_outs
  have h_law_sets_right := has_law_sets_right (P := P) (w := w) (base := base) DT_law_sets_right TB_cS hne T h_excess h_excess_kw h_law_surplus h_law_ins h_law_outs D_law_caught cW kP kG kN gPP gP gG gNP gNG gNN
  have h_law_right := has_law_right5 (P := P) (w := w) (base := base) DT_law_right TB_cR hne T h_bounds h_bounds_kw h_excess h_law_wrong h_law_pairs h_law_sets_right D_law_caught cW kP kG kN gPP gP gG gNP gNG gNN
  exact ok_law5 F9 T h_law_begun h_law_draw h_law_any_net h_law_net h_law_sets h_law_mixed_up h_law_narrowed h_law_right
end Wc

set_option Elab.async false
set_option linter.all false
set_option maxRecDepth 100000
namespace Wc
open PySem PySem.Spec PySem.W PyProof.Rows L2 LamX NdefX
theorem def_at {K : Frag} {h : Heap} {mg : Str → Option Value} (X : K.In h) (G : h.Ns mainGlobals mg) {x : Str} {st : Stmt} {ps : List Str} {f : Addr} {od an : Option Addr} {sl : Array (Option Value)} {oc kV dc pm cd ct : Value}
    (a : nsIn K mainGlobals x = some (some (.ref f))) (l : K.lookup f = some ⟨oc, od, .func (fnOf x x (defArgs st) (defBody st) (defScope st) .none kV dc pm an cd ct), sl⟩) (c : codeIn K cd x = true) (k : keepIn K (.ref f) = true)
    (hb : ∀ {f : Addr} {fd : FuncData}, Fun K x x st f fd → Binds K fd ps []) : DefAt K mg x st ps := by
  have F := fun_mk (st := st) l c k
  exact ⟨f, _, F, mg_of X G a, hb F⟩
theorem none_of {K : Frag} {h : Heap} {mg : Str → Option Value} (X : K.In h) (G : h.Ns mainGlobals mg) {x : Str} (a : nsIn K mainGlobals x = some none) : mg x = none := mg_none_of X G a
theorem cst_of {K : Frag} {h : Heap} {mg : Str → Option Value} (X : K.In h) (G : h.Ns mainGlobals mg) {x : Str} {i : Int} {v : Value} (a : nsIn K mainGlobals x = some (some v)) (hv : RelV (.int i) v) : ∃ u, mg x = some u ∧ RelV (.int i) u := ⟨_, mg_of X G a, hv⟩
theorem vals_rev {zs : List V} {ws : List Value} (h : Vals zs ws) : Vals zs.reverse ws.reverse := by
  induction h with
  | nil => exact .nil
  | cons r _ ih =>
    rw [List.reverse_cons, List.reverse_cons]
    exact Paired.snoc ih r
theorem exm_of {K : Frag} {C : Addr} {cls : Value} (h1 : subIn K (.ref C) (.type "BaseException") = some true) (hdct : hasDictIn K C = true) (ht : typeIn K (.ref C) = some (.type "type")) (h4 : subIn K cls (.ref C) = some true) : exmOne K cls (.ref C) = some true := exm_ref h1 hdct ht h4
theorem cls_of {K : Frag} {h : Heap} {mg : Str → Option Value} (X : K.In h) (G : h.Ns mainGlobals mg) {x : Str} {C : Addr} (a : nsIn K mainGlobals x = some (some (.ref C))) : mg x = some (.ref C) := mg_of X G a

theorem kx_of {K : Frag} {C : Addr} (ga : findIn K (.ref C) "__getattribute__" = some (some (.builtin "BaseException.__getattribute__"))) (gg : findIn K (.ref C) "__getattr__" = some none)
    (e1 : subIn K (.ref C) (.type "BaseException") = some true) (e2 : hasDictIn K C = true) (e3 : findIn K (.ref C) "__class__" = some (some (.builtin "object.__class__"))) (e4 : specialIn K (.builtin "object.__class__") "__get__" = some (some (.builtin "getset_descriptor.__get__"))) (e5 : takesIn K (.builtin "object.__class__") = some true) (e6 : mroIn K C (.type "object") = some true) : KxC K C :=
  ⟨⟨ga, gg, e1, e2⟩, by obtain ⟨cd, hc, _⟩ := any_some e2; rw [hc]; rfl, e3, e4, e5, e6⟩
theorem k1_of {K : Frag} {h : Heap} {mg : Str → Option Value} (X : K.In h) (G : h.Ns mainGlobals mg) {x f : Str} {C CW : Addr} (a : nsIn K mainGlobals x = some (some (.ref C))) (ga : findIn K (.ref C) "__getattribute__" = some (some (.builtin "BaseException.__getattribute__"))) (gg : findIn K (.ref C) "__getattr__" = some none)
    (e1 : subIn K (.ref C) (.type "BaseException") = some true) (e2 : hasDictIn K C = true) (e3 : findIn K (.ref C) "__class__" = some (some (.builtin "object.__class__"))) (e4 : specialIn K (.builtin "object.__class__") "__get__" = some (some (.builtin "getset_descriptor.__get__"))) (e5 : takesIn K (.builtin "object.__class__") = some true) (e6 : mroIn K C (.type "object") = some true)
    (no : findIn K (.ref C) f = some none) (w1 : subIn K (.ref CW) (.type "BaseException") = some true) (w2 : hasDictIn K CW = true) (w3 : typeIn K (.ref CW) = some (.type "type")) (w4 : subIn K (.ref C) (.ref CW) = some true) (nn : kitOne K (.type "NoneType") (.ref C) = some false) : K1 K mg CW x C f :=
  ⟨mg_of X G a, kx_of ga gg e1 e2 e3 e4 e5 e6, no, exm_ref w1 w2 w3 w4, nn⟩
theorem xm_of {P : Program} {K : Frag} {C fI cda cc N : Addr} {nm q file : Str} {tf : Tok} {bs bm sub : List Value} {sn : List Str} {ab : Bool} {col : Option Bool} {dd odF cdd cld : Option Addr} {k0 k1 k2 k3 k5 : Option Value} {oc ccl cl : Value} {fd : FuncData} {slF ccs csl : Array (Option Value)} {vs : Array Value} {ar : Arg}
    (lC : K.lookup C = some (excClassObj nm q C N bs bm true sn sub ab col dd k0 k1 k2 k3 k5 "ValueError.__new__")) (hbm : PySem.HandSPX.refsVE bm = true) (sa : findIn K (.ref C) "__setattr__" = some (some (.builtin "object.__setattr__"))) (e1 : subIn K (.ref C) (.type "BaseException") = some true) (e2 : typeIn K (.ref C) = some (.type "type")) (e3 : keepIn K (.ref C) = true)
    (lF : K.lookup fI = some ⟨oc, odF, .func fd, slF⟩) (har : (fd.params.posonlyargs ++ fd.params.args).head? = some ar) (hself : ar.arg = "self") (lK : K.lookup cda = some ⟨ccl, cdd, .fields vs, ccs⟩) (hvs : vs[2]? = some (.str file tf)) (hfile : ((P.main.file : Str) == file) = true)
    (lc : K.lookup cc = some ⟨cl, cld, .cell (some (.ref C)), csl⟩) (up : ks_superIn K C C "__init__" = some (some (.builtin "ValueError.__init__"))) (sb : subIn K (.ref C) (.type "ValueError") = some true) (me : mroIn K C (.ref C) = some true) (any : nsIn K cStatics "thirdparty.any" = some none) (top : (P.main.scope.names.lookup ("super" : Str)).isSome = false) : XmC P K C fI cda cc :=
  ⟨⟨⟨nm, q, N, bs, bm, sn, sub, ab, col, dd, k0, k1, k2, k3, k5, lC, hbm⟩, sa, e1, e2, e3⟩, ⟨_, _, _, _, _, lF, har, hself⟩, ⟨_, _, _, _, _, _, lK, hvs, hfile⟩, ⟨_, _, _, lc⟩, up, sb, me, any, top⟩
abbrev stx_GroupSum : Stmt := inClass (top 5) 0
theorem x1z_GroupSum {P : Program} {w : World} {K : Frag} {mg : Str → Option Value} {base : Heap} {C fI cda cc : Addr} {ct oc : Value} {an od : Option Addr} {osl : Array (Option Value)} {dV kV doc pm : Value}
    (hm : mg "GroupSum" = some (.ref C)) (hsu : mg "super" = none) (T : XmC P K C fI cda cc) (hi : findIn K (.ref C) "__init__" = some (some (.ref fI))) (ht : typeIn K (.ref fI) = some (.type "function"))
    (lk : K.lookup fI = some ⟨oc, od, .func (fnX "__init__" "GroupSum.__init__" (defArgs stx_GroupSum) (defBody stx_GroupSum) (defScope stx_GroupSum) [("__class__", cc)] .none kV doc pm an (.ref cda) ct), osl⟩) (hcd : codeIn K (.ref cda) "GroupSum.__init__" = true)
    (hno : findIn K (.ref C) "group" = some none) : X1 P w K mg base "GroupSum" C "group" := by
  refine ⟨T.o, hm, fI, _, hi, ht, ?_, xinit_ok (k := 0) (N := ["self", "group", "__class__"]) (rest := (defBody stx_GroupSum).drop 1) (m := "the sum of a group is not 0") lk hcd (nscope_by (by decide +kernel)) T rfl (by rfl) hsu (fun vs H Q E h => ?_) (fun vs H Q E h => ?_) (fun L => ⟨_, by rfl⟩) (fun A outer s H vs Q E h => ?_)⟩
  · exact .all fun us hl => match us, hl with | [_, _], _ => rfl
  · obtain ⟨e, x, rfl, _⟩ := h
    rfl
  · obtain ⟨e, x, rfl, he, _⟩ := h
    exact ⟨e, rfl, he⟩
  · obtain ⟨e, x, rfl, he, q⟩ := h
    refine ⟨_, pss_one (ps_ost (pe_var (i := 0) rfl (.inl rfl)) (pe_var (i := 1) rfl (.inl rfl))), ?_⟩
    exact ⟨x, rfl, .ref e, rfl, e, C, rfl, T.o, hno, .inl ⟨he, fun dx nd dne => q dx nd dne⟩⟩
abbrev stx_InvalidPlaces : Stmt := inClass (top 4) 0
theorem x1z_InvalidPlaces {P : Program} {w : World} {K : Frag} {mg : Str → Option Value} {base : Heap} {C fI cda cc : Addr} {ct oc : Value} {an od : Option Addr} {osl : Array (Option Value)} {dV kV doc pm : Value}
    (hm : mg "InvalidPlaces" = some (.ref C)) (hsu : mg "super" = none) (T : XmC P K C fI cda cc) (hi : findIn K (.ref C) "__init__" = some (some (.ref fI))) (ht : typeIn K (.ref fI) = some (.type "function"))
    (lk : K.lookup fI = some ⟨oc, od, .func (fnX "__init__" "InvalidPlaces.__init__" (defArgs stx_InvalidPlaces) (defBody stx_InvalidPlaces) (defScope stx_InvalidPlaces) [("__class__", cc)] .none kV doc pm an (.ref cda) ct), osl⟩) (hcd : codeIn K (.ref cda) "InvalidPlaces.__init__" = true)
    (hno : findIn K (.ref C) "value" = some none) : X1 P w K mg base "InvalidPlaces" C "value" := by
  refine ⟨T.o, hm, fI, _, hi, ht, ?_, xinit_ok (k := 0) (N := ["self", "value", "__class__"]) (rest := (defBody stx_InvalidPlaces).drop 1) (m := "the value is not a set of places") lk hcd (nscope_by (by decide +kernel)) T rfl (by rfl) hsu (fun vs H Q E h => ?_) (fun vs H Q E h => ?_) (fun L => ⟨_, by rfl⟩) (fun A outer s H vs Q E h => ?_)⟩
  · exact .all fun us hl => match us, hl with | [_, _], _ => rfl
  · obtain ⟨e, x, rfl, _⟩ := h
    rfl
  · obtain ⟨e, x, rfl, he, _⟩ := h
    exact ⟨e, rfl, he⟩
  · obtain ⟨e, x, rfl, he, q⟩ := h
    refine ⟨_, pss_one (ps_ost (pe_var (i := 0) rfl (.inl rfl)) (pe_var (i := 1) rfl (.inl rfl))), ?_⟩
    exact ⟨x, rfl, .ref e, rfl, e, C, rfl, T.o, hno, .inl ⟨he, fun dx nd dne => q dx nd dne⟩⟩
abbrev stx_NoCount : Stmt := inClass (top 6) 0
theorem x1z_NoCount {P : Program} {w : World} {K : Frag} {mg : Str → Option Value} {base : Heap} {C fI cda cc : Addr} {ct oc : Value} {an od : Option Addr} {osl : Array (Option Value)} {dV kV doc pm : Value}
    (hm : mg "NoCount" = some (.ref C)) (hsu : mg "super" = none) (T : XmC P K C fI cda cc) (hi : findIn K (.ref C) "__init__" = some (some (.ref fI))) (ht : typeIn K (.ref fI) = some (.type "function"))
    (lk : K.lookup fI = some ⟨oc, od, .func (fnX "__init__" "NoCount.__init__" (defArgs stx_NoCount) (defBody stx_NoCount) (defScope stx_NoCount) [("__class__", cc)] .none kV doc pm an (.ref cda) ct), osl⟩) (hcd : codeIn K (.ref cda) "NoCount.__init__" = true)
    (hno : findIn K (.ref C) "pipe" = some none) : X1 P w K mg base "NoCount" C "pipe" := by
  refine ⟨T.o, hm, fI, _, hi, ht, ?_, xinit_ok (k := 0) (N := ["self", "pipe", "__class__"]) (rest := (defBody stx_NoCount).drop 1) (m := "a pipe has no bounds") lk hcd (nscope_by (by decide +kernel)) T rfl (by rfl) hsu (fun vs H Q E h => ?_) (fun vs H Q E h => ?_) (fun L => ⟨_, by rfl⟩) (fun A outer s H vs Q E h => ?_)⟩
  · exact .all fun us hl => match us, hl with | [_, _], _ => rfl
  · obtain ⟨e, x, rfl, _⟩ := h
    rfl
  · obtain ⟨e, x, rfl, he, _⟩ := h
    exact ⟨e, rfl, he⟩
  · obtain ⟨e, x, rfl, he, q⟩ := h
    refine ⟨_, pss_one (ps_ost (pe_var (i := 0) rfl (.inl rfl)) (pe_var (i := 1) rfl (.inl rfl))), ?_⟩
    exact ⟨x, rfl, .ref e, rfl, e, C, rfl, T.o, hno, .inl ⟨he, fun dx nd dne => q dx nd dne⟩⟩
theorem bz_D_law_begun {K : Frag} {f : Addr} {fd : FuncData} (F : Fun K "_law_begun" "_law_begun" s_law_begun f fd) : Binds K fd ["script"] [] := F.binds fun _ _ _ _ _ _ us hl => match us, hl with | [_], _ => rfl
theorem bz_D_law_folded {K : Frag} {f : Addr} {fd : FuncData} (F : Fun K "_law_folded" "_law_folded" s_law_folded f fd) : Binds K fd ["script"] [] := F.binds fun _ _ _ _ _ _ us hl => match us, hl with | [_], _ => rfl
theorem bz_D_law_draw {K : Frag} {f : Addr} {fd : FuncData} (F : Fun K "_law_draw" "_law_draw" s_law_draw f fd) : Binds K fd ["m", "top"] [] := F.binds fun _ _ _ _ _ _ us hl => match us, hl with | [_, _], _ => rfl
theorem bz_D_law_mixed {K : Frag} {f : Addr} {fd : FuncData} (F : Fun K "_law_mixed" "_law_mixed" s_law_mixed f fd) : Binds K fd ["cell", "n"] [] := F.binds fun _ _ _ _ _ _ us hl => match us, hl with | [_, _], _ => rfl
theorem bz_D_law_any_net {K : Frag} {f : Addr} {fd : FuncData} (F : Fun K "_law_any_net" "_law_any_net" s_law_any_net f fd) : Binds K fd ["m", "many", "rings", "more"] [] := F.binds fun _ _ _ _ _ _ us hl => match us, hl with | [_, _, _, _], _ => rfl
theorem bz_D_law_net {K : Frag} {f : Addr} {fd : FuncData} (F : Fun K "_law_net" "_law_net" s_law_net f fd) : Binds K fd ["m", "many", "rings", "more"] [] := F.binds fun _ _ _ _ _ _ us hl => match us, hl with | [_, _, _, _], _ => rfl
theorem bz_D_law_base {K : Frag} {f : Addr} {fd : FuncData} (F : Fun K "_law_base" "_law_base" s_law_base f fd) : Binds K fd ["m"] [] := F.binds fun _ _ _ _ _ _ us hl => match us, hl with | [_], _ => rfl
theorem bz_D_law_amount {K : Frag} {f : Addr} {fd : FuncData} (F : Fun K "_law_amount" "_law_amount" s_law_amount f fd) : Binds K fd ["m", "base"] [] := F.binds fun _ _ _ _ _ _ us hl => match us, hl with | [_, _], _ => rfl
theorem bz_D_law_tubes {K : Frag} {f : Addr} {fd : FuncData} (F : Fun K "_law_tubes" "_law_tubes" s_law_tubes f fd) : Binds K fd ["m", "many", "base", "rings", "more"] [] := F.binds fun _ _ _ _ _ _ us hl => match us, hl with | [_, _, _, _, _], _ => rfl
theorem bz_D_law_mixed_up {K : Frag} {f : Addr} {fd : FuncData} (F : Fun K "_law_mixed_up" "_law_mixed_up" s_law_mixed_up f fd) : Binds K fd ["m", "things"] [] := F.binds fun _ _ _ _ _ _ us hl => match us, hl with | [_, _], _ => rfl
theorem bz_D_law_root {K : Frag} {f : Addr} {fd : FuncData} (F : Fun K "_law_root" "_law_root" s_law_root f fd) : Binds K fd ["trees", "at"] [] := F.binds fun _ _ _ _ _ _ us hl => match us, hl with | [_, _], _ => rfl
theorem bz_D_law_bent {K : Frag} {f : Addr} {fd : FuncData} (F : Fun K "_law_bent" "_law_bent" s_law_bent f fd) : Binds K fd ["m", "net"] [] := F.binds fun _ _ _ _ _ _ us hl => match us, hl with | [_, _], _ => rfl
theorem bz_D_law_sets {K : Frag} {f : Addr} {fd : FuncData} (F : Fun K "_law_sets" "_law_sets" s_law_sets f fd) : Binds K fd ["many"] [] := F.binds fun _ _ _ _ _ _ us hl => match us, hl with | [_], _ => rfl
theorem bz_D_law_narrowed {K : Frag} {f : Addr} {fd : FuncData} (F : Fun K "_law_narrowed" "_law_narrowed" s_law_narrowed f fd) : Binds K fd ["m", "net"] [] := F.binds fun _ _ _ _ _ _ us hl => match us, hl with | [_, _], _ => rfl
theorem bz_DT_law_right {K : Frag} {f : Addr} {fd : FuncData} (F : Fun K "_law_right" "_law_right" s_law_right f fd) : Binds K fd ["net", "spots_there"] [] := F.binds fun _ _ _ _ _ _ us hl => match us, hl with | [_, _], _ => rfl
theorem bz_D_checked_branches {K : Frag} {f : Addr} {fd : FuncData} (F : Fun K "checked_branches" "checked_branches" s_checked_branches f fd) : Binds K fd ["value"] [] := F.binds fun _ _ _ _ _ _ us hl => match us, hl with | [_], _ => rfl
theorem bz_D_is_between {K : Frag} {f : Addr} {fd : FuncData} (F : Fun K "is_between" "is_between" s_is_between f fd) : Binds K fd ["value", "low", "high"] [] := F.binds fun _ _ _ _ _ _ us hl => match us, hl with | [_, _, _], _ => rfl
theorem bz_D_is_integer {K : Frag} {f : Addr} {fd : FuncData} (F : Fun K "is_integer" "is_integer" s_is_integer f fd) : Binds K fd ["value"] [] := F.binds fun _ _ _ _ _ _ us hl => match us, hl with | [_], _ => rfl
theorem bz_D_is_pipe {K : Frag} {f : Addr} {fd : FuncData} (F : Fun K "is_pipe" "is_pipe" s_is_pipe f fd) : Binds K fd ["value", "modulus", "places"] [] := F.binds fun _ _ _ _ _ _ us hl => match us, hl with | [_, _, _], _ => rfl
theorem bz_D_find_branches {K : Frag} {f : Addr} {fd : FuncData} (F : Fun K "find_branches" "find_branches" s_find_branches f fd) : Binds K fd ["places", "pipes"] [] := F.binds fun _ _ _ _ _ _ us hl => match us, hl with | [_, _], _ => rfl
theorem bz_D_find_bounds {K : Frag} {f : Addr} {fd : FuncData} (F : Fun K "find_bounds" "find_bounds" s_find_bounds f fd) : Binds K fd ["network", "known"] [] := F.binds fun _ _ _ _ _ _ us hl => match us, hl with | [_, _], _ => rfl
theorem bz_D_checked_residues {K : Frag} {f : Addr} {fd : FuncData} (F : Fun K "checked_residues" "checked_residues" s_checked_residues f fd) : Binds K fd ["network", "branches"] [] := F.binds fun _ _ _ _ _ _ us hl => match us, hl with | [_, _], _ => rfl
theorem bz_D_read_meters {K : Frag} {f : Addr} {fd : FuncData} (F : Fun K "read_meters" "read_meters" s_read_meters f fd) : Binds K fd ["network", "branches"] [] := F.binds fun _ _ _ _ _ _ us hl => match us, hl with | [_, _], _ => rfl
theorem bz_D_carry_along {K : Frag} {f : Addr} {fd : FuncData} (F : Fun K "carry_along" "carry_along" s_carry_along f fd) : Binds K fd ["network", "branches", "counts"] [] := F.binds fun _ _ _ _ _ _ us hl => match us, hl with | [_, _, _], _ => rfl
theorem bz_D_place_balances {K : Frag} {f : Addr} {fd : FuncData} (F : Fun K "place_balances" "place_balances" s_place_balances f fd) : Binds K fd ["network", "counts"] [] := F.binds fun _ _ _ _ _ _ us hl => match us, hl with | [_, _], _ => rfl
theorem bz_D_find_sums {K : Frag} {f : Addr} {fd : FuncData} (F : Fun K "find_sums" "find_sums" s_find_sums f fd) : Binds K fd ["network", "branches", "left"] [] := F.binds fun _ _ _ _ _ _ us hl => match us, hl with | [_, _, _], _ => rfl
theorem bz_D_find_groups {K : Frag} {f : Addr} {fd : FuncData} (F : Fun K "find_groups" "find_groups" s_find_groups f fd) : Binds K fd ["places", "branches"] [] := F.binds fun _ _ _ _ _ _ us hl => match us, hl with | [_, _], _ => rfl
theorem nz_bounds {K : Frag} {h : Heap} {mg : Str → Option Value} (X : K.In h) (G : h.Ns mainGlobals mg) {f : Addr} {od an : Option Addr} {sl : Array (Option Value)} {oc kV dc pm cd ct : Value}
    (a : nsIn K mainGlobals "bounds" = some (some (.ref f))) (l : K.lookup f = some ⟨oc, od, .func (fnOf "bounds" "bounds" (defArgs s_bounds) (defBody s_bounds) (defScope s_bounds) .none kV dc pm an cd ct), sl⟩) (c : codeIn K cd "bounds" = true) (k : keepIn K (.ref f) = true) :
    ∃ (f : Addr) (fd : FuncData), Fun K "bounds" "bounds" s_bounds f fd ∧ mg "bounds" = some (.ref f) ∧ Binds K fd ["network"] [] ∧ KBn K fd ["network"] 0 ["network"] (fun _ ws => ws) (fun _ zs => zs) := by
  have F := fun_mk (st := s_bounds) l c k
  refine ⟨f, _, F, mg_of X G a, F.binds fun _ _ _ _ _ _ us hl => (match us, hl with | [_], _ => rfl), ⟨fun s us ws _ h1 h2 => ?_, fun _ r => r⟩⟩
  · match us, ws, h1, h2 with
    | [], [_], _, _ => exact .of_eq rfl
theorem bz_D_check_places {K : Frag} {f : Addr} {fd : FuncData} (F : Fun K "check_places" "check_places" s_check_places f fd) : Binds K fd ["network", "places"] [] := F.binds fun _ _ _ _ _ _ us hl => match us, hl with | [_, _], _ => rfl
theorem bz_D_is_number_set {K : Frag} {f : Addr} {fd : FuncData} (F : Fun K "is_number_set" "is_number_set" s_is_number_set f fd) : Binds K fd ["value", "end"] [] := F.binds fun _ _ _ _ _ _ us hl => match us, hl with | [_, _], _ => rfl
theorem bz_D_checked_bounds {K : Frag} {f : Addr} {fd : FuncData} (F : Fun K "checked_bounds" "checked_bounds" s_checked_bounds f fd) : Binds K fd ["network", "branches"] [] := F.binds fun _ _ _ _ _ _ us hl => match us, hl with | [_, _], _ => rfl
theorem bz_D_find_excess {K : Frag} {f : Addr} {fd : FuncData} (F : Fun K "find_excess" "find_excess" s_find_excess f fd) : Binds K fd ["network", "limits", "places"] [] := F.binds fun _ _ _ _ _ _ us hl => match us, hl with | [_, _, _], _ => rfl
theorem nz_excess {K : Frag} {h : Heap} {mg : Str → Option Value} (X : K.In h) (G : h.Ns mainGlobals mg) {f : Addr} {od an : Option Addr} {sl : Array (Option Value)} {oc kV dc pm cd ct : Value}
    (a : nsIn K mainGlobals "excess" = some (some (.ref f))) (l : K.lookup f = some ⟨oc, od, .func (fnOf "excess" "excess" (defArgs s_excess) (defBody s_excess) (defScope s_excess) .none kV dc pm an cd ct), sl⟩) (c : codeIn K cd "excess" = true) (k : keepIn K (.ref f) = true) :
    ∃ (f : Addr) (fd : FuncData), Fun K "excess" "excess" s_excess f fd ∧ mg "excess" = some (.ref f) ∧ Binds K fd ["network", "places"] [] ∧ KBn K fd ["network", "places"] 0 ["places", "network"] (fun _ ws => ws.reverse) (fun _ zs => zs.reverse) := by
  have F := fun_mk (st := s_excess) l c k
  refine ⟨f, _, F, mg_of X G a, F.binds fun _ _ _ _ _ _ us hl => (match us, hl with | [_, _], _ => rfl), ⟨fun s us ws _ h1 h2 => ?_, fun _ r => vals_rev r⟩⟩
  · match us, ws, h1, h2 with
    | [], [_, _], _, _ => exact .of_eq rfl
theorem bz_D_law_wrong {K : Frag} {f : Addr} {fd : FuncData} (F : Fun K "_law_wrong" "_law_wrong" s_law_wrong f fd) : Binds K fd ["net"] [] := F.binds fun _ _ _ _ _ _ us hl => match us, hl with | [_], _ => rfl
theorem bz_D_law_clusters {K : Frag} {f : Addr} {fd : FuncData} (F : Fun K "_law_clusters" "_law_clusters" s_law_clusters f fd) : Binds K fd ["net"] [] := F.binds fun _ _ _ _ _ _ us hl => match us, hl with | [_], _ => rfl
theorem bz_D_law_joined {K : Frag} {f : Addr} {fd : FuncData} (F : Fun K "_law_joined" "_law_joined" s_law_joined f fd) : Binds K fd ["net", "at", "without"] [] := F.binds fun _ _ _ _ _ _ us hl => match us, hl with | [_, _, _], _ => rfl
theorem bz_D_law_is_wide {K : Frag} {f : Addr} {fd : FuncData} (F : Fun K "_law_is_wide" "_law_is_wide" s_law_is_wide f fd) : Binds K fd ["tube"] [] := F.binds fun _ _ _ _ _ _ us hl => match us, hl with | [_], _ => rfl
theorem bz_D_law_total {K : Frag} {f : Addr} {fd : FuncData} (F : Fun K "_law_total" "_law_total" s_law_total f fd) : Binds K fd ["net", "spots"] [] := F.binds fun _ _ _ _ _ _ us hl => match us, hl with | [_, _], _ => rfl
theorem bz_D_law_shown {K : Frag} {f : Addr} {fd : FuncData} (F : Fun K "_law_shown" "_law_shown" s_law_shown f fd) : Binds K fd ["net", "tube"] [] := F.binds fun _ _ _ _ _ _ us hl => match us, hl with | [_, _], _ => rfl
theorem bz_D_law_ins {K : Frag} {f : Addr} {fd : FuncData} (F : Fun K "_law_ins" "_law_ins" s_law_ins f fd) : Binds K fd ["net", "spots"] [] := F.binds fun _ _ _ _ _ _ us hl => match us, hl with | [_, _], _ => rfl
theorem bz_D_law_outs {K : Frag} {f : Addr} {fd : FuncData} (F : Fun K "_law_outs" "_law_outs" s_law_outs f fd) : Binds K fd ["net", "spots"] [] := F.binds fun _ _ _ _ _ _ us hl => match us, hl with | [_, _], _ => rfl
theorem bz_D_law_pairs {K : Frag} {f : Addr} {fd : FuncData} (F : Fun K "_law_pairs" "_law_pairs" s_law_pairs f fd) : Binds K fd ["net"] [] := F.binds fun _ _ _ _ _ _ us hl => match us, hl with | [_], _ => rfl
theorem bz_D_law_pair {K : Frag} {f : Addr} {fd : FuncData} (F : Fun K "_law_pair" "_law_pair" s_law_pair f fd) : Binds K fd ["net", "tube", "rest"] [] := F.binds fun _ _ _ _ _ _ us hl => match us, hl with | [_, _, _], _ => rfl
theorem bz_D_law_rests {K : Frag} {f : Addr} {fd : FuncData} (F : Fun K "_law_rests" "_law_rests" s_law_rests f fd) : Binds K fd ["net"] [] := F.binds fun _ _ _ _ _ _ us hl => match us, hl with | [_], _ => rfl
theorem bz_DT_law_sets_right {K : Frag} {f : Addr} {fd : FuncData} (F : Fun K "_law_sets_right" "_law_sets_right" s_law_sets_right f fd) : Binds K fd ["net", "pairs", "spots_there"] [] := F.binds fun _ _ _ _ _ _ us hl => match us, hl with | [_, _, _], _ => rfl
theorem bz_D_law_surplus {K : Frag} {f : Addr} {fd : FuncData} (F : Fun K "_law_surplus" "_law_surplus" s_law_surplus f fd) : Binds K fd ["net", "limits", "spots"] [] := F.binds fun _ _ _ _ _ _ us hl => match us, hl with | [_, _, _], _ => rfl
theorem bz_D_law_caught {K : Frag} {f : Addr} {fd : FuncData} (F : Fun K "_law_caught" "_law_caught" s_law_caught f fd) : Binds K fd ["call"] [] := F.binds fun _ _ _ _ _ _ us hl => match us, hl with | [_], _ => rfl
theorem end_lawZ {P q : Program} {w : World} {K : Frag} {h : Heap} {mg : Str → Option Value} {fa : Addr} (X : K.In h) (G : h.Ns mainGlobals mg) (hfa : mg "law" = some (.ref fa)) {l : OpenLaw} (hP : l.prog = P)
    {f9 : Addr} {od an : Option Addr} {sl : Array (Option Value)} {oc kV dc pm cd ct : Value} (a9 : nsIn K mainGlobals "law" = some (some (.ref f9))) (l9 : K.lookup f9 = some ⟨oc, od, .func (fnOf "law" "law" (defArgs s_law) (defBody s_law) (defScope s_law) .none kV dc pm an cd ct), sl⟩) (c9 : codeIn K cd "law" = true) (k9 : keepIn K (.ref f9) = true)
    {fR_1 cS pS : Addr} {odR_1 anR_1 : Option Addr} {slR_1 : Array (Option Value)} {ocR_1 kVR_1 dcR_1 pmR_1 ctR_1 : Value} (aR_1 : nsIn K mainGlobals "_law_sets_right" = some (some (.ref fR_1))) (lR_1 : K.lookup fR_1 = some ⟨ocR_1, odR_1, .func (fnOf "_law_sets_right" "_law_sets_right" (defArgs s_law_sets_right) (defBody s_law_sets_right) (defScope s_law_sets_right) .none kVR_1 dcR_1 pmR_1 anR_1 (.ref cS) ctR_1), slR_1⟩) (cdR_1 : codeIn K (.ref cS) "_law_sets_right" = true) (kR_1 : keepIn K (.ref fR_1) = true)
    (hf_1 : ((recsOf q).find? (fun e => e.name == ("_law_sets_right" : Str))).isSome = true) (hT_1 : tabIn K "_law_sets_right" = some (cS, pS)) (nT_1 : K.lookup pS = none)
    {fR_2 cR pR : Addr} {odR_2 anR_2 : Option Addr} {slR_2 : Array (Option Value)} {ocR_2 kVR_2 dcR_2 pmR_2 ctR_2 : Value} (aR_2 : nsIn K mainGlobals "_law_right" = some (some (.ref fR_2))) (lR_2 : K.lookup fR_2 = some ⟨ocR_2, odR_2, .func (fnOf "_law_right" "_law_right" (defArgs s_law_right) (defBody s_law_right) (defScope s_law_right) .none kVR_2 dcR_2 pmR_2 anR_2 (.ref cR) ctR_2), slR_2⟩) (cdR_2 : codeIn K (.ref cR) "_law_right" = true) (kR_2 : keepIn K (.ref fR_2) = true)
    (hf_2 : ((recsOf q).find? (fun e => e.name == ("_law_right" : Str))).isSome = true) (hT_2 : tabIn K "_law_right" = some (cR, pR)) (nT_2 : K.lookup pR = none)
    {CG CP CN CW zz9 : Addr} (hsu : nsIn K mainGlobals "super" = some none)
    {fI_GroupSum cda_GroupSum cc_GroupSum : Addr} {ocI_GroupSum : Value} {odI_GroupSum anI_GroupSum : Option Addr} {slI_GroupSum : Array (Option Value)} {kVI_GroupSum dcI_GroupSum pmI_GroupSum ctI_GroupSum : Value} (am_GroupSum : mg "GroupSum" = some (.ref CG)) (XM_GroupSum : XmC P K CG fI_GroupSum cda_GroupSum cc_GroupSum) (hi_GroupSum : findIn K (.ref CG) "__init__" = some (some (.ref fI_GroupSum))) (ht_GroupSum : typeIn K (.ref fI_GroupSum) = some (.type "function"))
    (lI_GroupSum : K.lookup fI_GroupSum = some ⟨ocI_GroupSum, odI_GroupSum, .func (fnX "__init__" "GroupSum.__init__" (defArgs stx_GroupSum) (defBody stx_GroupSum) (defScope stx_GroupSum) [("__class__", cc_GroupSum)] .none kVI_GroupSum dcI_GroupSum pmI_GroupSum anI_GroupSum (.ref cda_GroupSum) ctI_GroupSum), slI_GroupSum⟩) (cI_GroupSum : codeIn K (.ref cda_GroupSum) "GroupSum.__init__" = true) (no_GroupSum : findIn K (.ref CG) "group" = some none)
    {fI_InvalidPlaces cda_InvalidPlaces cc_InvalidPlaces : Addr} {ocI_InvalidPlaces : Value} {odI_InvalidPlaces anI_InvalidPlaces : Option Addr} {slI_InvalidPlaces : Array (Option Value)} {kVI_InvalidPlaces dcI_InvalidPlaces pmI_InvalidPlaces ctI_InvalidPlaces : Value} (am_InvalidPlaces : mg "InvalidPlaces" = some (.ref CP)) (XM_InvalidPlaces : XmC P K CP fI_InvalidPlaces cda_InvalidPlaces cc_InvalidPlaces) (hi_InvalidPlaces : findIn K (.ref CP) "__init__" = some (some (.ref fI_InvalidPlaces))) (ht_InvalidPlaces : typeIn K (.ref fI_InvalidPlaces) = some (.type "function"))
    (lI_InvalidPlaces : K.lookup fI_InvalidPlaces = some ⟨ocI_InvalidPlaces, odI_InvalidPlaces, .func (fnX "__init__" "InvalidPlaces.__init__" (defArgs stx_InvalidPlaces) (defBody stx_InvalidPlaces) (defScope stx_InvalidPlaces) [("__class__", cc_InvalidPlaces)] .none kVI_InvalidPlaces dcI_InvalidPlaces pmI_InvalidPlaces anI_InvalidPlaces (.ref cda_InvalidPlaces) ctI_InvalidPlaces), slI_InvalidPlaces⟩) (cI_InvalidPlaces : codeIn K (.ref cda_InvalidPlaces) "InvalidPlaces.__init__" = true) (no_InvalidPlaces : findIn K (.ref CP) "value" = some none)
    {fI_NoCount cda_NoCount cc_NoCount : Addr} {ocI_NoCount : Value} {odI_NoCount anI_NoCount : Option Addr} {slI_NoCount : Array (Option Value)} {kVI_NoCount dcI_NoCount pmI_NoCount ctI_NoCount : Value} (am_NoCount : mg "NoCount" = some (.ref CN)) (XM_NoCount : XmC P K CN fI_NoCount cda_NoCount cc_NoCount) (hi_NoCount : findIn K (.ref CN) "__init__" = some (some (.ref fI_NoCount))) (ht_NoCount : typeIn K (.ref fI_NoCount) = some (.type "function"))
    (lI_NoCount : K.lookup fI_NoCount = some ⟨ocI_NoCount, odI_NoCount, .func (fnX "__init__" "NoCount.__init__" (defArgs stx_NoCount) (defBody stx_NoCount) (defScope stx_NoCount) [("__class__", cc_NoCount)] .none kVI_NoCount dcI_NoCount pmI_NoCount anI_NoCount (.ref cda_NoCount) ctI_NoCount), slI_NoCount⟩) (cI_NoCount : codeIn K (.ref cda_NoCount) "NoCount.__init__" = true) (no_NoCount : findIn K (.ref CN) "pipe" = some none)
    (T : Blt mg) (C : Cst mg)
    (D_law_begun : DefAt K mg "_law_begun" s_law_begun ["script"])
    (D_law_folded : DefAt K mg "_law_folded" s_law_folded ["script"])
    (D_law_draw : DefAt K mg "_law_draw" s_law_draw ["m", "top"])
    (D_law_mixed : DefAt K mg "_law_mixed" s_law_mixed ["cell", "n"])
    (D_law_any_net : DefAt K mg "_law_any_net" s_law_any_net ["m", "many", "rings", "more"])
    (D_law_net : DefAt K mg "_law_net" s_law_net ["m", "many", "rings", "more"])
    (D_law_base : DefAt K mg "_law_base" s_law_base ["m"])
    (D_law_amount : DefAt K mg "_law_amount" s_law_amount ["m", "base"])
    (D_law_tubes : DefAt K mg "_law_tubes" s_law_tubes ["m", "many", "base", "rings", "more"])
    (D_law_mixed_up : DefAt K mg "_law_mixed_up" s_law_mixed_up ["m", "things"])
    (D_law_root : DefAt K mg "_law_root" s_law_root ["trees", "at"])
    (D_law_bent : DefAt K mg "_law_bent" s_law_bent ["m", "net"])
    (D_law_sets : DefAt K mg "_law_sets" s_law_sets ["many"])
    (D_law_narrowed : DefAt K mg "_law_narrowed" s_law_narrowed ["m", "net"])
    (hne : pS ≠ pR)
    (D_checked_branches : DefAt K mg "checked_branches" s_checked_branches ["value"])
    (D_is_between : DefAt K mg "is_between" s_is_between ["value", "low", "high"])
    (D_is_integer : DefAt K mg "is_integer" s_is_integer ["value"])
    (D_is_pipe : DefAt K mg "is_pipe" s_is_pipe ["value", "modulus", "places"])
    (D_find_branches : DefAt K mg "find_branches" s_find_branches ["places", "pipes"])
    (D_find_bounds : DefAt K mg "find_bounds" s_find_bounds ["network", "known"])
    (D_checked_residues : DefAt K mg "checked_residues" s_checked_residues ["network", "branches"])
    (D_read_meters : DefAt K mg "read_meters" s_read_meters ["network", "branches"])
    (D_carry_along : DefAt K mg "carry_along" s_carry_along ["network", "branches", "counts"])
    (D_place_balances : DefAt K mg "place_balances" s_place_balances ["network", "counts"])
    (D_find_sums : DefAt K mg "find_sums" s_find_sums ["network", "branches", "left"])
    (D_find_groups : DefAt K mg "find_groups" s_find_groups ["places", "branches"])
    (N_bounds : ∃ (f : Addr) (fd : FuncData), Fun K "bounds" "bounds" s_bounds f fd ∧ mg "bounds" = some (.ref f) ∧ Binds K fd ["network"] [] ∧ KBn K fd ["network"] 0 ["network"] (fun _ ws => ws) (fun _ zs => zs))
    (D_check_places : DefAt K mg "check_places" s_check_places ["network", "places"])
    (D_is_number_set : DefAt K mg "is_number_set" s_is_number_set ["value", "end"])
    (D_checked_bounds : DefAt K mg "checked_bounds" s_checked_bounds ["network", "branches"])
    (D_find_excess : DefAt K mg "find_excess" s_find_excess ["network", "limits", "places"])
    (N_excess : ∃ (f : Addr) (fd : FuncData), Fun K "excess" "excess" s_excess f fd ∧ mg "excess" = some (.ref f) ∧ Binds K fd ["network", "places"] [] ∧ KBn K fd ["network", "places"] 0 ["places", "network"] (fun _ ws => ws.reverse) (fun _ zs => zs.reverse))
    (D_law_wrong : DefAt K mg "_law_wrong" s_law_wrong ["net"])
    (D_law_clusters : DefAt K mg "_law_clusters" s_law_clusters ["net"])
    (D_law_joined : DefAt K mg "_law_joined" s_law_joined ["net", "at", "without"])
    (D_law_is_wide : DefAt K mg "_law_is_wide" s_law_is_wide ["tube"])
    (D_law_total : DefAt K mg "_law_total" s_law_total ["net", "spots"])
    (D_law_shown : DefAt K mg "_law_shown" s_law_shown ["net", "tube"])
    (D_law_ins : DefAt K mg "_law_ins" s_law_ins ["net", "spots"])
    (D_law_outs : DefAt K mg "_law_outs" s_law_outs ["net", "spots"])
    (D_law_pairs : DefAt K mg "_law_pairs" s_law_pairs ["net"])
    (D_law_pair : DefAt K mg "_law_pair" s_law_pair ["net", "tube", "rest"])
    (D_law_rests : DefAt K mg "_law_rests" s_law_rests ["net"])
    (D_law_surplus : DefAt K mg "_law_surplus" s_law_surplus ["net", "limits", "spots"])
    (D_law_caught : DefAt K mg "_law_caught" s_law_caught ["call"])
    (cW : mg "WrapcountError" = some (.ref CW))
    (kP : K1 K mg CW "InvalidPlaces" CP "value")
    (kG : K1 K mg CW "GroupSum" CG "group")
    (kN : K1 K mg CW "NoCount" CN "pipe")
    (gPP : PySem.W.kitOne K (.ref CP) (.ref CP) = some true)
    (gP : PySem.W.kitOne K (.ref CG) (.ref CP) = some false)
    (gG : PySem.W.kitOne K (.ref CG) (.ref CG) = some true)
    (gNP : PySem.W.kitOne K (.ref CN) (.ref CP) = some false)
    (gNG : PySem.W.kitOne K (.ref CN) (.ref CG) = some false)
    (gNN : PySem.W.kitOne K (.ref CN) (.ref CN) = some true) :
    LawT2 l q w K 11 63 "script" mg fa := by
  subst hP
  have e := hfa.symm.trans (mg_of X G a9)
  cases e
  have F9 := fun_mk (st := s_law) l9 c9 k9
  have FR_1 := fun_mk (st := s_law_sets_right) lR_1 cdR_1 kR_1
  have FR_2 := fun_mk (st := s_law_right) lR_2 cdR_2 kR_2
  refine ⟨fnOf "law" "law" (defArgs s_law) (defBody s_law) (defScope s_law) .none kV dc pm an cd ct, cS, pS, cR, pR, "_law_sets_right", "_law_right", (sp_law5 K pS pR), ⟨hf_1, hT_1, nT_1⟩, ⟨hf_2, hT_2, nT_2⟩, fun s u => .of_eq rfl, fun H a ns hl hH hH2 hS => ⟨a, ns, rfl, hS, hl, fun p hp => ?_, fun _ => rfl⟩, fun base hK hG TB_cS TB_cR => ?_⟩
  · rcases List.mem_cons.mp hp with z | z
    · rw [z]
      exact TabS.nil hH
    · rw [List.mem_singleton.mp z]
      exact TabS.nil hH2
  · exact all_lawZ F9 T C D_law_begun D_law_folded D_law_draw D_law_mixed D_law_any_net D_law_net D_law_base D_law_amount D_law_tubes D_law_mixed_up D_law_root D_law_bent D_law_sets D_law_narrowed ⟨fR_2, _, FR_2, mg_of X G aR_2, bz_DT_law_right FR_2, rfl⟩ TB_cR hne D_checked_branches D_is_between D_is_integer D_is_pipe D_find_branches D_find_bounds D_checked_residues (x1z_GroupSum (dV := .none) am_GroupSum (mg_none_of X G hsu) XM_GroupSum hi_GroupSum ht_GroupSum lI_GroupSum cI_GroupSum no_GroupSum) D_read_meters D_carry_along D_place_balances D_find_sums D_find_groups N_bounds D_check_places (x1z_InvalidPlaces (dV := .none) am_InvalidPlaces (mg_none_of X G hsu) XM_InvalidPlaces hi_InvalidPlaces ht_InvalidPlaces lI_InvalidPlaces cI_InvalidPlaces no_InvalidPlaces) D_is_number_set D_checked_bounds (x1z_NoCount (dV := .none) am_NoCount (mg_none_of X G hsu) XM_NoCount hi_NoCount ht_NoCount lI_NoCount cI_NoCount no_NoCount) D_find_excess N_excess D_law_wrong D_law_clusters D_law_joined D_law_is_wide D_law_total D_law_shown D_law_ins D_law_outs D_law_pairs D_law_pair D_law_rests ⟨fR_1, _, FR_1, mg_of X G aR_1, bz_DT_law_sets_right FR_1, rfl⟩ TB_cS D_law_surplus D_law_caught cW kP kG kN gPP gP gG gNP gNG gNN
end Wc

set_option Elab.async false
set_option linter.all false
open PySem PySem.W PyProof.Rows
set_option maxRecDepth 100000 in
set_option maxHeartbeats 0 in
theorem PySem.Challenge.cw_wrapcount_k05_bounds_and_excess_holds : PySem.Challenge.rw_wrapcount_k05_bounds_and_excess.Holds := by
  w_on; o_law; k_head; (case hw => w_witness2)
  k_fill
  refine Wc.walk_tab2 (l := PySem.Challenge.rw_wrapcount_k05_bounds_and_excess) (n := 63) (k := 11) (x := "script") rfl (by decide) rfl ⟨rfl, by decide, by decide⟩ (fun w h Y => PySem.W.km_in_of Y) ?F
  case F =>
    intro w mg fa h KX G hmg
    refine' Wc.end_lawZ (zz9 := 0) KX G hmg rfl ?a9 ?l9 ?c9 ?k9 ?aR_1 ?lR_1 ?cdR_1 ?kR_1 ?hf_1 ?hT_1 ?nT_1 ?aR_2 ?lR_2 ?cdR_2 ?kR_2 ?hf_2 ?hT_2 ?nT_2 ?hsu ?am_GroupSum ?XM_GroupSum ?hi_GroupSum ?ht_GroupSum ?lI_GroupSum ?cI_GroupSum ?no_GroupSum ?am_InvalidPlaces ?XM_InvalidPlaces ?hi_InvalidPlaces ?ht_InvalidPlaces ?lI_InvalidPlaces ?cI_InvalidPlaces ?no_InvalidPlaces ?am_NoCount ?XM_NoCount ?hi_NoCount ?ht_NoCount ?lI_NoCount ?cI_NoCount ?no_NoCount ?T ?C ?D_law_begun ?D_law_folded ?D_law_draw ?D_law_mixed ?D_law_any_net ?D_law_net ?D_law_base ?D_law_amount ?D_law_tubes ?D_law_mixed_up ?D_law_root ?D_law_bent ?D_law_sets ?D_law_narrowed ?hne ?D_checked_branches ?D_is_between ?D_is_integer ?D_is_pipe ?D_find_branches ?D_find_bounds ?D_checked_residues ?D_read_meters ?D_carry_along ?D_place_balances ?D_find_sums ?D_find_groups ?N_bounds ?D_check_places ?D_is_number_set ?D_checked_bounds ?D_find_excess ?N_excess ?D_law_wrong ?D_law_clusters ?D_law_joined ?D_law_is_wide ?D_law_total ?D_law_shown ?D_law_ins ?D_law_outs ?D_law_pairs ?D_law_pair ?D_law_rests ?D_law_surplus ?D_law_caught ?cW ?kP ?kG ?kN ?gPP ?gP ?gG ?gNP ?gNG ?gNN
    (case a9 => k_is); (case l9 => k_is); (case c9 => k_is); (case k9 => k_is)
    (case aR_1 => k_is); (case lR_1 => k_is); (case cdR_1 => k_is); (case kR_1 => k_is)
    (case hf_1 => kernel_rfl)
    (case hT_1 => exact rfl)
    (case nT_1 => kernel_rfl)
    (case aR_2 => k_is); (case lR_2 => k_is); (case cdR_2 => k_is); (case kR_2 => k_is)
    (case hf_2 => kernel_rfl)
    (case hT_2 => exact rfl)
    (case nT_2 => kernel_rfl)
    (case hsu => k_is)
    case cW =>
      refine' Wc.cls_of KX G ?a
      (case a => k_is)
    case kP =>
      refine' Wc.k1_of KX G ?a ?ga ?gg ?e1 ?e2 ?e3 ?e4 ?e5 ?e6 ?no ?w1 ?w2 ?w3 ?w4 ?nn
      (case a => k_is); (case ga => k_is); (case gg => k_is); (case e1 => k_is); (case e2 => k_is); (case e3 => k_is); (case e4 => k_is); (case e5 => k_is); (case e6 => k_is); (case no => k_is); (case w1 => k_is); (case w2 => k_is); (case w3 => k_is); (case w4 => k_is); (case nn => kernel_rfl)
    case kG =>
      refine' Wc.k1_of KX G ?a ?ga ?gg ?e1 ?e2 ?e3 ?e4 ?e5 ?e6 ?no ?w1 ?w2 ?w3 ?w4 ?nn
      (case a => k_is); (case ga => k_is); (case gg => k_is); (case e1 => k_is); (case e2 => k_is); (case e3 => k_is); (case e4 => k_is); (case e5 => k_is); (case e6 => k_is); (case no => k_is); (case w1 => k_is); (case w2 => k_is); (case w3 => k_is); (case w4 => k_is); (case nn => kernel_rfl)
    case kN =>
      refine' Wc.k1_of KX G ?a ?ga ?gg ?e1 ?e2 ?e3 ?e4 ?e5 ?e6 ?no ?w1 ?w2 ?w3 ?w4 ?nn
      (case a => k_is); (case ga => k_is); (case gg => k_is); (case e1 => k_is); (case e2 => k_is); (case e3 => k_is); (case e4 => k_is); (case e5 => k_is); (case e6 => k_is); (case no => k_is); (case w1 => k_is); (case w2 => k_is); (case w3 => k_is); (case w4 => k_is); (case nn => kernel_rfl)
    case am_GroupSum =>
      refine' Wc.cls_of KX G ?a
      (case a => k_is)
    (case hi_GroupSum => k_is); (case ht_GroupSum => k_is); (case lI_GroupSum => k_is); (case cI_GroupSum => k_is); (case no_GroupSum => k_is)
    case XM_GroupSum =>
      refine' Wc.xm_of ?lC ?hbm ?sa ?e1 ?e2 ?e3 ?lF ?har ?hself ?lK ?hvs ?hfile ?lc ?up ?sb ?me ?any ?top
      (case lC => k_is); (case hbm => exact rfl); (case sa => k_is); (case e1 => k_is); (case e2 => k_is); (case e3 => k_is); (case lF => k_is); (case har => exact rfl); (case hself => exact rfl); (case lK => k_is); (case hvs => exact rfl); (case hfile => kernel_rfl); (case lc => k_is); (case up => kernel_rfl); (case sb => k_is); (case me => k_is); (case any => k_is); (case top => kernel_rfl)
    case am_InvalidPlaces =>
      refine' Wc.cls_of KX G ?a
      (case a => k_is)
    (case hi_InvalidPlaces => k_is); (case ht_InvalidPlaces => k_is); (case lI_InvalidPlaces => k_is); (case cI_InvalidPlaces => k_is); (case no_InvalidPlaces => k_is)
    case XM_InvalidPlaces =>
      refine' Wc.xm_of ?lC ?hbm ?sa ?e1 ?e2 ?e3 ?lF ?har ?hself ?lK ?hvs ?hfile ?lc ?up ?sb ?me ?any ?top
      (case lC => k_is); (case hbm => exact rfl); (case sa => k_is); (case e1 => k_is); (case e2 => k_is); (case e3 => k_is); (case lF => k_is); (case har => exact rfl); (case hself => exact rfl); (case lK => k_is); (case hvs => exact rfl); (case hfile => kernel_rfl); (case lc => k_is); (case up => kernel_rfl); (case sb => k_is); (case me => k_is); (case any => k_is); (case top => kernel_rfl)
    case am_NoCount =>
      refine' Wc.cls_of KX G ?a
      (case a => k_is)
    (case hi_NoCount => k_is); (case ht_NoCount => k_is); (case lI_NoCount => k_is); (case cI_NoCount => k_is); (case no_NoCount => k_is)
    case XM_NoCount =>
      refine' Wc.xm_of ?lC ?hbm ?sa ?e1 ?e2 ?e3 ?lF ?har ?hself ?lK ?hvs ?hfile ?lc ?up ?sb ?me ?any ?top
      (case lC => k_is); (case hbm => exact rfl); (case sa => k_is); (case e1 => k_is); (case e2 => k_is); (case e3 => k_is); (case lF => k_is); (case har => exact rfl); (case hself => exact rfl); (case lK => k_is); (case hvs => exact rfl); (case hfile => kernel_rfl); (case lc => k_is); (case up => kernel_rfl); (case sb => k_is); (case me => k_is); (case any => k_is); (case top => kernel_rfl)
    case T => refine' ⟨?_, ?_, ?_, ?_, ?_, ?_, ?_, ?_, ?_, ?_, ?_, ?_, ?_, ?_, ?_, ?_, ?_⟩ <;> (refine' Wc.none_of KX G ?_; k_is)
    case C => refine' ⟨?_, ?_, ?_, ?_⟩ <;> (refine' Wc.cst_of KX G ?a ?h; (case a => k_is); (case h => exact ⟨_, rfl⟩))
    case D_law_begun =>
      refine' Wc.def_at KX G ?a ?l ?c ?k Wc.bz_D_law_begun
      (case a => k_is); (case l => k_is); (case c => k_is); (case k => k_is)
    case D_law_folded =>
      refine' Wc.def_at KX G ?a ?l ?c ?k Wc.bz_D_law_folded
      (case a => k_is); (case l => k_is); (case c => k_is); (case k => k_is)
    case D_law_draw =>
      refine' Wc.def_at KX G ?a ?l ?c ?k Wc.bz_D_law_draw
      (case a => k_is); (case l => k_is); (case c => k_is); (case k => k_is)
    case D_law_mixed =>
      refine' Wc.def_at KX G ?a ?l ?c ?k Wc.bz_D_law_mixed
      (case a => k_is); (case l => k_is); (case c => k_is); (case k => k_is)
    case D_law_any_net =>
      refine' Wc.def_at KX G ?a ?l ?c ?k Wc.bz_D_law_any_net
      (case a => k_is); (case l => k_is); (case c => k_is); (case k => k_is)
    case D_law_net =>
      refine' Wc.def_at KX G ?a ?l ?c ?k Wc.bz_D_law_net
      (case a => k_is); (case l => k_is); (case c => k_is); (case k => k_is)
    case D_law_base =>
      refine' Wc.def_at KX G ?a ?l ?c ?k Wc.bz_D_law_base
      (case a => k_is); (case l => k_is); (case c => k_is); (case k => k_is)
    case D_law_amount =>
      refine' Wc.def_at KX G ?a ?l ?c ?k Wc.bz_D_law_amount
      (case a => k_is); (case l => k_is); (case c => k_is); (case k => k_is)
    case D_law_tubes =>
      refine' Wc.def_at KX G ?a ?l ?c ?k Wc.bz_D_law_tubes
      (case a => k_is); (case l => k_is); (case c => k_is); (case k => k_is)
    case D_law_mixed_up =>
      refine' Wc.def_at KX G ?a ?l ?c ?k Wc.bz_D_law_mixed_up
      (case a => k_is); (case l => k_is); (case c => k_is); (case k => k_is)
    case D_law_root =>
      refine' Wc.def_at KX G ?a ?l ?c ?k Wc.bz_D_law_root
      (case a => k_is); (case l => k_is); (case c => k_is); (case k => k_is)
    case D_law_bent =>
      refine' Wc.def_at KX G ?a ?l ?c ?k Wc.bz_D_law_bent
      (case a => k_is); (case l => k_is); (case c => k_is); (case k => k_is)
    case D_law_sets =>
      refine' Wc.def_at KX G ?a ?l ?c ?k Wc.bz_D_law_sets
      (case a => k_is); (case l => k_is); (case c => k_is); (case k => k_is)
    case D_law_narrowed =>
      refine' Wc.def_at KX G ?a ?l ?c ?k Wc.bz_D_law_narrowed
      (case a => k_is); (case l => k_is); (case c => k_is); (case k => k_is)
    (case hne => decide)
    case D_checked_branches =>
      refine' Wc.def_at KX G ?a ?l ?c ?k Wc.bz_D_checked_branches
      (case a => k_is); (case l => k_is); (case c => k_is); (case k => k_is)
    case D_is_between =>
      refine' Wc.def_at KX G ?a ?l ?c ?k Wc.bz_D_is_between
      (case a => k_is); (case l => k_is); (case c => k_is); (case k => k_is)
    case D_is_integer =>
      refine' Wc.def_at KX G ?a ?l ?c ?k Wc.bz_D_is_integer
      (case a => k_is); (case l => k_is); (case c => k_is); (case k => k_is)
    case D_is_pipe =>
      refine' Wc.def_at KX G ?a ?l ?c ?k Wc.bz_D_is_pipe
      (case a => k_is); (case l => k_is); (case c => k_is); (case k => k_is)
    case D_find_branches =>
      refine' Wc.def_at KX G ?a ?l ?c ?k Wc.bz_D_find_branches
      (case a => k_is); (case l => k_is); (case c => k_is); (case k => k_is)
    case D_find_bounds =>
      refine' Wc.def_at KX G ?a ?l ?c ?k Wc.bz_D_find_bounds
      (case a => k_is); (case l => k_is); (case c => k_is); (case k => k_is)
    case D_checked_residues =>
      refine' Wc.def_at KX G ?a ?l ?c ?k Wc.bz_D_checked_residues
      (case a => k_is); (case l => k_is); (case c => k_is); (case k => k_is)
    case D_read_meters =>
      refine' Wc.def_at KX G ?a ?l ?c ?k Wc.bz_D_read_meters
      (case a => k_is); (case l => k_is); (case c => k_is); (case k => k_is)
    case D_carry_along =>
      refine' Wc.def_at KX G ?a ?l ?c ?k Wc.bz_D_carry_along
      (case a => k_is); (case l => k_is); (case c => k_is); (case k => k_is)
    case D_place_balances =>
      refine' Wc.def_at KX G ?a ?l ?c ?k Wc.bz_D_place_balances
      (case a => k_is); (case l => k_is); (case c => k_is); (case k => k_is)
    case D_find_sums =>
      refine' Wc.def_at KX G ?a ?l ?c ?k Wc.bz_D_find_sums
      (case a => k_is); (case l => k_is); (case c => k_is); (case k => k_is)
    case D_find_groups =>
      refine' Wc.def_at KX G ?a ?l ?c ?k Wc.bz_D_find_groups
      (case a => k_is); (case l => k_is); (case c => k_is); (case k => k_is)
    case N_bounds =>
      refine' Wc.nz_bounds KX G ?a ?l ?c ?k
      (case a => k_is); (case l => k_is); (case c => k_is); (case k => k_is)
    case D_check_places =>
      refine' Wc.def_at KX G ?a ?l ?c ?k Wc.bz_D_check_places
      (case a => k_is); (case l => k_is); (case c => k_is); (case k => k_is)
    case D_is_number_set =>
      refine' Wc.def_at KX G ?a ?l ?c ?k Wc.bz_D_is_number_set
      (case a => k_is); (case l => k_is); (case c => k_is); (case k => k_is)
    case D_checked_bounds =>
      refine' Wc.def_at KX G ?a ?l ?c ?k Wc.bz_D_checked_bounds
      (case a => k_is); (case l => k_is); (case c => k_is); (case k => k_is)
    case D_find_excess =>
      refine' Wc.def_at KX G ?a ?l ?c ?k Wc.bz_D_find_excess
      (case a => k_is); (case l => k_is); (case c => k_is); (case k => k_is)
    case N_excess =>
      refine' Wc.nz_excess KX G ?a ?l ?c ?k
      (case a => k_is); (case l => k_is); (case c => k_is); (case k => k_is)
    case D_law_wrong =>
      refine' Wc.def_at KX G ?a ?l ?c ?k Wc.bz_D_law_wrong
      (case a => k_is); (case l => k_is); (case c => k_is); (case k => k_is)
    case D_law_clusters =>
      refine' Wc.def_at KX G ?a ?l ?c ?k Wc.bz_D_law_clusters
      (case a => k_is); (case l => k_is); (case c => k_is); (case k => k_is)
    case D_law_joined =>
      refine' Wc.def_at KX G ?a ?l ?c ?k Wc.bz_D_law_joined
      (case a => k_is); (case l => k_is); (case c => k_is); (case k => k_is)
    case D_law_is_wide =>
      refine' Wc.def_at KX G ?a ?l ?c ?k Wc.bz_D_law_is_wide
      (case a => k_is); (case l => k_is); (case c => k_is); (case k => k_is)
    case D_law_total =>
      refine' Wc.def_at KX G ?a ?l ?c ?k Wc.bz_D_law_total
      (case a => k_is); (case l => k_is); (case c => k_is); (case k => k_is)
    case D_law_shown =>
      refine' Wc.def_at KX G ?a ?l ?c ?k Wc.bz_D_law_shown
      (case a => k_is); (case l => k_is); (case c => k_is); (case k => k_is)
    case D_law_ins =>
      refine' Wc.def_at KX G ?a ?l ?c ?k Wc.bz_D_law_ins
      (case a => k_is); (case l => k_is); (case c => k_is); (case k => k_is)
    case D_law_outs =>
      refine' Wc.def_at KX G ?a ?l ?c ?k Wc.bz_D_law_outs
      (case a => k_is); (case l => k_is); (case c => k_is); (case k => k_is)
    case D_law_pairs =>
      refine' Wc.def_at KX G ?a ?l ?c ?k Wc.bz_D_law_pairs
      (case a => k_is); (case l => k_is); (case c => k_is); (case k => k_is)
    case D_law_pair =>
      refine' Wc.def_at KX G ?a ?l ?c ?k Wc.bz_D_law_pair
      (case a => k_is); (case l => k_is); (case c => k_is); (case k => k_is)
    case D_law_rests =>
      refine' Wc.def_at KX G ?a ?l ?c ?k Wc.bz_D_law_rests
      (case a => k_is); (case l => k_is); (case c => k_is); (case k => k_is)
    case D_law_surplus =>
      refine' Wc.def_at KX G ?a ?l ?c ?k Wc.bz_D_law_surplus
      (case a => k_is); (case l => k_is); (case c => k_is); (case k => k_is)
    case D_law_caught =>
      refine' Wc.def_at KX G ?a ?l ?c ?k Wc.bz_D_law_caught
      (case a => k_is); (case l => k_is); (case c => k_is); (case k => k_is)
    (case gPP => kernel_rfl)
    (case gP => kernel_rfl)
    (case gG => kernel_rfl)
    (case gNP => kernel_rfl)
    (case gNG => kernel_rfl)
    (case gNN => kernel_rfl)
