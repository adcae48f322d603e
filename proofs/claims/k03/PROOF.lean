import PyProof.Rows.All
import HandS.HeadHook4
import HandS.Head2
import HandS.HeadEnd
import HandS.Property
import HandS.Words
import HandS.ForMost
import HandS.Evl
import HandS.Walk
import HandS.Flow
import HandS.Deep
import HandS.Strs
import HandS.IsInst
import HandS.TupAny
import PySem.Challenge.RW_rotatesafe_k03_whole_knots
import KE.GoesEnum
import HandS.More
import HandS.DictComp
import HandS.DictTup
import HandS.OwnEq
import KE.KDictCopyH
import HandS.Conv
import HandS.ListEq
import HandS.Wide
import KE.KDictPairs
import HandS.TupLe
import PyProof.EqAt
import HandS.Small
section
set_option Elab.async false
set_option linter.all false
set_option maxRecDepth 100000
set_option maxHeartbeats 4000000
/-! the head's facts -/
namespace HK
open PySem L2
abbrev Ad := PySem.Addr
/-! ### the head's facts -/
section
variable {K : PySem.W.Frag} {w : World} {h : Heap} {mg : Str → Option Value}
theorem ba2 {a b : Bool} (h : (a && b) = true) : a = true ∧ b = true := Bool.and_eq_true_iff.mp h
theorem fun_of {x qual : Str} {st : Stmt} {f : Ad} {fd : FuncData} (F : FunD K x qual (defArgs st) (defBody st) (defScope st) [] [] f fd) : Fun K x qual st f fd := by
  obtain ⟨⟨oc, od, dV, kV, doc, pm, an, cdv, ct, osl, rfl, lk, hc, hd, _⟩, kp⟩ := F
  rcases hd with ⟨_, rfl⟩ | ⟨z, _⟩
  · exact ⟨⟨oc, od, kV, doc, pm, an, cdv, ct, osl, rfl, lk, hc⟩, kp⟩
  · exact absurd rfl z
/-- a def of the text -/
def dF (at_ : Str × Option Str) (x qual : Str) (st : Stmt) : He.DefD := ⟨at_, x, qual, defArgs st, defBody st, defScope st, [], []⟩
theorem dF_fun {at_ : Str × Option Str} {x qual : Str} {st : Stmt} (h : ∃ fd, FunD K x qual (defArgs st) (defBody st) (defScope st) [] [] (He.fAd K at_) fd) : ∃ fd, Fun K x qual st (He.fAd K at_) fd := let ⟨fd, F⟩ := h; ⟨fd, fun_of F⟩
/-! properties -/
def gAd (K : PySem.W.Frag) (C m : Str) : Ad := match PySem.W.recIn K (He.ma K (He.ga K C) m) "property" with
  | some (.ref g :: _) => g
  | _ => 0
def noneB : Value → Bool
  | .none => true
  | _ => false
structure PrD where
  C : Str
  m : Str
  qual : Str
  st : Stmt
def fnA (K : PySem.W.Frag) (a : Ad) : He.FnW := match K.lookup a with
  | some ⟨_, _, .func fd, _⟩ => some (fd.name, fd.qualname, fd.params, fd.body, fd.scope, fd.globals, fd.closure, fd.builtins)
  | _ => none
def PrD.val (d : PrD) : He.FnW := some (d.m, d.qual, defArgs d.st, .stmts (defBody d.st), defScope d.st, mainGlobals, [], builtinsNs)
def PrD.ok (K : PySem.W.Frag) (d : PrD) : Bool :=
  He.eqO (PySem.W.findIn K (.ref (He.ga K d.C)) d.m) (some (some (.ref (He.ma K (He.ga K d.C) d.m)))) && (He.eqO (PySem.W.specialIn K (.ref (He.ma K (He.ga K d.C) d.m)) "__get__") (some (some (.builtin "property.__get__"))) && (decide (PySem.W.takesIn K (.ref (He.ma K (He.ga K d.C) d.m)) = some true) &&
  ((match PySem.W.recIn K (He.ma K (He.ga K d.C) d.m) "property" with
    | some (.ref _ :: _) => true
    | _ => false) && (PySem.W.keepIn K (.ref (gAd K d.C d.m)) && (match K.lookup (gAd K d.C d.m) with
  | some ⟨_, _, .func fd, _⟩ => PySem.W.codeIn K fd.code d.qual && noneB fd.defaults
  | _ => false)))))
theorem PrD.of {d : PrD} (e : fnA K (gAd K d.C d.m) = d.val) (c : d.ok K = true) : PropOf K (He.ga K d.C) d.m (He.ma K (He.ga K d.C) d.m) (gAd K d.C d.m) ∧ ∃ fd, Fun K d.m d.qual d.st (gAd K d.C d.m) fd := by
  obtain ⟨c1, c⟩ := ba2 c
  obtain ⟨c2, c⟩ := ba2 c
  obtain ⟨c3, c⟩ := ba2 c
  obtain ⟨c4, c⟩ := ba2 c
  obtain ⟨c5, c6⟩ := ba2 c
  refine ⟨⟨He.eqO_ok c1, He.eqO_ok c2, of_decide_eq_true c3, ?_⟩, ?_⟩
  · unfold gAd
    split at c4
    · rename_i g rest z
      rw [z]; exact ⟨rest, rfl⟩
    · cases c4
  · unfold fnA at e
    cases q : K.lookup (gAd K d.C d.m) with
    | none => rw [q] at c6; cases c6
    | some o =>
      obtain ⟨oc, od, dt, osl⟩ := o
      rw [q] at c6 e
      cases dt with
      | func fd =>
        obtain ⟨n1, n2, n3, n4, n5, n6, n7, n8, n9, n10, n11, n12, n13, n14, n15⟩ := fd
        have e2 : (some (n1, n2, n3, n4, n5, n6, n7, n15) : He.FnW) = some (d.m, d.qual, defArgs d.st, .stmts (defBody d.st), defScope d.st, mainGlobals, [], builtinsNs) := e
        simp only [Option.some.injEq, Prod.mk.injEq] at e2
        obtain ⟨h1, h2, h3, h4, h5, h6, h7, h8⟩ := e2
        subst h1 h2 h3 h4 h5 h6 h7 h8
        obtain ⟨k1, k2⟩ := ba2 (show (PySem.W.codeIn K n13 d.qual && noneB n8) = true from c6)
        have k3 : n8 = .none := by
          cases n8 <;> first | rfl | cases k2
        subst k3
        exact ⟨_, ⟨⟨oc, od, n9, n10, n11, n12, n13, n14, osl, rfl, q, k1⟩, c5⟩⟩
      | _ => cases c6
/-! classes -/
def clsB (K : PySem.W.Frag) (x : Str) : Bool := (He.Fa.cls x).ok K && (He.eqO (PySem.W.findIn K (.ref (He.ga K x)) "__class__") (some (some (.builtin "object.__class__"))) && (He.eqO (PySem.W.specialIn K (.builtin "object.__class__") "__get__") (some (some (.builtin "getset_descriptor.__get__"))) &&
  (decide (PySem.W.takesIn K (.builtin "object.__class__") = some true) && decide (PySem.W.mroIn K (He.ga K x) (.type "object") = some true))))
theorem clsB_ok {x : Str} (c : clsB K x = true) : Cls K (He.ga K x) ∧ PySem.W.findIn K (.ref (He.ga K x)) "__class__" = some (some (.builtin "object.__class__")) ∧ PySem.W.specialIn K (.builtin "object.__class__") "__get__" = some (some (.builtin "getset_descriptor.__get__")) ∧
  PySem.W.takesIn K (.builtin "object.__class__") = some true ∧ PySem.W.mroIn K (He.ga K x) (.type "object") = some true := by
  obtain ⟨c1, c⟩ := ba2 c
  obtain ⟨c2, c⟩ := ba2 c
  obtain ⟨c3, c⟩ := ba2 c
  obtain ⟨c4, c5⟩ := ba2 c
  exact ⟨He.cls_ok c1, He.eqO_ok c2, He.eqO_ok c3, of_decide_eq_true c4, of_decide_eq_true c5⟩
/-! the hook: what the module's names reach, the properties too -/
def refsE (o : Obj) : List Ad := match o.data with
  | .seq its _ => its.toList.flatMap He.refV
  | .dict es _ => es.toList.flatMap fun e => He.refV e.val
  | .func fd => He.refV fd.code ++ He.refV fd.defaults
  | .cls cd => [cd.ns]
  | .fields vs => (match o.cls with
    | .type c => cond (decide (c = "property")) (vs.toList.flatMap He.refV) []
    | _ => [])
  | _ => []
def refsA (g : Ad → Option Obj) (a : Ad) : List Ad := match g a with
  | some o => refsE o
  | none => []
def levs (g : Ad → Option Obj) : Nat → List Ad → List Ad
  | 0, l => l
  | n + 1, l => l ++ levs g n (l.flatMap (refsA g))
/-- five steps reach a getter's code -/
def frE (g : Ad → Option Obj) : PySem.W.Frag := He.frT g (levs g 5 [mainGlobals])
abbrev AlP : Type := He.AlT × (Bool × List He.FnW)
def obsK (fa : List He.Fa) (fn : List He.DefD) (ts : List He.Tab) (tf : List He.Defn) (pr : List PrD) (ex : PySem.W.Frag → Bool) (g : Ad → Option Obj) (K : PySem.W.Frag) : AlP :=
  (He.obsT fa fn ts K, (((pr.all fun d => d.ok K) && ex K) && He.tabsB g tf K, pr.map fun d => fnA K (gAd K d.C d.m)))
def obsP (fa : List He.Fa) (fn : List He.DefD) (ts : List He.Tab) (tf : List He.Defn) (pr : List PrD) (ex : PySem.W.Frag → Bool) (g : Ad → Option Obj) : AlP := obsK fa fn ts tf pr ex g (frE g)
structure SaysP (fa : List He.Fa) (fn : List He.DefD) (ts : List He.Tab) (tf : List He.Defn) (pr : List PrD) (ex : PySem.W.Frag → Bool) (w : World) (h : Heap) (K : PySem.W.Frag) : Prop where
  t : He.SaysT fa fn ts w K
  prs : (pr.all fun d => d.ok K) = true
  more : ex K = true
  tab : ∀ p ∈ tf, PySem.W.codeHdIn K (He.cT K p).1 (He.cT K p).2 = true ∧ K.lookup (He.cT K p).2 = none ∧ h.get? (He.cT K p).2 = some { cls := .none, data := .fields #[] }
  p : (pr.map fun d => fnA K (gAd K d.C d.m)) = pr.map PrD.val
theorem saysP_of {fa : List He.Fa} {fn : List He.DefD} {ts : List He.Tab} {tf : List He.Defn} {pr : List PrD} {ex : PySem.W.Frag → Bool} (e : obsP fa fn ts tf pr ex h.get? = (He.valT fn ts w, (true, pr.map PrD.val))) : SaysP fa fn ts tf pr ex w h (frE h.get?) := by
  have e1 : He.obsT fa fn ts (frE h.get?) = He.valT fn ts w := congrArg (fun z : AlP => z.1) e
  have e2 : (((pr.all fun d => d.ok (frE h.get?)) && ex (frE h.get?)) && He.tabsB h.get? tf (frE h.get?)) = true := congrArg (fun z : AlP => z.2.1) e
  have e3 : (pr.map fun d => fnA (frE h.get?) (gAd (frE h.get?) d.C d.m)) = pr.map PrD.val := congrArg (fun z : AlP => z.2.2) e
  obtain ⟨h1, h2⟩ := ba2 e2
  obtain ⟨h3, h4⟩ := ba2 h1
  refine ⟨e1, h3, h4, fun p hp => ?_, e3⟩
  obtain ⟨k1, k2⟩ := ba2 (List.all_eq_true.mp h2 p hp)
  cases q : h.get? (He.cT (frE h.get?) p).2 with
  | none => rw [q] at k2; cases k2
  | some o =>
    rw [q] at k2
    exact ⟨k1, He.frT_none q k2, by rw [He.emptyTab_eq k2]⟩
def hookP (fa : List He.Fa) (fn : List He.DefD) (ts : List He.Tab) (tf : List He.Defn) (pr : List PrD) (ex : PySem.W.Frag → Bool) : PySem.W.Hook where
  α := AlP
  obs := fun s => obsP fa fn ts tf pr ex s.heap.get?
  val := fun w => (He.valT fn ts w, (true, pr.map PrD.val))
  says := fun w h => ∃ K : PySem.W.Frag, K.In h ∧ SaysP fa fn ts tf pr ex w h K
  of := fun _ _ e => ⟨_, He.frT_in, saysP_of e⟩
  keeps := fun _ _ _ ⟨K, hK, c⟩ k => ⟨K, PySem.W.Frag.In.keeps hK k, ⟨c.t, c.prs, c.more, fun p hp => let ⟨a, b, d⟩ := c.tab p hp; ⟨a, b, k _ _ d⟩, c.p⟩⟩
theorem obsP_eq {fa : List He.Fa} {fn : List He.DefD} {ts : List He.Tab} {tf : List He.Defn} {pr : List PrD} {ex : PySem.W.Frag → Bool} {g : Ad → Option Obj} {s : Shared} (h : ∀ a, g a = s.heap.get? a) : obsP fa fn ts tf pr ex g = (hookP fa fn ts tf pr ex).obs s := by
  have e : g = s.heap.get? := funext h
  rw [e] <;> rfl
theorem map3 {α β γ δ : Type} {x : Option α} {f : α → β} {g : α → γ} {k : α → δ} {a : β} {b : γ} {c : δ} (h1 : x.map (fun s => (f s, g s)) = some (a, b)) (h2 : x.map k = some c) : x.map (fun s => (f s, g s, k s)) = some (a, b, c) := by
  cases x with
  | none => cases h1
  | some s =>
    cases h1; cases h2; rfl
section
variable {fa : List He.Fa} {fn : List He.DefD} {ts : List He.Tab} {tf : List He.Defn} {pr : List PrD} {ex : PySem.W.Frag → Bool}
theorem SaysP.fact (c : SaysP fa fn ts tf pr ex w h K) (i : Nat) {f : He.Fa} (e : fa[i]? = some f := by rfl) : f.ok K = true := c.t.d.fact i e
theorem SaysP.def_ (c : SaysP fa fn ts tf pr ex w h K) (i : Nat) {at_ : Str × Option Str} {x qual : Str} {st : Stmt} (e : fn[i]? = some (dF at_ x qual st) := by rfl) : ∃ fd, Fun K x qual st (He.fAd K at_) fd := dF_fun (c.t.d.def_ i e)
theorem SaysP.prop (c : SaysP fa fn ts tf pr ex w h K) (i : Nat) {d : PrD} (e : pr[i]? = some d := by rfl) : PropOf K (He.ga K d.C) d.m (He.ma K (He.ga K d.C) d.m) (gAd K d.C d.m) ∧ ∃ fd, Fun K d.m d.qual d.st (gAd K d.C d.m) fd := by
  have e2 : (pr.map fun d => fnA K (gAd K d.C d.m))[i]? = (pr.map PrD.val)[i]? := by rw [c.p]
  rw [List.getElem?_map, List.getElem?_map, e] at e2
  exact PrD.of (Option.some.inj e2) (List.all_eq_true.mp c.prs d (List.mem_of_getElem? e))
end
end
section
variable {K : PySem.W.Frag} {mg : Str → Option Value} {base : Heap}
theorem fun_bindsTo {x qual p : Str} {st : Stmt} {f : Ad} {fd : FuncData} (F : Fun K x qual st f fd) (h : ∀ (kV doc pm : Value) (an : Option Ad) (cdv ct u : Value), bindArgs (PySem.W.fnOf x qual (defArgs st) (defBody st) (defScope st) .none kV doc pm an cdv ct) ⟨[u], []⟩ = pure [(p, u)]) (s : Shared) (u : Value) : BindsTo s fd ⟨[u], []⟩ [(p, u)] := by
  obtain ⟨oc, od, kV, doc, pm, an, cdv, ct, osl, rfl, lk, hc⟩ := F.ex
  exact .of_eq (h kV doc pm an cdv ct u)
end
end HK
end
section
set_option Elab.async false
set_option linter.all false
set_option maxRecDepth 100000
set_option maxHeartbeats 4000000
/-! R: readings over data. F: the part of the heap that never changes again; H: the heap as it stands. -/
namespace R
open PySem L2 Evl

/-- the list that the law draws from: ints that are not negative -/
def Alive (q : Option Addr) (H : Hp) : Prop := ∀ a, q = some a → ∃ ns : List Int, H a = some (.lst (ns.map .int)) ∧ ns.length ≤ 1000 ∧ ∀ n ∈ ns, 0 ≤ n
structure Grow (q : Option Addr) (F H F' H' : Hp) : Prop where
  f : Ex F F'
  h : ∀ a o, q ≠ some a → H a = some o → H' a = some o
  v : ∀ a o, H a = some o → ∃ o', H' a = some o'
  s : Ex F' H'
  n0 : ∀ a o, F a = none → H a = some o → Mut (some o) → F' a = none
  a0 : Alive q H
  a1 : Alive q H'
theorem Grow.refl {q : Option Addr} {F H : Hp} (s : Ex F H) (al : Alive q H) : Grow q F H F H := ⟨Ex.refl F, fun _ _ _ h => h, fun _ o h => ⟨o, h⟩, s, fun _ _ h _ _ => h, al, al⟩
theorem Grow.start {F H : Hp} (s : Ex F H) : Grow none F H F H := Grow.refl s fun _ h => nomatch h
theorem Grow.end {q : Option Addr} {F H F' H' : Hp} (g : Grow q F H F' H') : Grow q F' H' F' H' := Grow.refl g.s g.a1
theorem Grow.trans {q : Option Addr} {F H F1 H1 F2 H2 : Hp} (a : Grow q F H F1 H1) (b : Grow q F1 H1 F2 H2) : Grow q F H F2 H2 :=
  ⟨a.f.trans b.f, fun x o hq hh => b.h x o hq (a.h x o hq hh), fun x o hh => by obtain ⟨o', h'⟩ := a.v x o hh; exact b.v x o' h', b.s, fun x o hf hh hm => by
    by_cases e : q = some x
    · obtain ⟨ns, h', _⟩ := a.a1 x e
      exact b.n0 x _ (a.n0 x o hf hh hm) h' True.intro
    · exact b.n0 x o (a.n0 x o hf hh hm) (a.h x o e hh) hm, a.a0, b.a1⟩
theorem Grow.n {q : Option Addr} {F H F' H' : Hp} (g : Grow q F H F' H') (l : Addr) (xs : List V) (h1 : F l = none) (h2 : H l = some (.lst xs)) : F' l = none := g.n0 l _ h1 h2 True.intro
theorem Grow.nT {q : Option Addr} {F H F' H' : Hp} (g : Grow q F H F' H') (l : Addr) (xs : List (List Key × V)) (h1 : F l = none) (h2 : H l = some (.dT xs)) : F' l = none := g.n0 l _ h1 h2 True.intro
theorem Grow.nK {q : Option Addr} {F H F' H' : Hp} (g : Grow q F H F' H') (l : Addr) (xs : List (Key × V)) (h1 : F l = none) (h2 : H l = some (.dK xs)) : F' l = none := g.n0 l _ h1 h2 True.intro
theorem Grow.fresh {q : Option Addr} {F H F' H' : Hp} (g : Grow q F H F' H') {p : Addr} (hp : H' p = none) : H p = none := by
  cases e : H p with
  | none => rfl
  | some o =>
    obtain ⟨o', h'⟩ := g.v p o e
    rw [hp] at h'; cases h'
theorem Alive.ne {q : Option Addr} {H : Hp} {p : Addr} (al : Alive q H) (hp : H p = none) : q ≠ some p := fun e => by
  obtain ⟨ns, h, _⟩ := al p e
  rw [hp] at h; cases h
theorem Alive.upd {q : Option Addr} {H : Hp} {p : Addr} {o : HO} (al : Alive q H) (hq : q ≠ some p) : Alive q (upd H p o) := fun a e => by
  obtain ⟨ns, h, r⟩ := al a e
  refine ⟨ns, ?_, r⟩
  rw [upd_ne (fun z => hq (by rw [e, z]))]
  exact h
/-- what the callee keeps is kept -/
theorem Grow.weak {q : Option Addr} {F H F' H' : Hp} (g : Grow none F H F' H') (al : Alive q H) : Grow q F H F' H' :=
  ⟨g.f, fun a o _ h => g.h a o (by simp) h, g.v, g.s, g.n0, al, fun a e => by obtain ⟨ns, h, r⟩ := al a e; exact ⟨ns, g.h a _ (by simp) h, r⟩⟩
/-- a new object that never changes again -/
theorem Grow.new {q : Option Addr} {F H F' H' : Hp} {p : Addr} {o : HO} (g : Grow q F H F' H') (hp : H' p = none) : Grow q F' H' (upd F' p o) (upd H' p o) := by
  have hf : F' p = none := fresh_back g.s hp
  refine ⟨Ex.new hf, fun a u _ h => Ex.new hp a u h, fun a u h => ⟨u, Ex.new hp a u h⟩, fun a u h => ?_, fun a u h1 h2 _ => ?_, g.a1, g.a1.upd (g.a1.ne hp)⟩
  · by_cases e : a = p
    · subst e; rw [upd_same] at h ⊢; exact h
    · rw [upd_ne e] at h ⊢; exact g.s a u h
  · rw [upd_ne (ne_of_none h2 hp)]; exact h1
/-- a new object that may change -/
theorem Grow.mut {q : Option Addr} {F H F' H' : Hp} {p : Addr} {o : HO} (g : Grow q F H F' H') (hp : H' p = none) : Grow q F' H' F' (upd H' p o) :=
  ⟨Ex.refl _, fun a u _ h => Ex.new hp a u h, fun a u h => ⟨u, Ex.new hp a u h⟩, g.s.trans (Ex.new hp), fun _ _ h _ _ => h, g.a1, g.a1.upd (g.a1.ne hp)⟩
/-- it is kept as it is from now on -/
theorem frz {q : Option Addr} {F1 H1 F2 H2 : Hp} {p : Addr} {o : HO} (g2 : Grow q F1 H1 F2 H2) (h1 : H1 p = none) (hf : F2 p = none) (h2 : H2 p = some o) : Grow q F1 H1 (upd F2 p o) H2 := by
  refine ⟨g2.f.trans (Ex.new hf), g2.h, g2.v, fun a u h => ?_, fun a u ha hh hm => ?_, g2.a0, g2.a1⟩
  · by_cases e : a = p
    · subst e; rw [upd_same] at h; rw [h2]; exact h
    · rw [upd_ne e] at h; exact g2.s a u h
  · rw [upd_ne (ne_of_none hh h1)]; exact g2.n0 a u ha hh hm
/-- a store to an object that is younger than the entry -/
theorem Grow.put {q : Option Addr} {F0 H0 F H : Hp} {p : Addr} {o : HO} (g : Grow q F0 H0 F H) (h0 : H0 p = none) (hf : F p = none) : Grow q F0 H0 F (upd H p o) := by
  have hq : q ≠ some p := g.a0.ne h0
  refine ⟨g.f, fun a u hq' ha => ?_, fun a u ha => ?_, fun a u ha => ?_, g.n0, g.a0, g.a1.upd hq⟩
  · rw [upd_ne (ne_of_none ha h0)]; exact g.h a u hq' ha
  · rw [upd_ne (ne_of_none ha h0)]; exact g.v a u ha
  · rw [upd_ne (ne_of_none ha hf)]; exact g.s a u ha

mutual
/-- v stands for the data d, all its objects known -/
inductive Ds (F : Hp) : V → PyData → Prop
  | non : Ds F .non .none
  | bl (b : Bool) : Ds F (.bl b) (.bool b)
  | int (i : Int) : Ds F (.int i) (.int i)
  | str (x : Str) : Ds F (.str x) (.str x)
  | lst {a : Addr} {xs : List V} {ds : List PyData} : F a = some (.lst xs) → DsAll F xs ds → Ds F (.ref a) (.list ds)
  | tup {a : Addr} {xs : List V} {ds : List PyData} : F a = some (.tup xs) → DsAll F xs ds → Ds F (.ref a) (.tuple ds)
inductive DsAll (F : Hp) : List V → List PyData → Prop
  | nil : DsAll F [] []
  | cons {v : V} {vs : List V} {d : PyData} {ds : List PyData} : Ds F v d → DsAll F vs ds → DsAll F (v :: vs) (d :: ds)
end
section
variable {F F' : Hp}
mutual
theorem Ds.mono (e : Ex F F') : ∀ {v : V} {d : PyData}, Ds F v d → Ds F' v d
  | _, _, .non => .non
  | _, _, .bl b => .bl b
  | _, _, .int i => .int i
  | _, _, .str x => .str x
  | _, _, .lst h a => .lst (e _ _ h) (DsAll.mono e a)
  | _, _, .tup h a => .tup (e _ _ h) (DsAll.mono e a)
theorem DsAll.mono (e : Ex F F') : ∀ {vs : List V} {ds : List PyData}, DsAll F vs ds → DsAll F' vs ds
  | _, _, .nil => .nil
  | _, _, .cons h t => .cons (Ds.mono e h) (DsAll.mono e t)
end
mutual
theorem Ds.dp {K : PySem.W.Frag} : ∀ {v : V} {d : PyData}, Ds F v d → Dp K F v d
  | _, _, .non => .non
  | _, _, .bl b => .bl b
  | _, _, .int i => .int i
  | _, _, .str x => .str x
  | _, _, .lst h a => .lst (SqL.of h) (DsAll.dp a)
  | _, _, .tup h a => .tup (SqT.of h) (DsAll.dp a)
theorem DsAll.dp {K : PySem.W.Frag} : ∀ {vs : List V} {ds : List PyData}, DsAll F vs ds → DpAll K F vs ds
  | _, _, .nil => .nil
  | _, _, .cons h t => .cons (Ds.dp h) (DsAll.dp t)
end
theorem DsAll.length {F : Hp} : ∀ {vs : List V} {ds : List PyData}, DsAll F vs ds → vs.length = ds.length
  | _, _, .nil => rfl
  | _, _, .cons _ t => congrArg (· + 1) (DsAll.length t)
theorem DsAll.get {F : Hp} : ∀ {vs : List V} {ds : List PyData} {i : Nat} {v : V}, DsAll F vs ds → vs[i]? = some v → ∃ d, ds[i]? = some d ∧ Ds F v d
  | _, _, _, _, .nil, h => by simp at h
  | _, _, 0, _, .cons h _, e => by simp at e; subst e; exact ⟨_, rfl, h⟩
  | _, _, i + 1, _, .cons _ t, e => by simpa using DsAll.get (i := i) t (by simpa using e)
theorem DsAll.get' {F : Hp} : ∀ {vs : List V} {ds : List PyData} {i : Nat} {d : PyData}, DsAll F vs ds → ds[i]? = some d → ∃ v, vs[i]? = some v ∧ Ds F v d
  | _, _, _, _, .nil, h => by simp at h
  | _, _, 0, _, .cons h _, e => by simp at e; subst e; exact ⟨_, rfl, h⟩
  | _, _, i + 1, _, .cons _ t, e => by simpa using DsAll.get' (i := i) t (by simpa using e)
theorem DsAll.append {F : Hp} : ∀ {vs ws : List V} {ds es : List PyData}, DsAll F vs ds → DsAll F ws es → DsAll F (vs ++ ws) (ds ++ es)
  | _, _, _, _, .nil, h => h
  | _, _, _, _, .cons h t, g => .cons h (DsAll.append t g)
theorem DsAll.take {F : Hp} : ∀ {vs : List V} {ds : List PyData} (n : Nat), DsAll F vs ds → DsAll F (vs.take n) (ds.take n)
  | _, _, 0, _ => .nil
  | _, _, _ + 1, .nil => .nil
  | _, _, n + 1, .cons h t => .cons h (DsAll.take n t)
theorem DsAll.drop {F : Hp} : ∀ {vs : List V} {ds : List PyData} (n : Nat), DsAll F vs ds → DsAll F (vs.drop n) (ds.drop n)
  | _, _, 0, h => h
  | _, _, _ + 1, .nil => .nil
  | _, _, n + 1, .cons _ t => DsAll.drop n t
theorem DsAll.strs {F : Hp} : ∀ {vs : List V} {ss : List Str}, DsAll F vs (ss.map .str) → vs = ss.map .str
  | _, [], h => by cases h; rfl
  | _, s :: ss, h => by
    cases h with
    | cons h t => cases h; rw [DsAll.strs t]; rfl
theorem DsAll.bools {F : Hp} : ∀ {vs : List V} {ss : List Bool}, DsAll F vs (ss.map .bool) → vs = ss.map .bl
  | _, [], h => by cases h; rfl
  | _, s :: ss, h => by
    cases h with
    | cons h t => cases h; rw [DsAll.bools t]; rfl
theorem DsAll.ints {F : Hp} : ∀ {vs : List V} {ss : List Int}, DsAll F vs (ss.map .int) → vs = ss.map .int
  | _, [], h => by cases h; rfl
  | _, s :: ss, h => by
    cases h with
    | cons h t => cases h; rw [DsAll.ints t]; rfl
theorem DsAll.of_strs {F : Hp} : ∀ (ss : List Str), DsAll F (ss.map V.str) (ss.map .str)
  | [] => .nil
  | s :: ss => .cons (.str s) (DsAll.of_strs ss)
theorem DsAll.of_ints {F : Hp} : ∀ (ss : List Int), DsAll F (ss.map V.int) (ss.map .int)
  | [] => .nil
  | s :: ss => .cons (.int s) (DsAll.of_ints ss)
end

/-! ### the weakest readings -/
section
variable (X : Cx)
structure wE (e : Expr) (σ : St) (H : Hp) (Q : VK) : Prop where
  run : ∀ pins s, Inv X pins σ H s → wpAny (model X.prog X.w) X.A (eval e X.env) (EP X pins σ Q) X.xe s
structure wT (e : Expr) (σ : St) (H : Hp) (Q : Bool → Hp → Prop) : Prop where
  run : ∀ pins s, Inv X pins σ H s → wpAny (model X.prog X.w) X.A (isTrue e X.env (eval e X.env)) (TP X pins σ Q) X.xe s
structure wA (es : List Expr) (σ : St) (H : Hp) (Q : List V → Hp → Prop) : Prop where
  run : ∀ pos pins s, Inv X pins σ H s → wpAny (model X.prog X.w) X.A (spliced (backTo pos (starEach es X.env))) (AP X pins σ Q) X.xe s
structure wI (tg it : Expr) (σ : St) (H : Hp) (R : It → Hp → Prop) : Prop where
  run : ∀ pins s, Inv X pins σ H s → wpAny (model X.prog X.w) X.A (eval it X.env) (fun v s1 => wpAny (model X.prog X.w) X.A (pyIter v) (PIE X pins σ tg R) X.xe s1) X.xe s
structure wS (st : Stmt) (D : Ends) (σ : St) (H : Hp) : Prop where
  run : ∀ pins s, Inv X pins σ H s → wpAny (model X.prog X.w) X.A (exec st X.env) (SP X pins D) X.xe s
structure wSs (st : List Stmt) (D : Ends) (σ : St) (H : Hp) : Prop where
  run : ∀ pins s, Inv X pins σ H s → wpAny (model X.prog X.w) X.A (execs st X.env) (SP X pins D) X.xe s
structure wW (e : Expr) (σ : St) (H : Hp) (Q : Bool → Hp → Prop) : Prop where
  run : ∀ whole pins s, Inv X pins σ H s → wpAny (model X.prog X.w) X.A (isTrue e X.env whole) (TP X pins σ Q) X.xe s
end
section
variable {q : Option Addr} {X : Cx}
theorem wE_ok {e : Expr} : PE X e (wE X e) := ⟨fun pins s _ _ _ I h => h.run pins s I⟩
theorem wT_ok {e : Expr} : PT X e (wT X e) := ⟨fun pins s _ _ _ I h => h.run pins s I⟩
theorem wA_ok {es : List Expr} : PA X es (wA X es) := ⟨fun pos pins s _ _ _ I h => h.run pos pins s I⟩
theorem wI_ok {tg it : Expr} : PI X tg it (wI X tg it) := ⟨fun pins s _ _ _ I h => h.run pins s I⟩
theorem wS_ok {st : Stmt} : PS X st (wS X st) := ⟨fun pins s _ _ _ I h => h.run pins s I⟩
theorem wSs_ok {st : List Stmt} : PSs X st (wSs X st) := ⟨fun pins s _ _ _ I h => h.run pins s I⟩
theorem wW_ok {e : Expr} : PW X e (wW X e) := ⟨fun wh pins s _ _ _ I h => h.run wh pins s I⟩
theorem wE_of {e : Expr} {t : TE} {σ : St} {H : Hp} {Q : VK} (p : PE X e t) (h : t σ H Q) : wE X e σ H Q := ⟨fun pins s I => p.run pins s σ H Q I h⟩
theorem wT_of {e : Expr} {t : TT} {σ : St} {H : Hp} {Q : Bool → Hp → Prop} (p : PT X e t) (h : t σ H Q) : wT X e σ H Q := ⟨fun pins s I => p.run pins s σ H Q I h⟩
theorem wA_of {es : List Expr} {t : TA} {σ : St} {H : Hp} {Q : List V → Hp → Prop} (p : PA X es t) (h : t σ H Q) : wA X es σ H Q := ⟨fun pos pins s I => p.run pos pins s σ H Q I h⟩
theorem wI_of {tg it : Expr} {t : TI} {σ : St} {H : Hp} {R : It → Hp → Prop} (p : PI X tg it t) (h : t σ H R) : wI X tg it σ H R := ⟨fun pins s I => p.run pins s σ H R I h⟩
theorem wS_of {st : Stmt} {t : TS} {D : Ends} {σ : St} {H : Hp} (p : PS X st t) (h : t D σ H) : wS X st D σ H := ⟨fun pins s I => p.run pins s σ H D I h⟩
theorem wSs_of {st : List Stmt} {t : TS} {D : Ends} {σ : St} {H : Hp} (p : PSs X st t) (h : t D σ H) : wSs X st D σ H := ⟨fun pins s I => p.run pins s σ H D I h⟩
theorem wW_of {e : Expr} {t : TT} {σ : St} {H : Hp} {Q : Bool → Hp → Prop} (p : PW X e t) (h : t σ H Q) : wW X e σ H Q := ⟨fun wh pins s I => p.run wh pins s σ H Q I h⟩
end

/-! ### what an expression gives -/
/-- e gives a v with T v of the still part -/
def XP (q : Option Addr) (X : Cx) (e : Expr) (σ : St) (F H : Hp) (T : V → Hp → Prop) : Prop := ∀ F1 H1, Grow q F H F1 H1 → ∀ Q : VK, (∀ v F2 H2, Grow q F1 H1 F2 H2 → T v F2 → Q v H2) → wE X e σ H1 Q
def XT (q : Option Addr) (X : Cx) (e : Expr) (σ : St) (F H : Hp) (b : Bool) : Prop := ∀ F1 H1, Grow q F H F1 H1 → ∀ Q : Bool → Hp → Prop, (∀ F2 H2, Grow q F1 H1 F2 H2 → Q b H2) → wT X e σ H1 Q
abbrev TyP := V → Hp → Prop
def AllT : List TyP → List V → Hp → Prop
  | [], [], _ => True
  | T :: Ts, v :: vs, F => T v F ∧ AllT Ts vs F
  | _, _, _ => False
def Mono (T : TyP) : Prop := ∀ v F F', Ex F F' → T v F → T v F'
def XA (q : Option Addr) (X : Cx) (es : List Expr) (σ : St) (F H : Hp) (Ts : List TyP) : Prop := ∀ F1 H1, Grow q F H F1 H1 → ∀ Q : List V → Hp → Prop, (∀ vs F2 H2, Grow q F1 H1 F2 H2 → AllT Ts vs F2 → Q vs H2) → wA X es σ H1 Q
/-- of data -/
abbrev dt (d : PyData) : TyP := fun v F => Ds F v d
abbrev XD (q : Option Addr) (X : Cx) (e : Expr) (σ : St) (F H : Hp) (d : PyData) : Prop := XP q X e σ F H (dt d)
/-- this very value -/
abbrev is (v0 : V) : TyP := fun v _ => v = v0
theorem mono_dt {d : PyData} : Mono (dt d) := fun _ _ _ e h => Ds.mono e h
theorem mono_is {v : V} : Mono (is v) := fun _ _ _ _ h => h

section
variable {q : Option Addr} {X : Cx} {σ : St} {F H F' H' : Hp} {e a b c : Expr} {es : List Expr} {T U : TyP} {d d1 d2 : PyData} {pos p : Pos} {k : Nat}
theorem XP.mono (h : XP q X e σ F H T) (g : Grow q F H F' H') : XP q X e σ F' H' T := fun F1 H1 g1 => h F1 H1 (g.trans g1)
theorem XT.mono {b : Bool} (h : XT q X e σ F H b) (g : Grow q F H F' H') : XT q X e σ F' H' b := fun F1 H1 g1 => h F1 H1 (g.trans g1)
theorem XP.imp (h : XP q X e σ F H T) (k : ∀ v F, T v F → U v F) : XP q X e σ F H U := fun F1 H1 g Q q => h F1 H1 g Q fun v F2 H2 g2 t => q v F2 H2 g2 (k v F2 t)
theorem XD.eq (h : XD q X e σ F H d) (e' : d = d1) : XD q X e σ F H d1 := e' ▸ h
theorem XT.eq {b b' : Bool} (h : XT q X e σ F H b) (e' : b = b') : XT q X e σ F H b' := e' ▸ h

theorem x_var {i : Nat} {x : Str} {v : V} (hN : X.N[i]? = some x) (hs : σ[i]? = some (some v)) (ht : T v F) (mo : Mono T) (hv : Vis X.env.scope x := by first | exact Or.inl rfl | exact Or.inr (Or.inl rfl) | exact Or.inr (Or.inr rfl))
    (hd : (x == ("__debug__" : Str)) = false := by decide) (hcd : (x == ("__classdict__" : Str)) = false := by decide) : XP q X (.Name x pos) σ F H T := fun F1 H1 g Q q =>
  wE_of (pe_var hN hv hd hcd) ⟨v, hs, q v F1 H1 g.end (mo _ _ _ g.f ht)⟩
theorem x_c {t : V} (h : PE X e (tC t)) (ht : ∀ F, T t F) : XP q X e σ F H T := fun F1 H1 g Q q => wE_of h (q t F1 H1 g.end (ht _))
theorem xd_int {i : Int} : XD q X (.Constant (.int i) k pos) σ F H (.int i) := x_c pe_int fun _ => .int i
theorem xd_bl {i : Bool} : XD q X (.Constant (.bool i) k pos) σ F H (.bool i) := x_c pe_bl fun _ => .bl i
theorem xd_non : XD q X (.Constant .none k pos) σ F H .none := x_c pe_non fun _ => .non
theorem xd_str {x : Str} : XD q X (.Constant (.str x) k pos) σ F H (.str x) := x_c pe_str fun _ => .str x

/-- two operands, then a rule on values -/
theorem x_op2 {r : R2} {TA' TB : TyP} (ma : Mono TA') (ha : XP q X a σ F H TA') (hb : XP q X b σ F H TB) (hr : ∀ x y F1 H1, Grow q F H F1 H1 → TA' x F1 → TB y F1 → ∀ Q : VK, (∀ v F2 H2, Grow q F1 H1 F2 H2 → T v F2 → Q v H2) → r x y H1 Q)
    (he : PE X e (tOp r (wE X a) (wE X b))) : XP q X e σ F H T := fun F1 H1 g Q q =>
  wE_of he (ha F1 H1 g _ fun x F2 H2 g2 hx => hb F2 H2 (g.trans g2) _ fun y F3 H3 g3 hy => hr x y F3 H3 ((g.trans g2).trans g3) (ma _ _ _ g3.f hx) hy Q fun v F4 H4 g4 ht => q v F4 H4 ((g2.trans g3).trans g4) ht)
theorem x_bin {op : Operator} {r : R2} {TA' TB : TyP} (ho : OpR X (binaryOp op) r) (ma : Mono TA') (ha : XP q X a σ F H TA') (hb : XP q X b σ F H TB)
    (hr : ∀ x y F1 H1, Grow q F H F1 H1 → TA' x F1 → TB y F1 → ∀ Q : VK, (∀ v F2 H2, Grow q F1 H1 F2 H2 → T v F2 → Q v H2) → r x y H1 Q) : XP q X (.BinOp a op b pos) σ F H T := x_op2 ma ha hb hr (pe_op ho wE_ok wE_ok)
theorem ds_int {F : Hp} {v : V} {i : Int} (h : Ds F v (.int i)) : v = .int i := by cases h; rfl
theorem ds_bl {F : Hp} {v : V} {i : Bool} (h : Ds F v (.bool i)) : v = .bl i := by cases h; rfl
theorem ds_str {F : Hp} {v : V} {i : Str} (h : Ds F v (.str i)) : v = .str i := by cases h; rfl
theorem ds_non {F : Hp} {v : V} (h : Ds F v .none) : v = .non := by cases h; rfl
theorem ds_lst {F : Hp} {v : V} {ds : List PyData} (h : Ds F v (.list ds)) : ∃ a xs, v = .ref a ∧ F a = some (.lst xs) ∧ DsAll F xs ds := by cases h with | lst a b => exact ⟨_, _, rfl, a, b⟩
theorem ds_tup {F : Hp} {v : V} {ds : List PyData} (h : Ds F v (.tuple ds)) : ∃ a xs, v = .ref a ∧ F a = some (.tup xs) ∧ DsAll F xs ds := by cases h with | tup a b => exact ⟨_, _, rfl, a, b⟩
/-- ints -/
theorem xd_I0 {op : Operator} {f : Int → Int → V} {i j : Int} (ho : OpR X (binaryOp op) (rI0 f)) (hf : ∀ F, Ds F (f i j) d) (ha : XD q X a σ F H (.int i)) (hb : XD q X b σ F H (.int j)) : XD q X (.BinOp a op b pos) σ F H d :=
  x_bin ho mono_dt ha hb fun x y F1 H1 g hx hy Q q => by rw [ds_int hx, ds_int hy]; exact ⟨i, j, rfl, rfl, q _ F1 H1 g.end (hf _)⟩
theorem xd_I {op : Operator} {C : Int → Int → Prop} {f : Int → Int → V} {i j : Int} (ho : OpR X (binaryOp op) (rI C f)) (hf : ∀ F, Ds F (f i j) d) (hc : C i j) (ha : XD q X a σ F H (.int i)) (hb : XD q X b σ F H (.int j)) : XD q X (.BinOp a op b pos) σ F H d :=
  x_bin ho mono_dt ha hb fun x y F1 H1 g hx hy Q q => by rw [ds_int hx, ds_int hy]; exact ⟨i, j, rfl, rfl, hc, q _ F1 H1 g.end (hf _)⟩
theorem xd_add {i j : Int} (ha : XD q X a σ F H (.int i)) (hb : XD q X b σ F H (.int j)) : XD q X (.BinOp a .Add b pos) σ F H (.int (i + j)) := xd_I0 op_add (fun _ => .int _) ha hb
theorem xd_sub {i j : Int} (ha : XD q X a σ F H (.int i)) (hb : XD q X b σ F H (.int j)) : XD q X (.BinOp a .Sub b pos) σ F H (.int (i - j)) := xd_I0 op_sub (fun _ => .int _) ha hb
theorem xd_mul {i j : Int} (hc : CMul i j) (ha : XD q X a σ F H (.int i)) (hb : XD q X b σ F H (.int j)) : XD q X (.BinOp a .Mult b pos) σ F H (.int (i * j)) := xd_I op_mul (fun _ => .int _) hc ha hb
/-- a comparison of two operands -/
def XCm (q : Option Addr) (X : Cx) (op : CmpOp) (a b : Expr) (σ : St) (F H : Hp) (u : Bool) : Prop := ∃ (r : R2) (TA' TB : TyP), OpR X (compareOp op) r ∧ behindInMarks op b = false ∧ Mono TA' ∧ XP q X a σ F H TA' ∧ XP q X b σ F H TB ∧
  ∀ x y F1 H1, Grow q F H F1 H1 → TA' x F1 → TB y F1 → ∀ Q : VK, (∀ F2 H2, Grow q F1 H1 F2 H2 → Q (.bl u) H2) → r x y H1 Q
theorem x_cmp {op : CmpOp} {r : R2} {TA' TB : TyP} {u : Bool} (ho : OpR X (compareOp op) r) (ma : Mono TA') (ha : XP q X a σ F H TA') (hb : XP q X b σ F H TB)
    (hr : ∀ x y F1 H1, Grow q F H F1 H1 → TA' x F1 → TB y F1 → ∀ Q : VK, (∀ F2 H2, Grow q F1 H1 F2 H2 → Q (.bl u) H2) → r x y H1 Q) (hm : behindInMarks op b = false) : XCm q X op a b σ F H u := ⟨r, TA', TB, ho, hm, ma, ha, hb, hr⟩
theorem xd_cmp {op : CmpOp} {u : Bool} (h : XCm q X op a b σ F H u) : XD q X (.Compare a [op] [b] pos) σ F H (.bool u) := by
  obtain ⟨r, TA', TB, ho, hm, ma, ha, hb, hr⟩ := h
  exact x_op2 ma ha hb (fun x y F1 H1 g hx hy Q q => hr x y F1 H1 g hx hy Q fun F2 H2 g2 => q _ F2 H2 g2 (.bl u)) (pe_cmpR ho wE_ok wE_ok hm)
theorem xt_cmp {op : CmpOp} {u : Bool} (h : XCm q X op a b σ F H u) : XT q X (.Compare a [op] [b] pos) σ F H u := fun F1 H1 g Q q => by
  obtain ⟨r, TA', TB, ho, hm, ma, ha, hb, hr⟩ := h
  refine wT_of (pt_cmpR ho wE_ok wE_ok hm) (ha F1 H1 g _ fun x F2 H2 g2 hx => hb F2 H2 (g.trans g2) _ fun y F3 H3 g3 hy => hr x y F3 H3 ((g.trans g2).trans g3) (ma _ _ _ g3.f hx) hy _ fun F4 H4 g4 => ⟨u, rfl, q F4 H4 ((g2.trans g3).trans g4)⟩)
theorem XCm.eq {op : CmpOp} {u v : Bool} (h : XCm q X op a b σ F H u) (e : u = v) : XCm q X op a b σ F H v := e ▸ h
theorem c_I {op : CmpOp} {f : Int → Int → Bool} {i j : Int} (ho : OpR X (compareOp op) (rI0 fun i j => .bl (f i j))) (ha : XD q X a σ F H (.int i)) (hb : XD q X b σ F H (.int j)) (hm : behindInMarks op b = false := by rfl) : XCm q X op a b σ F H (f i j) :=
  x_cmp ho mono_dt ha hb (fun x y F1 H1 g hx hy Q q => by rw [ds_int hx, ds_int hy]; exact ⟨i, j, rfl, rfl, q F1 H1 g.end⟩) hm
theorem c_lt {i j : Int} (ha : XD q X a σ F H (.int i)) (hb : XD q X b σ F H (.int j)) (hm : behindInMarks .Lt b = false := by exact nomark _) : XCm q X .Lt a b σ F H (decide (i < j)) := c_I op_lt ha hb hm
theorem c_gt {i j : Int} (ha : XD q X a σ F H (.int i)) (hb : XD q X b σ F H (.int j)) (hm : behindInMarks .Gt b = false := by exact nomark _) : XCm q X .Gt a b σ F H (decide (j < i)) := c_I (f := fun i j => decide (j < i)) op_gt ha hb hm
theorem c_ge {i j : Int} (ha : XD q X a σ F H (.int i)) (hb : XD q X b σ F H (.int j)) (hm : behindInMarks .GtE b = false := by exact nomark _) : XCm q X .GtE a b σ F H (decide (j ≤ i)) := c_I (f := fun i j => decide (j ≤ i)) op_ge ha hb hm
theorem c_le {i j : Int} (ha : XD q X a σ F H (.int i)) (hb : XD q X b σ F H (.int j)) (hm : behindInMarks .LtE b = false := by exact nomark _) : XCm q X .LtE a b σ F H (decide (i ≤ j)) := c_I op_le ha hb hm
end
end R
end
section
set_option Elab.async false
set_option linter.all false
set_option maxRecDepth 100000
set_option maxHeartbeats 4000000
namespace R
open PySem L2 Evl

/-- the built-ins' names that the module doesn't bind -/
structure Bn (mg : Str → Option Value) : Prop where
  len : mg "len" = none
  list : mg "list" = none
  tuple : mg "tuple" = none
  dict : mg "dict" = none
  set : mg "set" = none
  all : mg "all" = none
  any : mg "any" = none
  sum : mg "sum" = none
  abs : mg "abs" = none
  range : mg "range" = none
  enumerate : mg "enumerate" = none
  isinstance : mg "isinstance" = none
  int : mg "int" = none
  str : mg "str" = none
  bool : mg "bool" = none

section
variable {q : Option Addr} {X : Cx} {σ : St} {F H F' H' : Hp} {e a b c : Expr} {es rest : List Expr} {T U : TyP} {d d1 d2 : PyData} {pos p : Pos} {k : Nat} {x : Str}

/-! ### comparisons -/
theorem c_eq (hu : X.A.units + 64 < cLine) (ha : XD q X a σ F H d1) (hb : XD q X b σ F H d2) (s1 : SeqAt.shaped d1 = true) (s2 : SeqAt.shaped d2 = true) (hm : behindInMarks .Eq b = false := by exact nomark _) : XCm q X .Eq a b σ F H (PyData.eqv d1 d2) :=
  x_cmp (op_eqD hu) mono_dt ha hb (fun x y F1 H1 g hx hy Q q => ⟨d1, d2, (hx.mono g.s).dp, (hy.mono g.s).dp, s1, s2, q F1 H1 g.end⟩) hm
theorem c_ne (hu : X.A.units + 64 < cLine) (ha : XD q X a σ F H d1) (hb : XD q X b σ F H d2) (s1 : SeqAt.shaped d1 = true) (s2 : SeqAt.shaped d2 = true) (hm : behindInMarks .NotEq b = false := by exact nomark _) : XCm q X .NotEq a b σ F H (!PyData.eqv d1 d2) :=
  x_cmp (op_neD hu) mono_dt ha hb (fun x y F1 H1 g hx hy Q q => ⟨d1, d2, (hx.mono g.s).dp, (hy.mono g.s).dp, s1, s2, q F1 H1 g.end⟩) hm
/-- texts, ints, bools by themselves -/
theorem eqv_str (s t : Str) : PyData.eqv (.str s) (.str t) = (s == t) := by simp [PyData.eqv]
theorem shaped_str {s : Str} (h : PyData.strOk s = true) : SeqAt.shaped (.str s) = true := by simp [SeqAt.shaped, PyData.canLay0, PyData.depth, h]
theorem shaped_int (s : Int) : SeqAt.shaped (.int s) = true := by simp [SeqAt.shaped, PyData.canLay0, PyData.depth]
def isNoneD : PyData → Bool
  | .none => true
  | _ => false
theorem isNoneD_ok {F : Hp} {v : V} {d : PyData} (h : Ds F v d) : decide (v = .non) = isNoneD d := by cases h <;> rfl
theorem c_isN {k' : Nat} {p' : Pos} (ha : XD q X a σ F H d) : XCm q X .Is a (.Constant .none k' p') σ F H (isNoneD d) :=
  x_cmp op_isN mono_dt ha (xd_non (σ := σ) (F := F) (H := H)) (fun x y F1 H1 g hx hy Q q => by rw [ds_non hy, isNoneD_ok hx]; exact ⟨rfl, q F1 H1 g.end⟩) (nomark _)
theorem c_notN {k' : Nat} {p' : Pos} (ha : XD q X a σ F H d) : XCm q X .IsNot a (.Constant .none k' p') σ F H (!isNoneD d) :=
  x_cmp op_notN mono_dt ha (xd_non (σ := σ) (F := F) (H := H)) (fun x y F1 H1 g hx hy Q q => by rw [ds_non hy, isNoneD_ok hx]; exact ⟨rfl, q F1 H1 g.end⟩) (nomark _)
theorem flat_strs : ∀ ss : List Str, (ss.map V.str).all flatV = true
  | [] => rfl
  | s :: ss => by rw [List.map_cons, List.all_cons, flat_strs ss]; rfl
theorem inV_strs (s : Str) : ∀ ss : List Str, inV (.str s) (ss.map .str) = decide (s ∈ ss)
  | [] => by simp [inV]
  | t :: ss => by
    have h := inV_strs s ss
    unfold inV at h ⊢
    rw [List.map_cons, List.any_cons, h]
    show ((t == s) || decide (s ∈ ss)) = decide (s ∈ t :: ss)
    by_cases e : s = t
    · subst e; simp
    · have e' : (t == s) = false := by simpa using fun z => e z.symm
      rw [e', Bool.false_or]
      simp [e]
/-- a text in a list | a tuple of texts -/
theorem c_inLS {s : Str} {ss : List Str} (ha : XD q X a σ F H (.str s)) (hb : XD q X b σ F H (.list (ss.map .str))) (hm : behindInMarks .In b = false := by rfl) : XCm q X .In a b σ F H (decide (s ∈ ss)) :=
  x_cmp op_in_seq mono_dt ha hb (fun x y F1 H1 g hx hy Q q => by
    obtain ⟨p, xs, rfl, h1, h2⟩ := ds_lst hy
    rw [ds_str hx]
    rw [DsAll.strs h2] at h1
    refine ⟨p, _, rfl, .inl (SqL.of (g.s _ _ h1)), rfl, flat_strs ss, ?_⟩
    rw [inV_strs]
    exact q F1 H1 g.end) hm
theorem c_inTS {s : Str} {ss : List Str} (ha : XD q X a σ F H (.str s)) (hb : XD q X b σ F H (.tuple (ss.map .str))) (hm : behindInMarks .In b = false := by rfl) : XCm q X .In a b σ F H (decide (s ∈ ss)) :=
  x_cmp op_in_seq mono_dt ha hb (fun x y F1 H1 g hx hy Q q => by
    obtain ⟨p, xs, rfl, h1, h2⟩ := ds_tup hy
    rw [ds_str hx]
    rw [DsAll.strs h2] at h1
    refine ⟨p, _, rfl, .inr (SqT.of (g.s _ _ h1)), rfl, flat_strs ss, ?_⟩
    rw [inV_strs]
    exact q F1 H1 g.end) hm
theorem c_niLS {s : Str} {ss : List Str} (ha : XD q X a σ F H (.str s)) (hb : XD q X b σ F H (.list (ss.map .str))) (hm : behindInMarks .NotIn b = false := by rfl) : XCm q X .NotIn a b σ F H (!decide (s ∈ ss)) :=
  x_cmp op_notIn_seq mono_dt ha hb (fun x y F1 H1 g hx hy Q q => by
    obtain ⟨p, xs, rfl, h1, h2⟩ := ds_lst hy
    rw [ds_str hx]
    rw [DsAll.strs h2] at h1
    refine ⟨p, _, rfl, .inl (SqL.of (g.s _ _ h1)), rfl, flat_strs ss, ?_⟩
    rw [inV_strs]
    exact q F1 H1 g.end) hm
theorem c_niTS {s : Str} {ss : List Str} (ha : XD q X a σ F H (.str s)) (hb : XD q X b σ F H (.tuple (ss.map .str))) (hm : behindInMarks .NotIn b = false := by rfl) : XCm q X .NotIn a b σ F H (!decide (s ∈ ss)) :=
  x_cmp op_notIn_seq mono_dt ha hb (fun x y F1 H1 g hx hy Q q => by
    obtain ⟨p, xs, rfl, h1, h2⟩ := ds_tup hy
    rw [ds_str hx]
    rw [DsAll.strs h2] at h1
    refine ⟨p, _, rfl, .inr (SqT.of (g.s _ _ h1)), rfl, flat_strs ss, ?_⟩
    rw [inV_strs]
    exact q F1 H1 g.end) hm
/-- data in a list of data -/
theorem c_inD {ds : List PyData} (hu : X.A.units + 65 < cLine) (ha : XD q X a σ F H d) (hb : XD q X b σ F H (.list ds)) (s1 : SeqAt.shaped d = true) (s2 : SeqAt.shaped (.list ds) = true) (hm : behindInMarks .In b = false := by rfl) :
    XCm q X .In a b σ F H (ds.any fun z => PyData.eqv z d) :=
  x_cmp (op_inD hu) mono_dt ha hb (fun x y F1 H1 g hx hy Q q => ⟨d, ds, (hx.mono g.s).dp, (hy.mono g.s).dp, s1, s2, q F1 H1 g.end⟩) hm
theorem c_niD {ds : List PyData} (hu : X.A.units + 65 < cLine) (ha : XD q X a σ F H d) (hb : XD q X b σ F H (.list ds)) (s1 : SeqAt.shaped d = true) (s2 : SeqAt.shaped (.list ds) = true) (hm : behindInMarks .NotIn b = false := by rfl) :
    XCm q X .NotIn a b σ F H (!ds.any fun z => PyData.eqv z d) :=
  x_cmp (op_notInD hu) mono_dt ha hb (fun x y F1 H1 g hx hy Q q => ⟨d, ds, (hx.mono g.s).dp, (hy.mono g.s).dp, s1, s2, q F1 H1 g.end⟩) hm
/-- a sign in a text -/
theorem c_inS {ch : Nat} {z : Str} (ha : XD q X a σ F H (.str ⟨#[ch]⟩)) (hb : XD q X b σ F H (.str z)) (hm : behindInMarks .In b = false := by rfl) : XCm q X .In a b σ F H (decide (ch ∈ z.cps.toList)) :=
  x_cmp op_in_sign mono_dt ha hb (fun x y F1 H1 g hx hy Q q => ⟨ch, z, ds_str hx, ds_str hy, q F1 H1 g.end⟩) hm

/-! ### and, or, not -/
theorem xd_one {op : BoolOp} (h : XP q X a σ F H T) : XP q X (.BoolOp op [a] pos) σ F H T := fun F1 H1 g Q q => wE_of (pe_one wE_ok) (h F1 H1 g Q q)
theorem xd_and {u v : Bool} (ha : XD q X a σ F H (.bool u)) (hb : u = true → XD q X (.BoolOp .And (b :: rest) pos) σ F H (.bool v)) : XD q X (.BoolOp .And (a :: b :: rest) pos) σ F H (.bool (u && v)) := fun F1 H1 g Q q =>
  wE_of (pe_and wE_ok wE_ok) (ha F1 H1 g _ fun x F2 H2 g2 hx => by
    rw [ds_bl hx]
    refine ⟨u, rfl, ?_⟩
    cases u with
    | true => exact hb rfl F2 H2 (g.trans g2) Q fun y F3 H3 g3 hy => q y F3 H3 (g2.trans g3) hy
    | false => exact q _ F2 H2 g2 (.bl _))
theorem xd_or {u v : Bool} (ha : XD q X a σ F H (.bool u)) (hb : u = false → XD q X (.BoolOp .Or (b :: rest) pos) σ F H (.bool v)) : XD q X (.BoolOp .Or (a :: b :: rest) pos) σ F H (.bool (u || v)) := fun F1 H1 g Q q =>
  wE_of (pe_or wE_ok wE_ok) (ha F1 H1 g _ fun x F2 H2 g2 hx => by
    rw [ds_bl hx]
    refine ⟨u, rfl, ?_⟩
    cases u with
    | false => exact hb rfl F2 H2 (g.trans g2) Q fun y F3 H3 g3 hy => q y F3 H3 (g2.trans g3) hy
    | true => exact q _ F2 H2 g2 (.bl _))
theorem xd_not {u : Bool} (ha : XD q X a σ F H (.bool u)) : XD q X (.UnaryOp .Not a pos) σ F H (.bool (!u)) := fun F1 H1 g Q q =>
  wE_of (pe_not wE_ok) (ha F1 H1 g _ fun x F2 H2 g2 hx => ⟨u, ds_bl hx, q _ F2 H2 g2 (.bl _)⟩)

/-! ### tests -/
def XW (q : Option Addr) (X : Cx) (e : Expr) (σ : St) (F H : Hp) (b : Bool) : Prop := ∀ F1 H1, Grow q F H F1 H1 → ∀ Q : Bool → Hp → Prop, (∀ F2 H2, Grow q F1 H1 F2 H2 → Q b H2) → wW X e σ H1 Q
theorem XW.xt {u : Bool} (h : XW q X e σ F H u) : XT q X e σ F H u := fun F1 H1 g Q k => ⟨fun pins s I => (h F1 H1 g Q k).run _ pins s I⟩
theorem xt_val {u : Bool} (h : XD q X e σ F H (.bool u)) (he : ∀ whole, isTrue e X.env whole = (do let v ← whole; standAt e.pos; holding [v] (truthy v)) := by intro _; rfl) : XT q X e σ F H u := fun F1 H1 g Q q =>
  wT_of (pt_val wE_ok he) (h F1 H1 g _ fun x F2 H2 g2 hx => ⟨u, ds_bl hx, q F2 H2 g2⟩)
theorem xt_not {u : Bool} (ha : XT q X a σ F H u) : XT q X (.UnaryOp .Not a pos) σ F H (!u) := fun F1 H1 g Q q => wT_of (pt_not wT_ok) (ha F1 H1 g _ fun F2 H2 g2 => q F2 H2 g2)
theorem xw_and1 {u : Bool} (ha : XT q X a σ F H u) : XW q X (.BoolOp .And [a] pos) σ F H u := fun F1 H1 g Q q => wW_of (pw_and1 wT_ok) (ha F1 H1 g Q q)
theorem xw_or1 {u : Bool} (ha : XT q X a σ F H u) : XW q X (.BoolOp .Or [a] pos) σ F H u := fun F1 H1 g Q q => wW_of (pw_or1 wT_ok) (ha F1 H1 g Q q)
theorem xw_and {u v : Bool} (ha : XT q X a σ F H u) (hb : u = true → XW q X (.BoolOp .And (b :: rest) pos) σ F H v) : XW q X (.BoolOp .And (a :: b :: rest) pos) σ F H (u && v) := fun F1 H1 g Q q =>
  wW_of (pw_and wT_ok wW_ok) (ha F1 H1 g _ fun F2 H2 g2 => by
    cases u with
    | true => exact hb rfl F2 H2 (g.trans g2) Q fun F3 H3 g3 => q F3 H3 (g2.trans g3)
    | false => exact q F2 H2 g2)
theorem xw_or {u v : Bool} (ha : XT q X a σ F H u) (hb : u = false → XW q X (.BoolOp .Or (b :: rest) pos) σ F H v) : XW q X (.BoolOp .Or (a :: b :: rest) pos) σ F H (u || v) := fun F1 H1 g Q q =>
  wW_of (pw_or wT_ok wW_ok) (ha F1 H1 g _ fun F2 H2 g2 => by
    cases u with
    | false => exact hb rfl F2 H2 (g.trans g2) Q fun F3 H3 g3 => q F3 H3 (g2.trans g3)
    | true => exact q F2 H2 g2)
/-- a list's truth -/
theorem xt_lst {ds : List PyData} (h : XD q X e σ F H (.list ds)) (he : ∀ whole, isTrue e X.env whole = (do let v ← whole; standAt e.pos; holding [v] (truthy v)) := by intro _; rfl) : XT q X e σ F H (!ds.isEmpty) := fun F1 H1 g Q q =>
  wT_of (pt_truth wE_ok he) (h F1 H1 g _ fun x F2 H2 g2 hx => by
    obtain ⟨a, xs, rfl, h1, h2⟩ := ds_lst hx
    refine ⟨!ds.isEmpty, .inl ⟨xs, SqL.of (g2.s _ _ h1), ?_⟩, q F2 H2 g2⟩
    have := h2.length
    cases xs <;> cases ds <;> first | rfl | simp at this)
theorem xt_tup {ds : List PyData} (h : XD q X e σ F H (.tuple ds)) (he : ∀ whole, isTrue e X.env whole = (do let v ← whole; standAt e.pos; holding [v] (truthy v)) := by intro _; rfl) : XT q X e σ F H (!ds.isEmpty) := fun F1 H1 g Q q =>
  wT_of (pt_truth wE_ok he) (h F1 H1 g _ fun x F2 H2 g2 hx => by
    obtain ⟨a, xs, rfl, h1, h2⟩ := ds_tup hx
    refine ⟨!ds.isEmpty, .inr (.inl ⟨xs, SqT.of (g2.s _ _ h1), ?_⟩), q F2 H2 g2⟩
    have := h2.length
    cases xs <;> cases ds <;> first | rfl | simp at this)
theorem x_ifexp {u : Bool} (hc : XT q X c σ F H u) (h1 : u = true → XP q X a σ F H T) (h2 : u = false → XP q X b σ F H T) : XP q X (.IfExp c a b pos) σ F H T := fun F1 H1 g Q q =>
  wE_of (pe_ifExp wT_ok wE_ok wE_ok) (hc F1 H1 g _ fun F2 H2 g2 => by
    cases u with
    | true => exact h1 rfl F2 H2 (g.trans g2) Q fun y F3 H3 g3 hy => q y F3 H3 (g2.trans g3) hy
    | false => exact h2 rfl F2 H2 (g.trans g2) Q fun y F3 H3 g3 hy => q y F3 H3 (g2.trans g3) hy)
theorem xd_ifexp {u : Bool} (hc : XT q X c σ F H u) (h1 : u = true → XD q X a σ F H d1) (h2 : u = false → XD q X b σ F H d2) : XD q X (.IfExp c a b pos) σ F H (if u = true then d1 else d2) := by
  refine x_ifexp hc (fun h => ?_) (fun h => ?_)
  · rw [if_pos h]; exact h1 h
  · rw [if_neg (by rw [h]; decide)]; exact h2 h

/-! ### arguments, displays -/
theorem xa_nil : XA q X [] σ F H [] := fun F1 H1 g Q q => wA_of pa_nil (q [] F1 H1 g.end trivial)
theorem xa_cons {Ts : List TyP} (mo : Mono T) (h : XP q X e σ F H T) (hr : XA q X es σ F H Ts) (hs : starEach (e :: es) X.env = (false, eval e X.env) :: starEach es X.env := by rfl) : XA q X (e :: es) σ F H (T :: Ts) := fun F1 H1 g Q q =>
  wA_of (pa_cons wE_ok wA_ok hs) (h F1 H1 g _ fun v F2 H2 g2 hv => hr F2 H2 (g.trans g2) _ fun vs F3 H3 g3 hvs => q (v :: vs) F3 H3 (g2.trans g3) ⟨mo _ _ _ g3.f hv, hvs⟩)
theorem AllT.ds {F : Hp} : ∀ {ds : List PyData} {vs : List V}, AllT (ds.map dt) vs F → DsAll F vs ds
  | [], [], _ => .nil
  | d :: ds, v :: vs, h => .cons h.1 (AllT.ds h.2)
  | [], _ :: _, h => h.elim
  | _ :: _, [], h => h.elim
theorem DsAll.le {vs : List V} {ds : List PyData} (h : DsAll F vs ds) {n : Nat} (hn : ds.length ≤ n) : vs.length ≤ n := by rw [h.length]; exact hn
theorem xd_tup {ds : List PyData} (h : XA q X es σ F H (ds.map dt)) (hl : ds.length ≤ 100000 := by simp) : XD q X (.Tuple es k pos) σ F H (.tuple ds) := fun F1 H1 g Q q =>
  wE_of (pe_tup wA_ok) (h F1 H1 g _ fun vs F2 H2 g2 hv => ⟨sz_of (hv.ds.le hl), fun p hp => q (.ref p) _ _ (g2.trans (g2.new hp)) (.tup upd_same (hv.ds.mono (g2.new (o := .tup vs) hp).f))⟩)

/-! ### new lists -/
/-- e gives a new list -/
def XM (q : Option Addr) (X : Cx) (e : Expr) (σ : St) (F H : Hp) (ds : List PyData) : Prop := ∀ F1 H1, Grow q F H F1 H1 → ∀ Q : VK, (∀ p vs F2 H2, Grow q F1 H1 F2 H2 → H1 p = none → F2 p = none → H2 p = some (.lst vs) → DsAll F2 vs ds → Q (.ref p) H2) → wE X e σ H1 Q
theorem XM.eq {ds es' : List PyData} (h : XM q X e σ F H ds) (e' : ds = es') : XM q X e σ F H es' := e' ▸ h
theorem XM.xd {ds : List PyData} (h : XM q X e σ F H ds) : XD q X e σ F H (.list ds) := fun F1 H1 g Q q =>
  h F1 H1 g Q fun p vs F2 H2 g2 h1 hf h2 hd => q (.ref p) (upd F2 p (.lst vs)) H2 (frz g2 h1 hf h2) (.lst upd_same (hd.mono (Ex.new hf)))
theorem xm_lst {ds : List PyData} (h : XA q X es σ F H (ds.map dt)) (hl : ds.length ≤ 100000 := by simp) : XM q X (.List es pos) σ F H ds := fun F1 H1 g Q q =>
  wE_of (pe_lst wA_ok) (h F1 H1 g _ fun vs F2 H2 g2 hv => ⟨sz_of (hv.ds.le hl), fun p hp => q p vs F2 _ (g2.trans (g2.mut hp)) (g2.fresh hp) (fresh_back g2.s hp) upd_same hv.ds⟩)
theorem xm_cat {ds es' : List PyData} (ha : XD q X a σ F H (.list ds)) (hb : XD q X b σ F H (.list es')) (hl : ds.length + es'.length ≤ 100000) : XM q X (.BinOp a .Add b pos) σ F H (ds ++ es') := fun F1 H1 g Q q =>
  wE_of (pe_op op_cat wE_ok wE_ok) (ha F1 H1 g _ fun x F2 H2 g2 hx => hb F2 H2 (g.trans g2) _ fun y F3 H3 g3 hy => by
    obtain ⟨p, xs, rfl, h1, h2⟩ := ds_lst (hx.mono g3.f)
    obtain ⟨p', ys, rfl, h3, h4⟩ := ds_lst hy
    refine ⟨p, p', xs, ys, rfl, rfl, g3.s _ _ h1, g3.s _ _ h3, sz_of (by rw [h2.length, h4.length]; exact hl), fun l hl' => ?_⟩
    exact q l _ F3 _ ((g2.trans g3).trans (g3.mut hl')) ((g2.trans g3).fresh hl') (fresh_back g3.s hl') upd_same (h2.append h4))

/-! ### items, slices -/
theorem atI_ds {vs : List V} {ds : List PyData} {i : Int} (h : DsAll F vs ds) (e : atI ds i = some d) : ∃ v, atI vs i = some v ∧ Ds F v d := by
  unfold atI at e ⊢
  rw [h.length]
  cases q : ixN ds.length i with
  | none => rw [q] at e; cases e
  | some j =>
    rw [q] at e
    exact h.get' e
theorem xd_ixL {ds : List PyData} {i : Int} (ha : XD q X a σ F H (.list ds)) (hb : XD q X b σ F H (.int i)) (hi : atI ds i = some d) (hs : PlainIx b := by exact fun _ _ => rfl) : XD q X (.Subscript a b pos) σ F H d := fun F1 H1 g Q q =>
  wE_of (pe_ix ix_list wE_ok wE_ok hs) (ha F1 H1 g _ fun x F2 H2 g2 hx => hb F2 H2 (g.trans g2) _ fun y F3 H3 g3 hy => by
    obtain ⟨p, xs, rfl, h1, h2⟩ := ds_lst (hx.mono g3.f)
    obtain ⟨v, hv, hd⟩ := atI_ds h2 hi
    exact ⟨p, xs, i, v, rfl, ds_int hy, SqL.of (g3.s _ _ h1), hv, q v F3 H3 (g2.trans g3) hd⟩)
theorem xd_ixT {ds : List PyData} {i : Int} (ha : XD q X a σ F H (.tuple ds)) (hb : XD q X b σ F H (.int i)) (hi : atI ds i = some d) (hs : PlainIx b := by exact fun _ _ => rfl) : XD q X (.Subscript a b pos) σ F H d := fun F1 H1 g Q q =>
  wE_of (pe_ix ix_tup wE_ok wE_ok hs) (ha F1 H1 g _ fun x F2 H2 g2 hx => hb F2 H2 (g.trans g2) _ fun y F3 H3 g3 hy => by
    obtain ⟨p, xs, rfl, h1, h2⟩ := ds_tup (hx.mono g3.f)
    obtain ⟨v, hv, hd⟩ := atI_ds h2 hi
    exact ⟨p, xs, i, v, rfl, ds_int hy, SqT.of (g3.s _ _ h1), hv, q v F3 H3 (g2.trans g3) hd⟩)
/-! ### built-ins -/
theorem x_callB {id : String} {r : List V → Hp → VK → Prop} {Ts : List TyP} (hc : CallR X (.builtin id) r) (hm : X.mg x = none) (hv : bootBuiltins x = some (.builtin id)) (ha : XA q X (e :: es) σ F H Ts)
    (hr : ∀ vs F1 H1, Grow q F H F1 H1 → AllT Ts vs F1 → ∀ Q : VK, (∀ v F2 H2, Grow q F1 H1 F2 H2 → T v F2 → Q v H2) → r vs H1 Q) (hg : Gl X x := by rfl) (hn : x ≠ "__name__" := by decide) (hdb : (x == ("__debug__" : Str)) = false := by decide)
    (he : starEach (e :: es) X.env = (false, eval e X.env) :: starEach es X.env := by rfl) (hpl : (backTo pos (starEach es X.env)).any (·.1) = false := by rfl) : XP q X (.Call (.Name x p) (e :: es) [] pos) σ F H T := fun F1 H1 g Q q =>
  wE_of (pe_callB hc hg hm hv wA_ok hn hdb he hpl) (ha F1 H1 g _ fun vs F2 H2 g2 hvs => hr vs F2 H2 (g.trans g2) hvs Q fun v F3 H3 g3 hv => q v F3 H3 (g2.trans g3) hv)
theorem x_callTy {id : String} {r : List V → Hp → VK → Prop} {Ts : List TyP} (hc : CallR X (.type id) r) (hm : X.mg x = none) (hv : bootBuiltins x = some (.type id)) (ha : XA q X (e :: es) σ F H Ts)
    (hr : ∀ vs F1 H1, Grow q F H F1 H1 → AllT Ts vs F1 → ∀ Q : VK, (∀ v F2 H2, Grow q F1 H1 F2 H2 → T v F2 → Q v H2) → r vs H1 Q) (hg : Gl X x := by rfl) (hn : x ≠ "__name__" := by decide) (hdb : (x == ("__debug__" : Str)) = false := by decide)
    (he : starEach (e :: es) X.env = (false, eval e X.env) :: starEach es X.env := by rfl) (hpl : (backTo pos (starEach es X.env)).any (·.1) = false := by rfl) : XP q X (.Call (.Name x p) (e :: es) [] pos) σ F H T := fun F1 H1 g Q q =>
  wE_of (pe_callTy hc hg hm hv wA_ok hn hdb he hpl) (ha F1 H1 g _ fun vs F2 H2 g2 hvs => hr vs F2 H2 (g.trans g2) hvs Q fun v F3 H3 g3 hv => q v F3 H3 (g2.trans g3) hv)
theorem AllT.one {F : Hp} {vs : List V} (h : AllT [T] vs F) : ∃ v, vs = [v] ∧ T v F := by
  match vs, h with
  | [v], h => exact ⟨v, rfl, h.1⟩
theorem AllT.two {F : Hp} {vs : List V} (h : AllT [T, U] vs F) : ∃ v w, vs = [v, w] ∧ T v F ∧ U w F := by
  match vs, h with
  | [v, w], h => exact ⟨v, w, rfl, h.1, h.2.1⟩
theorem AllT.three {U2 : TyP} {F : Hp} {vs : List V} (h : AllT [T, U, U2] vs F) : ∃ v w x, vs = [v, w, x] ∧ T v F ∧ U w F ∧ U2 x F := by
  match vs, h with
  | v :: vs, h =>
    obtain ⟨w, x, rfl, h2⟩ := AllT.two h.2
    exact ⟨v, w, x, rfl, h.1, h2⟩
theorem AllT.four {U2 U3 : TyP} {F : Hp} {vs : List V} (h : AllT [T, U, U2, U3] vs F) : ∃ v w x y, vs = [v, w, x, y] ∧ T v F ∧ U w F ∧ U2 x F ∧ U3 y F := by
  match vs, h with
  | v :: vs, h =>
    obtain ⟨w, x, y, rfl, h2⟩ := AllT.three h.2
    exact ⟨v, w, x, y, rfl, h.1, h2⟩
theorem DsAll.one {F : Hp} {vs : List V} (h : DsAll F vs [d]) : ∃ x, vs = [x] ∧ Ds F x d := by
  cases h with
  | cons h t => cases t; exact ⟨_, rfl, h⟩
theorem DsAll.two {F : Hp} {vs : List V} (h : DsAll F vs [d, d1]) : ∃ x y, vs = [x, y] ∧ Ds F x d ∧ Ds F y d1 := by
  cases h with
  | cons h t => obtain ⟨y, rfl, h2⟩ := t.one; exact ⟨_, y, rfl, h, h2⟩
theorem DsAll.four {F : Hp} {vs : List V} {d3 : PyData} (h : DsAll F vs [d, d1, d2, d3]) : ∃ x y z u, vs = [x, y, z, u] ∧ Ds F x d ∧ Ds F y d1 ∧ Ds F z d2 ∧ Ds F u d3 := by
  cases h with
  | cons h t => cases t with
    | cons h1 t => obtain ⟨y, z, rfl, h2, h3⟩ := t.two; exact ⟨_, _, y, z, rfl, h, h1, h2, h3⟩
section
variable (B : Bn X.mg)
theorem xd_lenL {ds : List PyData} (B : Bn X.mg) (ha : XD q X a σ F H (.list ds)) (hg : Gl X "len" := by rfl) (he : starEach [a] X.env = [(false, eval a X.env)] := by rfl) : XD q X (.Call (.Name "len" p) [a] [] pos) σ F H (.int ds.length) :=
  x_callB call_len_seq B.len boot_len (xa_cons mono_dt ha xa_nil he) (fun vs F1 H1 g h Q q => by
    obtain ⟨v, rfl, hv⟩ := h.one
    obtain ⟨a, xs, rfl, h1, h2⟩ := ds_lst hv
    refine ⟨a, xs, rfl, .inl (SqL.of (g.s _ _ h1)), ?_⟩
    rw [h2.length]
    exact q _ F1 H1 g.end (.int _)) hg (he := he)
theorem xd_lenT {ds : List PyData} (B : Bn X.mg) (ha : XD q X a σ F H (.tuple ds)) (hg : Gl X "len" := by rfl) (he : starEach [a] X.env = [(false, eval a X.env)] := by rfl) : XD q X (.Call (.Name "len" p) [a] [] pos) σ F H (.int ds.length) :=
  x_callB call_len_seq B.len boot_len (xa_cons mono_dt ha xa_nil he) (fun vs F1 H1 g h Q q => by
    obtain ⟨v, rfl, hv⟩ := h.one
    obtain ⟨a, xs, rfl, h1, h2⟩ := ds_tup hv
    refine ⟨a, xs, rfl, .inr (SqT.of (g.s _ _ h1)), ?_⟩
    rw [h2.length]
    exact q _ F1 H1 g.end (.int _)) hg (he := he)
theorem xd_lenS {s : Str} (B : Bn X.mg) (ha : XD q X a σ F H (.str s)) (hl : s.length ≤ 100000) (hg : Gl X "len" := by rfl) (he : starEach [a] X.env = [(false, eval a X.env)] := by rfl) : XD q X (.Call (.Name "len" p) [a] [] pos) σ F H (.int s.length) :=
  x_callB call_len_str B.len boot_len (xa_cons mono_dt ha xa_nil he) (fun vs F1 H1 g h Q q => by
    obtain ⟨v, rfl, hv⟩ := h.one
    rw [ds_str hv]
    exact ⟨s, rfl, sz_of hl, q _ F1 H1 g.end (.int _)⟩) hg (he := he)
theorem xd_tupleL {ds : List PyData} (B : Bn X.mg) (ha : XD q X a σ F H (.list ds)) (hg : Gl X "tuple" := by rfl) (he : starEach [a] X.env = [(false, eval a X.env)] := by rfl) : XD q X (.Call (.Name "tuple" p) [a] [] pos) σ F H (.tuple ds) :=
  x_callTy call_tuple_of B.tuple (by decide +kernel) (xa_cons mono_dt ha xa_nil he) (fun vs F1 H1 g h Q q => by
    obtain ⟨v, rfl, hv⟩ := h.one
    obtain ⟨a, xs, rfl, h1, h2⟩ := ds_lst hv
    exact ⟨a, xs, rfl, .inl ⟨SqL.of (g.s _ _ h1), fun l hl => q _ _ _ (g.new hl) (.tup upd_same (h2.mono (Ex.new (fresh_back g.s hl))))⟩⟩) hg (he := he)
theorem xd_tupleT {ds : List PyData} (B : Bn X.mg) (ha : XD q X a σ F H (.tuple ds)) (hg : Gl X "tuple" := by rfl) (he : starEach [a] X.env = [(false, eval a X.env)] := by rfl) : XD q X (.Call (.Name "tuple" p) [a] [] pos) σ F H (.tuple ds) :=
  x_callTy call_tuple_of B.tuple (by decide +kernel) (xa_cons mono_dt ha xa_nil he) (fun vs F1 H1 g h Q q => by
    obtain ⟨v, rfl, hv⟩ := h.one
    obtain ⟨a, xs, rfl, h1, h2⟩ := ds_tup hv
    exact ⟨a, xs, rfl, .inr ⟨SqT.of (g.s _ _ h1), q _ _ _ g.end (.tup h1 h2)⟩⟩) hg (he := he)
theorem xm_list {ds : List PyData} (B : Bn X.mg) (ha : XD q X a σ F H (.list ds) ∨ XD q X a σ F H (.tuple ds)) (hg : Gl X "list" := by rfl) (he : starEach [a] X.env = [(false, eval a X.env)] := by rfl) : XM q X (.Call (.Name "list" p) [a] [] pos) σ F H ds := fun F1 H1 g Q kq => by
  have fin : ∀ (v : V) (F2 H2 : Hp), Grow q F1 H1 F2 H2 → (Ds F2 v (.list ds) ∨ Ds F2 v (.tuple ds)) → ∃ p ys, [v] = [.ref p] ∧ (SqL X.K H2 p ys ∨ SqT X.K H2 p ys) ∧ ∀ l, H2 l = none → Q (.ref l) (upd H2 l (.lst ys)) := by
    intro v F2 H2 g2 h
    rcases h with h | h
    · obtain ⟨a, xs, rfl, h1, h2⟩ := ds_lst h
      exact ⟨a, xs, rfl, .inl (SqL.of (g2.s _ _ h1)), fun l hl => kq l xs F2 _ (g2.trans (g2.mut hl)) (g2.fresh hl) (fresh_back g2.s hl) upd_same h2⟩
    · obtain ⟨a, xs, rfl, h1, h2⟩ := ds_tup h
      exact ⟨a, xs, rfl, .inr (SqT.of (g2.s _ _ h1)), fun l hl => kq l xs F2 _ (g2.trans (g2.mut hl)) (g2.fresh hl) (fresh_back g2.s hl) upd_same h2⟩
  refine wE_of (pe_callTy call_list_of hg B.list (by decide +kernel) (pa_cons wE_ok pa_nil he) (he := he)) ?_
  rcases ha with ha | ha
  · exact ha F1 H1 g _ fun v F2 H2 g2 h => fin v F2 H2 g2 (.inl h)
  · exact ha F1 H1 g _ fun v F2 H2 g2 h => fin v F2 H2 g2 (.inr h)
theorem xd_all {bs : List Bool} {ds : List PyData} (hc : X.calm = true) (B : Bn X.mg) (ha : XD q X a σ F H (.list ds)) (e' : ds = bs.map .bool) (hg : Gl X "all" := by rfl) (he : starEach [a] X.env = [(false, eval a X.env)] := by rfl) : XD q X (.Call (.Name "all" p) [a] [] pos) σ F H (.bool (bs.all id)) :=
  x_callB (cr_all hc) B.all (by decide +kernel) (xa_cons mono_dt ha xa_nil he) (fun vs F1 H1 g h Q q => by
    obtain ⟨v, rfl, hv⟩ := h.one
    obtain ⟨a, xs, rfl, h1, h2⟩ := ds_lst hv
    subst e'
    rw [h2.bools] at h1
    exact ⟨a, bs, rfl, SqL.of (g.s _ _ h1), q _ F1 H1 g.end (.bl _)⟩) hg (he := he)
theorem xd_any {bs : List Bool} {ds : List PyData} (hc : X.calm = true) (B : Bn X.mg) (ha : XD q X a σ F H (.list ds)) (e' : ds = bs.map .bool) (hg : Gl X "any" := by rfl) (he : starEach [a] X.env = [(false, eval a X.env)] := by rfl) : XD q X (.Call (.Name "any" p) [a] [] pos) σ F H (.bool (bs.any id)) :=
  x_callB (cr_any hc) B.any (by decide +kernel) (xa_cons mono_dt ha xa_nil he) (fun vs F1 H1 g h Q q => by
    obtain ⟨v, rfl, hv⟩ := h.one
    obtain ⟨a, xs, rfl, h1, h2⟩ := ds_lst hv
    subst e'
    rw [h2.bools] at h1
    exact ⟨a, bs, rfl, SqL.of (g.s _ _ h1), q _ F1 H1 g.end (.bl _)⟩) hg (he := he)
end
/-! ### calls of defs -/
theorem x_call {kk : Nat} {f : Addr} {fd : FuncData} {ps : List Str} {sp : Sp} {Ts : List TyP} (G : FnOk X.prog X.w X.K X.mg X.base CX0 kk f fd ps sp) (hr : Room kk X.A) (hm : X.mg x = some (.ref f)) (hk : PySem.W.keepIn X.K (.ref f) = true) (hb : Binds X.K fd ps [])
    (ha : XA q X (e :: es) σ F H Ts) (hs : ∀ vs F1 H1, Grow q F H F1 H1 → AllT Ts vs F1 → ∀ Q : VK, (∀ v F2 H2, Grow q F1 H1 F2 H2 → T v F2 → Q v H2) → sp vs H1 Q E0) (hg : Gl X x := by rfl)
    (hdb : (x == ("__debug__" : Str)) = false := by decide) (he : starEach (e :: es) X.env = (false, eval e X.env) :: starEach es X.env := by rfl) (hpl : (backTo pos (starEach es X.env)).any (·.1) = false := by rfl) :
    XP q X (.Call (.Name x p) (e :: es) [] pos) σ F H T := fun F1 H1 g Q q =>
  wE_of (pe_call G hr hg hm hk hb .nil pass0 wA_ok hdb he hpl) (ha F1 H1 g _ fun vs F2 H2 g2 hvs => by
    rw [List.append_nil]
    exact hs vs F2 H2 (g.trans g2) hvs Q fun v F3 H3 g3 hv => q v F3 H3 (g2.trans g3) hv)
/-- a promise over still things: what it asks of the arguments, what it gives -/
def spD (P : List V → Hp → TyP → Prop) : Sp := fun vs H Q _ => ∃ F T, Ex F H ∧ P vs F T ∧ ∀ v F2 H2, Grow none F H F2 H2 → T v F2 → Q v H2
theorem x_callD {kk : Nat} {f : Addr} {fd : FuncData} {ps : List Str} {P : List V → Hp → TyP → Prop} {Ts : List TyP} (G : FnOk X.prog X.w X.K X.mg X.base CX0 kk f fd ps (spD P)) (hr : Room kk X.A) (hm : X.mg x = some (.ref f)) (hk : PySem.W.keepIn X.K (.ref f) = true) (hb : Binds X.K fd ps [])
    (ha : XA q X (e :: es) σ F H Ts) (hs : ∀ vs F1, Ex F F1 → AllT Ts vs F1 → P vs F1 T) (hg : Gl X x := by rfl)
    (hdb : (x == ("__debug__" : Str)) = false := by decide) (he : starEach (e :: es) X.env = (false, eval e X.env) :: starEach es X.env := by rfl) (hpl : (backTo pos (starEach es X.env)).any (·.1) = false := by rfl) :
    XP q X (.Call (.Name x p) (e :: es) [] pos) σ F H T :=
  x_call G hr hm hk hb ha (fun vs F1 H1 g h Q k => ⟨F1, T, g.s, hs vs F1 g.f h, fun v F2 H2 g2 => k v F2 H2 (g2.weak g.a1)⟩) hg hdb he hpl
end
end R
end
section
set_option Elab.async false
set_option linter.all false
set_option maxRecDepth 100000
set_option maxHeartbeats 4000000
namespace R
open PySem L2 Evl

/-- it walks these data while the still part F2 stands -/
structure WalkD (J : It) (F2 : Hp) (ds : List PyData) : Prop where
  goes : ∀ i H, i < ds.length → Ex F2 H → J.go i H
  stops : ∀ H, Ex F2 H → J.stop ds.length H
  yields : ∀ i H x H' F', i < ds.length → Ex F2 F' → Ex F' H → J.yld i H x H' → ∃ F'' d, Grow none F' H F'' H' ∧ ds[i]? = some d ∧ Ds F'' x d
def XI (q : Option Addr) (X : Cx) (tg it : Expr) (σ : St) (F H : Hp) (ds : List PyData) : Prop := ∀ F1 H1, Grow q F H F1 H1 → ∀ R : It → Hp → Prop, (∀ J F2 H2, Grow q F1 H1 F2 H2 → WalkD J F2 ds → R J H2) → wI X tg it σ H1 R
theorem walkD_list {K : PySem.W.Frag} {F2 : Hp} {a : Addr} {xs : List V} {ds : List PyData} (h1 : F2 a = some (.lst xs)) (h2 : DsAll F2 xs ds) : WalkD (Itl K a) F2 ds := by
  have w := walk_list (K := K) (a := a) (xs := xs)
  rw [h2.length] at w
  refine ⟨fun i H hi e => w.goes i H hi (SqL.of (e _ _ h1)), fun H e => w.stops H (SqL.of (e _ _ h1)), fun i H x H' F' hi e1 e2 y => ?_⟩
  obtain ⟨rfl, y2⟩ := w.yields i H x H' hi (SqL.of (e2 _ _ (e1 _ _ h1))) y
  obtain ⟨d, hd, hx⟩ := h2.get y2
  exact ⟨F', d, Grow.start e2, hd, hx.mono e1⟩
theorem walkD_tup {K : PySem.W.Frag} {F2 : Hp} {a : Addr} {xs : List V} {ds : List PyData} (h1 : F2 a = some (.tup xs)) (h2 : DsAll F2 xs ds) : WalkD (Itt K a) F2 ds := by
  have w := walk_tup (K := K) (a := a) (xs := xs)
  rw [h2.length] at w
  refine ⟨fun i H hi e => w.goes i H hi (SqT.of (e _ _ h1)), fun H e => w.stops H (SqT.of (e _ _ h1)), fun i H x H' F' hi e1 e2 y => ?_⟩
  obtain ⟨rfl, y2⟩ := w.yields i H x H' hi (SqT.of (e2 _ _ (e1 _ _ h1))) y
  obtain ⟨d, hd, hx⟩ := h2.get y2
  exact ⟨F', d, Grow.start e2, hd, hx.mono e1⟩

section
variable {q : Option Addr} {X : Cx} {σ : St} {F H F' H' : Hp} {e a b c it tg elt iter : Expr} {es rest ifs : List Expr} {T U : TyP} {d d1 d2 : PyData} {ds : List PyData} {pos p : Pos} {k : Nat} {x : Str}
theorem xi_lst (h : XD q X it σ F H (.list ds)) : XI q X tg it σ F H ds := fun F1 H1 g R r =>
  wI_of (pi_list wE_ok) (h F1 H1 g _ fun v F2 H2 g2 hv => by
    obtain ⟨a, xs, rfl, h1, h2⟩ := ds_lst hv
    exact ⟨a, rfl, ⟨xs, SqL.of (g2.s _ _ h1)⟩, r _ F2 H2 g2 (walkD_list h1 h2)⟩)
theorem xi_tup (h : XD q X it σ F H (.tuple ds)) : XI q X tg it σ F H ds := fun F1 H1 g R r =>
  wI_of (pi_tup wE_ok) (h F1 H1 g _ fun v F2 H2 g2 hv => by
    obtain ⟨a, xs, rfl, h1, h2⟩ := ds_tup hv
    exact ⟨a, rfl, ⟨xs, SqT.of (g2.s _ _ h1)⟩, r _ F2 H2 g2 (walkD_tup h1 h2)⟩)
/-- range(n) -/
theorem xi_rng {n : Nat} (B : Bn X.mg) (h : XD q X a σ F H (.int n)) (hn : n ≤ 100000) (hg : Gl X "range" := by rfl) (he : starEach [a] X.env = [(false, eval a X.env)] := by rfl) : XI q X tg (.Call (.Name "range" p) [a] [] pos) σ F H ((List.range n).map fun i => .int (i : Nat)) := fun F1 H1 g R r =>
  wI_of (pi_range1 hg B.range (pa_cons wE_ok pa_nil he) (by first | exact he | rfl)) (h F1 H1 g _ fun v F2 H2 g2 hv => by
    rw [ds_int hv]
    refine ⟨n, rfl, by omega, by omega, r _ F2 H2 g2 ?_⟩
    rw [show ((n : Int)).toNat = n from Int.toNat_natCast n]
    refine ⟨fun i H hi _ => ?_, fun H _ => ?_, fun i H x H' F' hi e1 e2 y => ?_⟩
    · simp at hi; exact hi
    · show n ≤ _; simp
    · obtain ⟨rfl, rfl⟩ := y
      refine ⟨F', .int (i : Nat), Grow.start e2, ?_, by rw [show (0 : Int) + (i : Nat) = (i : Nat) from Int.zero_add _]; exact .int _⟩
      simp at hi
      simp [hi])
/-- enumerate(list) -/
theorem xi_enumL {elts : List Expr} {kk : Nat} {tpos : Pos} (B : Bn X.mg) (h : XD q X a σ F H (.list ds)) (hg : Gl X "enumerate" := by rfl) (he : starEach [a] X.env = [(false, eval a X.env)] := by rfl) :
    XI q X (.Tuple elts kk tpos) (.Call (.Name "enumerate" p) [a] [] pos) σ F H (ds.zipIdx.map fun q => .tuple [.int (q.2 : Nat), q.1]) := fun F1 H1 g R r =>
  wI_of (pi_enum hg B.enumerate (pa_cons wE_ok pa_nil he) he) (h F1 H1 g _ fun v F2 H2 g2 hv => by
    obtain ⟨a, xs, rfl, h1, h2⟩ := ds_lst hv
    refine ⟨a, xs, rfl, SqL.of (g2.s _ _ h1), r _ F2 H2 g2 ?_⟩
    have w := walk_enum (K := X.K) (a := a) (xs := xs)
    rw [h2.length] at w
    refine ⟨fun i H hi e => w.goes i H (by simpa using hi) (SqL.of (e _ _ h1)), fun H e => ?_, fun i H x H' F' hi e1 e2 y => ?_⟩
    · have := w.stops H (SqL.of (e _ _ h1))
      simpa using this
    · simp at hi
      obtain ⟨T, y1, y2, rfl, hT, rfl, e3, e4⟩ := w.yields i H x H' hi (SqL.of (e2 _ _ (e1 _ _ h1))) y
      cases e3
      obtain ⟨d, hd, hx⟩ := h2.get e4
      refine ⟨upd F' T (.tup [.int (i : Nat), y2]), .tuple [.int (i : Nat), d], (Grow.start e2).new hT, ?_, .tup upd_same (.cons (.int _) (.cons (hx.mono (e1.trans (Ex.new (fresh_back e2 hT)))) .nil))⟩
      simp [hd])

/-! ### list comprehensions -/
def uE (X : Cx) (scope : Scope) (e : Expr) : TE := fun σ H Q => ∀ (s : Shared) (H0 : Hp) (C : Addr) (cl : List (Str × Addr)) (fp : List Addr), wE (X.blk s H0 scope (compEnvC scope cl C X.env) fp) e σ H Q
def uT (X : Cx) (scope : Scope) (e : Expr) : TT := fun σ H Q => ∀ (s : Shared) (H0 : Hp) (C : Addr) (cl : List (Str × Addr)) (fp : List Addr), wT (X.blk s H0 scope (compEnvC scope cl C X.env) fp) e σ H Q
/-- in the comprehension's own block -/
abbrev InB (X : Cx) (scope : Scope) (P : Cx → Prop) : Prop := ∀ (s : Shared) (H0 : Hp) (C : Addr) (cl : List (Str × Addr)) (fp : List Addr), P (X.blk s H0 scope (compEnvC scope cl C X.env) fp)
theorem take_succ_lc {ds : List PyData} {i : Nat} {d : PyData} (h : ds[i]? = some d) (pr : PyData → Bool) (gm : PyData → PyData) :
    ((ds.take (i + 1)).filter pr).map gm = ((ds.take i).filter pr).map gm ++ (if pr d = true then [gm d] else []) := by
  obtain ⟨hi, e⟩ := List.getElem?_eq_some_iff.mp h
  rw [List.take_succ, h, List.filter_append, List.map_append]
  congr 1
  show List.map gm (List.filter pr [d]) = _
  by_cases q : pr d = true
  · rw [if_pos q, List.filter_cons, if_pos q]; rfl
  · rw [if_neg q, List.filter_cons, if_neg q]; rfl

/-- the block's facts -/
structure LcOk (X : Cx) (tg : Expr) (scope : Scope) (own : List (Str × Nat)) (iter : Expr) (gx : TG) : Prop where
  calm : X.calm = true
  nd : X.N.Nodup
  ok : BlkOk X.N X.env.scope scope own
  tg : InB X scope fun Y => PG Y tg gx
  hs : ∀ x, foldedSetIterable iter X.env x = pure x

theorem lcD {J : It} {F0 H0 F2 H2 : Hp} {gx : TG} {tt : TT} {te : TE} {vs : List Nat} {pr : PyData → Bool} {gm : PyData → PyData} {Q : VK} (g2 : Grow q F0 H0 F2 H2) (w : WalkD J F2 ds) (hl : ds.length ≤ 100000)
    (hb : ∀ d x F' H', d ∈ ds → Grow q F2 H2 F' H' → Ds F' x d → ∀ R : St → Hp → Prop, (∀ σ2, wipe σ2 vs = wipe σ vs → (∀ Q : Bool → Hp → Prop, (∀ F3 H3, Grow q F' H' F3 H3 → Q (pr d) H3) → tt σ2 H' Q) →
        (pr d = true → ∀ F3 H3, Grow q F' H' F3 H3 → ∀ Q : VK, (∀ v F4 H4, Grow q F3 H3 F4 H4 → Ds F4 v (gm d) → Q v H4) → te σ2 H3 Q) → R σ2 H') → gx x (wipe σ vs) H' R)
    (kq : ∀ p xs F3 H3, Grow q F2 H2 F3 H3 → H2 p = none → F3 p = none → H3 p = some (.lst xs) → DsAll F3 xs ((ds.filter pr).map gm) → Q (.ref p) H3) :
    ∀ D, H2 D = none → ∃ W : Nat → Nat → Hp → Prop, (∃ m, W 0 m (upd H2 D (.lst []))) ∧ ∀ i m H, W i m H →
      (J.stop i H ∧ Q (.ref D) H) ∨ (J.go i H ∧ ∃ Nx : Hp → Prop, (∀ H', Nx H' → ∃ m', m' < m ∧ W (i + 1) m' H') ∧ ∀ x H', J.yld i H x H' → gx x (wipe σ vs) H' fun σ2 H2 => wipe σ2 vs = wipe σ vs ∧ tt σ2 H2 fun b H3 =>
        if b = true then te σ2 H3 fun y H4 => ∃ acc, H4 D = some (.lst acc) ∧ acc.length < sizeLine ∧ Nx (upd H4 D (.lst (acc ++ [y]))) else Nx H3) := by
  intro D hD
  let Pv : Nat → Hp → Prop := fun i H' => ∃ F' acc, Grow q F2 H2 F' H' ∧ F' D = none ∧ H' D = some (.lst acc) ∧ DsAll F' acc (((ds.take i).filter pr).map gm)
  refine ⟨fun i m H => m = ds.length - i ∧ i ≤ ds.length ∧ Pv i H, ⟨ds.length, by simp, Nat.zero_le _, F2, [], g2.mut hD, fresh_back g2.s hD, upd_same, by simpa using DsAll.nil⟩, ?_⟩
  rintro i m H ⟨rfl, hi, F', acc, gw, hFD, hHD, hacc⟩
  by_cases hlt : i < ds.length
  · refine .inr ⟨w.goes i H hlt (gw.f.trans gw.s), Pv (i + 1), fun H' p' => ⟨ds.length - (i + 1), by omega, rfl, hlt, p'⟩, fun x H' y => ?_⟩
    obtain ⟨F'', d, g3, hd, hx⟩ := w.yields i H x H' F' hlt gw.f gw.s y
    have hmem : d ∈ ds := List.mem_of_getElem? hd
    have hqD : q ≠ some D := g2.a1.ne hD
    have g4 := gw.trans (g3.weak gw.a1)
    have hF''D : F'' D = none := g3.n D _ hFD hHD
    have hH'D := g3.h D _ (by simp) hHD
    refine hb d x F'' H' hmem g4 hx _ fun σ2 hw ht he => ⟨hw, ht _ fun F3 H3 g5 => ?_⟩
    have hF3D : F3 D = none := g5.n D _ hF''D hH'D
    have hH3D := g5.h D _ hqD hH'D
    have hts := take_succ_lc hd pr gm
    by_cases hp : pr d = true
    · rw [if_pos hp]
      rw [if_pos hp] at hts
      refine he hp F3 H3 g5 _ fun v F4 H4 g6 hv => ?_
      have hF4D : F4 D = none := g6.n D _ hF3D hH3D
      have hH4D := g6.h D _ hqD hH3D
      have gg := (g4.trans g5).trans g6
      refine ⟨acc, hH4D, ?_, F4, acc ++ [v], gg.put hD hF4D, hF4D, upd_same, ?_⟩
      · have : acc.length ≤ i := by
          rw [hacc.length, List.length_map]
          exact Nat.le_trans (List.length_filter_le _ _) (by rw [List.length_take]; omega)
        exact sz_lt (by omega)
      · rw [hts]
        exact (hacc.mono (g3.f.trans (g5.f.trans g6.f))).append (.cons hv .nil)
    · rw [if_neg hp]
      rw [if_neg hp, List.append_nil] at hts
      exact ⟨F3, acc, g4.trans g5, hF3D, hH3D, by rw [hts]; exact hacc.mono (g3.f.trans g5.f)⟩
  · have e : i = ds.length := by omega
    subst e
    refine .inl ⟨w.stops H (gw.f.trans gw.s), kq D acc F' H gw hD hFD hHD ?_⟩
    rw [List.take_length] at hacc
    exact hacc

section
variable {scope : Scope} {own : List (Str × Nat)} {gx : TG} {pr : PyData → Bool} {gm : PyData → PyData} {asg : St → List V → St} {esf : PyData → List PyData}
/-- the target's names get vs, for an item d -/
def Tgt (gx : TG) (asg : St → List V → St) (d : PyData) (es : List PyData) : Prop := ∀ (F' H' : Hp) (x : V) (σ' : St) (Q : St → Hp → Prop), Ex F' H' → Ds F' x d → (∀ vs, DsAll F' vs es → Q (asg σ' vs) H') → gx x σ' H' Q
theorem tgt_name {j : Nat} : Tgt (gName j) (fun σ vs => σ.set j vs.head?) d [d] := fun F' H' x σ' Q e h q => q [x] (.cons h .nil)
theorem tgt_tup {K : PySem.W.Frag} {n : Nat} {t : TGs} {ds : List PyData} (hn : ds.length = n) (h : ∀ (F' H' : Hp) (vs : List V) (σ' : St) (Q : St → Hp → Prop), Ex F' H' → DsAll F' vs ds → Q (asg σ' vs) H' → t vs σ' H' Q) : Tgt (gTup K n t) asg (.tuple ds) ds :=
  fun F' H' x σ' Q e hx q => by
    obtain ⟨a, xs, rfl, h1, h2⟩ := ds_tup hx
    exact ⟨a, xs, rfl, SqT.of (e _ _ h1), by rw [h2.length, hn], h F' H' xs σ' Q e h2 (q xs h2)⟩
theorem tgt_tup2 {K : PySem.W.Frag} {j1 j2 : Nat} : Tgt (gTup K 2 (gCons (gName j1) (gCons (gName j2) gNil))) (fun σ vs => (σ.set j1 vs[0]?).set j2 vs[1]?) (.tuple [d1, d2]) [d1, d2] := tgt_tup rfl fun F' H' vs σ' Q e h q => by
  match vs, h with
  | [v, w], _ => exact ⟨v, [w], rfl, w, [], rfl, rfl, q⟩
theorem tgt_tup4 {K : PySem.W.Frag} {j1 j2 j3 j4 : Nat} {d3 d4 : PyData} : Tgt (gTup K 4 (gCons (gName j1) (gCons (gName j2) (gCons (gName j3) (gCons (gName j4) gNil))))) (fun σ vs => (((σ.set j1 vs[0]?).set j2 vs[1]?).set j3 vs[2]?).set j4 vs[3]?) (.tuple [d1, d2, d3, d4]) [d1, d2, d3, d4] := tgt_tup rfl fun F' H' vs σ' Q e h q => by
  match vs, h with
  | [v, w, y, z], _ => exact ⟨v, [w, y, z], rfl, w, [y, z], rfl, y, [z], rfl, z, [], rfl, rfl, q⟩

/-- what a comprehension's reading wants: a new list of these -/
def XL (q : Option Addr) (t : TE) (σ : St) (F H : Hp) (ds : List PyData) : Prop := ∀ F1 H1, Grow q F H F1 H1 → ∀ Q : VK, (∀ p vs F2 H2, Grow q F1 H1 F2 H2 → H1 p = none → F2 p = none → H2 p = some (.lst vs) → DsAll F2 vs ds → Q (.ref p) H2) → t σ H1 Q
theorem lcIf (L : LcOk X tg scope own iter gx) (hi : XI q X tg iter σ F H ds) (hT : ∀ d, d ∈ ds → Tgt gx asg d (esf d)) (hl : ds.length ≤ 100000) (hw : ∀ vs, wipe (asg (wipe σ (own.map (·.2))) vs) (own.map (·.2)) = wipe σ (own.map (·.2)))
    (hp : ∀ d vs F1 H1, d ∈ ds → Grow q F H F1 H1 → DsAll F1 vs (esf d) → InB X scope fun Y => XT q Y c (asg (wipe σ (own.map (·.2))) vs) F1 H1 (pr d))
    (he : ∀ d vs F1 H1, d ∈ ds → pr d = true → Grow q F H F1 H1 → DsAll F1 vs (esf d) → InB X scope fun Y => XD q Y elt (asg (wipe σ (own.map (·.2))) vs) F1 H1 (gm d)) :
    XL q (tLc (wI X tg iter) gx (uT X scope c) (uE X scope elt) (own.map (·.2))) σ F H ((ds.filter pr).map gm) := fun F1 H1 g Q kq => by
  refine hi F1 H1 g _ fun J F2 H2 g2 w => lcD (pr := pr) (gm := gm) g2 w hl (fun d x F' H' hd gw hx R r => hT d hd F' H' x _ _ gw.s hx fun vs hvs => ?_) fun p xs F3 H3 g3 h1 h2 h3 h4 => kq p xs F3 H3 (g2.trans g3) (g2.fresh h1) h2 h3 h4
  refine r _ (hw vs) (fun Q q s H0 C cl fp => hp d vs F' H' hd (g.trans (g2.trans gw)) hvs s H0 C cl fp F' H' gw.end Q q) fun hpd F3 H3 g3 Q q s H0 C cl fp => ?_
  exact he d vs F' H' hd hpd (g.trans (g2.trans gw)) hvs s H0 C cl fp F3 H3 g3 Q q
theorem lcAll (L : LcOk X tg scope own iter gx) (hi : XI q X tg iter σ F H ds) (hT : ∀ d, d ∈ ds → Tgt gx asg d (esf d)) (hl : ds.length ≤ 100000) (hw : ∀ vs, wipe (asg (wipe σ (own.map (·.2))) vs) (own.map (·.2)) = wipe σ (own.map (·.2)))
    (he : ∀ d vs F1 H1, d ∈ ds → Grow q F H F1 H1 → DsAll F1 vs (esf d) → InB X scope fun Y => XD q Y elt (asg (wipe σ (own.map (·.2))) vs) F1 H1 (gm d)) :
    XL q (tLc (wI X tg iter) gx tYes (uE X scope elt) (own.map (·.2))) σ F H (ds.map gm) := fun F1 H1 g Q kq => by
  refine hi F1 H1 g _ fun J F2 H2 g2 w => lcD (pr := fun _ => true) (gm := gm) g2 w hl (fun d x F' H' hd gw hx R r => hT d hd F' H' x _ _ gw.s hx fun vs hvs => ?_) fun p xs F3 H3 g3 h1 h2 h3 h4 => kq p xs F3 H3 (g2.trans g3) (g2.fresh h1) h2 h3 (by rw [List.filter_eq_self.mpr (fun _ _ => rfl)] at h4; exact h4)
  refine r _ (hw vs) (fun Q q => q F' H' gw.end) fun _ F3 H3 g3 Q q s H0 C cl fp => ?_
  exact he d vs F' H' hd (g.trans (g2.trans gw)) hvs s H0 C cl fp F3 H3 g3 Q q
theorem pe_lcIf (L : LcOk X tg scope own iter gx) : PE X (.ListComp elt [⟨tg, iter, [c], 0⟩] scope pos) (tLc (wI X tg iter) gx (uT X scope c) (uE X scope elt) (own.map (·.2))) :=
  pe_lc (te := uE X scope elt) (tt := uT X scope c) L.calm L.nd wI_ok L.ok L.tg (fun s H C cl fp => pts_one ⟨fun pins s' σ' H' Q I h => (h s H C cl fp).run pins s' I⟩) (fun s H C cl fp => ⟨fun pins s' σ' H' Q I h => (h s H C cl fp).run pins s' I⟩) L.hs
theorem pe_lcAll (L : LcOk X tg scope own iter gx) : PE X (.ListComp elt [⟨tg, iter, [], 0⟩] scope pos) (tLc (wI X tg iter) gx tYes (uE X scope elt) (own.map (·.2))) :=
  pe_lc (te := uE X scope elt) (tt := tYes) L.calm L.nd wI_ok L.ok L.tg (fun s H C cl fp => pts_nil) (fun s H C cl fp => ⟨fun pins s' σ' H' Q I h => (h s H C cl fp).run pins s' I⟩) L.hs
theorem xm_lcIf (L : LcOk X tg scope own iter gx) (hi : XI q X tg iter σ F H ds) (hT : ∀ d, d ∈ ds → Tgt gx asg d (esf d)) (hl : ds.length ≤ 100000) (hw : ∀ vs, wipe (asg (wipe σ (own.map (·.2))) vs) (own.map (·.2)) = wipe σ (own.map (·.2)))
    (hp : ∀ d vs F1 H1, d ∈ ds → Grow q F H F1 H1 → DsAll F1 vs (esf d) → InB X scope fun Y => XT q Y c (asg (wipe σ (own.map (·.2))) vs) F1 H1 (pr d))
    (he : ∀ d vs F1 H1, d ∈ ds → pr d = true → Grow q F H F1 H1 → DsAll F1 vs (esf d) → InB X scope fun Y => XD q Y elt (asg (wipe σ (own.map (·.2))) vs) F1 H1 (gm d)) :
    XM q X (.ListComp elt [⟨tg, iter, [c], 0⟩] scope pos) σ F H ((ds.filter pr).map gm) := fun F1 H1 g Q kq => wE_of (pe_lcIf L) (lcIf L hi hT hl hw hp he F1 H1 g Q kq)
theorem xm_lc (L : LcOk X tg scope own iter gx) (hi : XI q X tg iter σ F H ds) (hT : ∀ d, d ∈ ds → Tgt gx asg d (esf d)) (hl : ds.length ≤ 100000) (hw : ∀ vs, wipe (asg (wipe σ (own.map (·.2))) vs) (own.map (·.2)) = wipe σ (own.map (·.2)))
    (he : ∀ d vs F1 H1, d ∈ ds → Grow q F H F1 H1 → DsAll F1 vs (esf d) → InB X scope fun Y => XD q Y elt (asg (wipe σ (own.map (·.2))) vs) F1 H1 (gm d)) :
    XM q X (.ListComp elt [⟨tg, iter, [], 0⟩] scope pos) σ F H (ds.map gm) := fun F1 H1 g Q kq => wE_of (pe_lcAll L) (lcAll L hi hT hl hw he F1 H1 g Q kq)
section
variable {F0 H0 : Hp} {D : Ends} {i : Nat} {y : Str} {py spos : Pos}
/-- y = [elt for tg in iter if c] -/
theorem s_lcIf (hy : X.N[i]? = some y) (hyl : X.env.scope.names.lookup y = some .local) (hsw : swapsWith (.ListComp elt [⟨tg, iter, [c], 0⟩] scope pos) (some (.Name y py)) spos.line X.env = pure true) (g0 : Grow q F0 H0 F H)
    (k : ∀ l vs F2 H2, Grow q F H F2 H2 → H l = none → F2 l = none → H2 l = some (.lst vs) → DsAll F2 vs ((ds.filter pr).map gm) → D.nx (σ.set i (some (.ref l))) H2) (L : LcOk X tg scope own iter gx) (hi : XI q X tg iter σ F H ds) (hT : ∀ d, d ∈ ds → Tgt gx asg d (esf d)) (hl : ds.length ≤ 100000) (hw : ∀ vs, wipe (asg (wipe σ (own.map (·.2))) vs) (own.map (·.2)) = wipe σ (own.map (·.2)))
    (hp : ∀ d vs F1 H1, d ∈ ds → Grow q F H F1 H1 → DsAll F1 vs (esf d) → InB X scope fun Y => XT q Y c (asg (wipe σ (own.map (·.2))) vs) F1 H1 (pr d))
    (he : ∀ d vs F1 H1, d ∈ ds → pr d = true → Grow q F H F1 H1 → DsAll F1 vs (esf d) → InB X scope fun Y => XD q Y elt (asg (wipe σ (own.map (·.2))) vs) F1 H1 (gm d)) :
    wS X (.Assign [.Name y py] (.ListComp elt [⟨tg, iter, [c], 0⟩] scope pos) spos) D σ H :=
  wS_of (ps_setLc (te := uE X scope elt) (tt := uT X scope c) L.calm L.nd hy hyl hsw wI_ok L.ok L.tg (fun s H C cl fp => pts_one ⟨fun pins s' σ' H' Q I h => (h s H C cl fp).run pins s' I⟩) (fun s H C cl fp => ⟨fun pins s' σ' H' Q I h => (h s H C cl fp).run pins s' I⟩) L.hs)
    (lcIf L hi hT hl hw hp he F H g0.end _ fun l vs F2 H2 g2 h1 h2 h3 h4 => k l vs F2 H2 g2 h1 h2 h3 h4)
theorem s_lcAll (hy : X.N[i]? = some y) (hyl : X.env.scope.names.lookup y = some .local) (hsw : swapsWith (.ListComp elt [⟨tg, iter, [], 0⟩] scope pos) (some (.Name y py)) spos.line X.env = pure true) (g0 : Grow q F0 H0 F H)
    (k : ∀ l vs F2 H2, Grow q F H F2 H2 → H l = none → F2 l = none → H2 l = some (.lst vs) → DsAll F2 vs (ds.map gm) → D.nx (σ.set i (some (.ref l))) H2) (L : LcOk X tg scope own iter gx) (hi : XI q X tg iter σ F H ds) (hT : ∀ d, d ∈ ds → Tgt gx asg d (esf d)) (hl : ds.length ≤ 100000) (hw : ∀ vs, wipe (asg (wipe σ (own.map (·.2))) vs) (own.map (·.2)) = wipe σ (own.map (·.2)))
    (he : ∀ d vs F1 H1, d ∈ ds → Grow q F H F1 H1 → DsAll F1 vs (esf d) → InB X scope fun Y => XD q Y elt (asg (wipe σ (own.map (·.2))) vs) F1 H1 (gm d)) :
    wS X (.Assign [.Name y py] (.ListComp elt [⟨tg, iter, [], 0⟩] scope pos) spos) D σ H :=
  wS_of (ps_setLc (te := uE X scope elt) (tt := tYes) L.calm L.nd hy hyl hsw wI_ok L.ok L.tg (fun s H C cl fp => pts_nil) (fun s H C cl fp => ⟨fun pins s' σ' H' Q I h => (h s H C cl fp).run pins s' I⟩) L.hs)
    (lcAll L hi hT hl hw he F H g0.end _ fun l vs F2 H2 g2 h1 h2 h3 h4 => k l vs F2 H2 g2 h1 h2 h3 h4)
end
end
end
end R
end
section
set_option Elab.async false
set_option linter.all false
set_option maxRecDepth 100000
set_option maxHeartbeats 4000000
namespace R
open PySem L2 Evl

section
variable {q : Option Addr} {F0 H0 : Hp} {X : Cx} {σ : St} {F H F' H' : Hp} {e a b c it tg elt iter o : Expr} {es ifs : List Expr} {rest body els : List Stmt} {st : Stmt} {D : Ends} {T U : TyP} {d d1 d2 : PyData} {ds : List PyData} {pos p p' : Pos} {k : Nat} {x : Str}
theorem ss_nil (h : D.nx σ H) : wSs X [] D σ H := wSs_of pss_nil h
theorem ss_cons (h : wS X st { D with nx := wSs X rest D } σ H) : wSs X (st :: rest) D σ H := wSs_of (pss_cons wS_ok wSs_ok) h
theorem s_set {i : Nat} (hN : X.N.Nodup) (hi : X.N[i]? = some x) (h : XP q X e σ F H T) (g0 : Grow q F0 H0 F H) (k : ∀ v F2 H2, Grow q F H F2 H2 → T v F2 → D.nx (σ.set i (some v)) H2)
    (hx : Loc X.env.scope x := by first | exact Or.inl rfl | exact Or.inr rfl) (hs : swapsWith e (some (.Name x p')) pos.line X.env = pure false := by rfl) (hf : X.fn x = true ∨ X.env.scope.names.lookup x = some .local := by first | exact .inl rfl | exact .inr rfl) :
    wS X (.Assign [.Name x p'] e pos) D σ H := wS_of (ps_set hN hi hx wE_ok hs hf) (h F H g0.end _ fun v F2 H2 g t => k v F2 H2 g t)
theorem s_setM {i : Nat} (hN : X.N.Nodup) (hi : X.N[i]? = some x) (h : XM q X e σ F H ds) (g0 : Grow q F0 H0 F H) (k : ∀ l vs F2 H2, Grow q F H F2 H2 → H l = none → F2 l = none → H2 l = some (.lst vs) → DsAll F2 vs ds → D.nx (σ.set i (some (.ref l))) H2)
    (hx : Loc X.env.scope x := by first | exact Or.inl rfl | exact Or.inr rfl) (hs : swapsWith e (some (.Name x p')) pos.line X.env = pure false := by rfl) (hf : X.fn x = true ∨ X.env.scope.names.lookup x = some .local := by first | exact .inl rfl | exact .inr rfl) :
    wS X (.Assign [.Name x p'] e pos) D σ H := wS_of (ps_set hN hi hx wE_ok hs hf) (h F H g0.end _ fun l vs F2 H2 g h1 h2 h3 h4 => k l vs F2 H2 g h1 h2 h3 h4)
theorem s_ret (h : XP q X e σ F H T) (g0 : Grow q F0 H0 F H) (k : ∀ v F2 H2, Grow q F H F2 H2 → T v F2 → D.rt v H2) : wS X (.Return (some e) pos) D σ H := wS_of (ps_ret wE_ok) (h F H g0.end _ fun v F2 H2 g t => k v F2 H2 g t)
theorem s_retN (h : D.rt .non H) : wS X (.Return none pos) D σ H := wS_of ps_retN h
theorem s_expr (h : XP q X e σ F H T) (g0 : Grow q F0 H0 F H) (k : ∀ v F2 H2, Grow q F H F2 H2 → T v F2 → D.nx σ H2) (hs : swapsWith e none pos.line X.env = pure false := by rfl) : wS X (.Expr e pos) D σ H :=
  wS_of (ps_expr wE_ok hs) (h F H g0.end _ fun v F2 H2 g t => k v F2 H2 g t)
theorem s_if {u : Bool} (hc : XT q X c σ F H u) (g0 : Grow q F0 H0 F H) (h1 : u = true → ∀ F2 H2, Grow q F H F2 H2 → wSs X body D σ H2) (h2 : u = false → ∀ F2 H2, Grow q F H F2 H2 → wSs X els D σ H2) : wS X (.If c body els pos) D σ H :=
  wS_of (ps_if wT_ok wSs_ok wSs_ok) (hc F H g0.end _ fun F2 H2 g => by
    cases u with
    | true => exact h1 rfl F2 H2 g
    | false => exact h2 rfl F2 H2 g)
/-- a test that fails: nothing is done -/
theorem s_skip (hc : XT q X c σ F H false) (g0 : Grow q F0 H0 F H) (h2 : ∀ F2 H2, Grow q F H F2 H2 → D.nx σ H2) : wS X (.If c body [] pos) D σ H :=
  s_if hc g0 (fun h => nomatch h) fun _ F2 H2 g => ss_nil (h2 F2 H2 g)
theorem s_brk (h : D.bk σ H) : wS X (.Break pos) D σ H := wS_of ps_break h
theorem s_cont (h : D.ct σ H) : wS X (.Continue pos) D σ H := wS_of ps_continue h

/-- a for: Pv by the turn, the slots, the still part, the heap; F0, H0: the def's entry -/
theorem s_for {gx : TG} {asg : St → List V → St} {esf : PyData → List PyData} (hc : X.calm = true) (hp : PassesOwn (model X.prog X.w) X.A X.env X.xe) (hi : XI q X tg it σ F H ds) (hg : PG X tg gx) (hT : ∀ d, d ∈ ds → Tgt gx asg d (esf d)) (g0 : Grow q F0 H0 F H)
    (Pv : Nat → St → Hp → Hp → Prop) (hm : ∀ i σ' F' H' F'' H'', Pv i σ' F' H' → Grow q F' H' F'' H'' → Pv i σ' F'' H'') (h0 : Pv 0 σ F H)
    (hb : ∀ i d vs σ' F' H', ds[i]? = some d → Ex F F' → Grow q F0 H0 F' H' → Pv i σ' F' H' → DsAll F' vs (esf d) →
      wSs X body { D with nx := fun σ2 H2 => ∃ F2, Ex F' F2 ∧ Grow q F0 H0 F2 H2 ∧ Pv (i + 1) σ2 F2 H2, ct := fun σ2 H2 => ∃ F2, Ex F' F2 ∧ Grow q F0 H0 F2 H2 ∧ Pv (i + 1) σ2 F2 H2, bk := D.nx } (asg σ' vs) H')
    (hd : ∀ σ' F' H', Ex F F' → Grow q F0 H0 F' H' → Pv ds.length σ' F' H' → D.nx σ' H') (hs : ∀ x, foldedSetIterable it X.env x = pure x := by intro _; rfl) : wS X (.For tg it body [] pos) D σ H :=
  wS_of (ps_for hp hc wI_ok hg wSs_ok hs) (hi F H g0.end _ fun J F2 H2 g2 w => by
    refine ⟨fun i m σ' H' => m = ds.length - i ∧ i ≤ ds.length ∧ ∃ F', Ex F2 F' ∧ Grow q F0 H0 F' H' ∧ Pv i σ' F' H', ⟨ds.length, by simp, Nat.zero_le _, F2, Ex.refl _, g0.trans g2, hm _ _ _ _ _ _ h0 g2⟩, ?_⟩
    rintro i m σ' H' ⟨rfl, hi', F', e1, e2, pv⟩
    by_cases hlt : i < ds.length
    · refine .inr ⟨w.goes i H' hlt (e1.trans e2.s), fun σ2 H2 => ∃ F3, Ex F2 F3 ∧ Grow q F0 H0 F3 H2 ∧ Pv (i + 1) σ2 F3 H2, fun σ2 H2' kq => ?_, fun x H'' y => ?_⟩
      · obtain ⟨F3, a1, a2, a3⟩ := kq
        exact ⟨ds.length - (i + 1), by omega, rfl, hlt, F3, a1, a2, a3⟩
      · obtain ⟨F'', d, g3, hdd, hx⟩ := w.yields i H' x H'' F' hlt e1 e2.s y
        refine hT d (List.mem_of_getElem? hdd) F'' H'' x _ _ g3.s hx fun vs hvs => ?_
        have hh := hb i d vs σ' F'' H'' hdd (g2.f.trans (e1.trans g3.f)) (e2.trans (g3.weak e2.a1)) (hm i σ' F' H' F'' H'' pv (g3.weak e2.a1)) hvs
        refine ⟨fun pins s I => ?_⟩
        refine thn (hh.run pins s I) fun f s1 kq => ?_
        cases f with
        | next =>
          obtain ⟨σ2, H3, I2, F3, b1, b2, b3⟩ := kq
          exact ⟨σ2, H3, I2, F3, (e1.trans g3.f).trans b1, b2, b3⟩
        | cont =>
          obtain ⟨σ2, H3, I2, F3, b1, b2, b3⟩ := kq
          exact ⟨σ2, H3, I2, F3, (e1.trans g3.f).trans b1, b2, b3⟩
        | brk => exact kq
        | ret v => exact kq
    · have e : i = ds.length := by omega
      subst e
      exact .inl ⟨w.stops H' (e1.trans e2.s), hd σ' F' H' (g2.f.trans e1) e2 pv⟩)
/-- a while: W by a measure -/
theorem s_while (hp : PassesOwn (model X.prog X.w) X.A X.env X.xe) (W : Nat → St → Hp → Hp → Prop) (m0 : Nat) (h0 : W m0 σ F H) (g0 : Grow q F0 H0 F H)
    (ht : ∀ m σ' F' H', Ex F F' → Grow q F0 H0 F' H' → W m σ' F' H' → ∃ u, XT q X c σ' F' H' u ∧ (u = true → ∀ F2 H2, Grow q F' H' F2 H2 → ∃ N : St → Hp → Prop, (∀ σ3 H3, N σ3 H3 → ∃ m' F3, m' < m ∧ Ex F' F3 ∧ Grow q F0 H0 F3 H3 ∧ W m' σ3 F3 H3) ∧
        wSs X body { D with nx := N, ct := N, bk := D.nx } σ' H2) ∧ (u = false → ∀ F2 H2, Grow q F' H' F2 H2 → D.nx σ' H2)) : wS X (.While c body [] pos) D σ H :=
  wS_of (ps_while hp wT_ok wSs_ok) ⟨fun m σ' H' => ∃ F', Ex F F' ∧ Grow q F0 H0 F' H' ∧ W m σ' F' H', ⟨m0, F, Ex.refl _, g0, h0⟩, fun m σ' H' ⟨F', e1, e2, w⟩ => by
    obtain ⟨u, hu, h1, h2⟩ := ht m σ' F' H' e1 e2 w
    refine hu F' H' e2.end _ fun F2 H2 g => ?_
    cases u with
    | true =>
      obtain ⟨N, hN, hb⟩ := h1 rfl F2 H2 g
      refine ⟨N, fun σ3 H3 n => ?_, hb⟩
      obtain ⟨m', F3, a1, a2, a3, a4⟩ := hN σ3 H3 n
      exact ⟨m', a1, F3, e1.trans a2, a3, a4⟩
    | false => exact h2 rfl F2 H2 g⟩
/-- name.append(e): the list is q, which may change -/
theorem s_append {l : Addr} {i : Nat} {vs : List V} {apos cpos : Pos} (hN : X.N[i]? = some x) (hσ : σ[i]? = some (some (.ref l))) (hf : F l = none) (h0 : H0 l = none) (hH : H l = some (.lst vs)) (hz : vs.length < 100000) (h : XP q X e σ F H T) (g0 : Grow q F0 H0 F H)
    (k : ∀ v F2 H2, Grow q F H F2 H2 → T v F2 → F2 l = none → D.nx σ (upd H2 l (.lst (vs ++ [v])))) (hv : Vis X.env.scope x := by first | exact Or.inl rfl | exact Or.inr (Or.inl rfl) | exact Or.inr (Or.inr rfl))
    (hsw : swapsWith (.Call (.Attribute (.Name x p) "append" apos) [e] [] cpos) none pos.line X.env = pure false := by rfl)
    (hbase : attributeBase (.Name x p) "append" X.env (eval (.Name x p) X.env) = eval (.Name x p) X.env := by rfl)
    (hfew : ((backTo cpos (starEach [e] X.env)).all (fun x => !x.1) && (backToKw cpos (keywordEach [] X.env)).all (fun x => x.1.isSome)
      && decide (([e] : List Expr).length + ([] : List Keyword).length + (if ([] : List Keyword).isEmpty then 0 else 1) < 30)) = true := by rfl)
    (hline : (apos.endLine == cpos.line) = true := by rfl) (hst : starEach [e] X.env = [(false, eval e X.env)] := by rfl)
    (hd : (x == ("__debug__" : Str)) = false := by decide) (hcd : (x == ("__classdict__" : Str)) = false := by decide) :
    wS X (.Expr (.Call (.Attribute (.Name x p) "append" apos) [e] [] cpos) pos) D σ H :=
  wS_of (ps_expr (pe_bm PySem.F.plainAttrs_list PySem.F.slot_list_append PySem.F.type_list_append mt_append (pe_var hN hv hd hcd) (pa_cons wE_ok pa_nil hst) hbase hfew hline hst (by rfl)) hsw)
    ⟨_, hσ, .inl ⟨rfl, _, SqL.of hH⟩, h F H g0.end _ fun v F2 H2 g t => ⟨l, vs, v, rfl, rfl, g.h _ _ (g0.a0.ne h0) hH, sz_lt hz, k v F2 H2 g t (g.n l _ hf hH)⟩⟩
end
section
variable {q : Option Addr} {F0 H0 : Hp} {X : Cx} {σ : St} {F H : Hp} {x : Str} {d : PyData} {v : V} {pos : Pos}
/-- a name's data -/
theorem xv (i : Nat) (ht : Ds F v d) (hN : X.N[i]? = some x := by rfl) (hs : σ[i]? = some (some v) := by rfl) (hv : Vis X.env.scope x := by first | exact Or.inl rfl | exact Or.inr (Or.inl rfl) | exact Or.inr (Or.inr rfl))
    (hd : (x == ("__debug__" : Str)) = false := by decide) (hcd : (x == ("__classdict__" : Str)) = false := by decide) : XD q X (.Name x pos) σ F H d := x_var hN hs ht mono_dt hv hd hcd
end
theorem foldl_take {α β : Type} (f : β → α → β) (b : β) {l : List α} {i : Nat} {a : α} (h : l[i]? = some a) : (l.take (i + 1)).foldl f b = f ((l.take i).foldl f b) a := by
  rw [List.take_succ, h, List.foldl_append]; rfl
end R
end
section
set_option Elab.async false
set_option linter.all false
set_option maxRecDepth 100000
set_option maxHeartbeats 4000000
namespace K01
open PySem L2 Evl R
def top (i : Nat) : Stmt := PySem.Challenge.pw_rotatesafe_k03_whole_knots.main.body.getD i (.Pass ⟨0, 0, 0, 0⟩)

structure Row where
  sv : Str
  se : Str
  ch : List Str
  co : Int
def Row.d (r : Row) : PyData := .tuple [.str r.sv, .str r.se, .tuple (r.ch.map .str), .int r.co]
def rowsD (rs : List Row) : PyData := .list (rs.map Row.d)
def strsD (ss : List Str) : PyData := .list (ss.map .str)
def addNew (f : List Str) (s : Str) : List Str := f ++ (if s ∈ f then [] else [s])
def secrets (rs : List Row) : List Str := (rs.map (·.se)).foldl addNew []

theorem addNew_len : ∀ (l f : List Str), (l.foldl addNew f).length ≤ f.length + l.length
  | [], f => by simp
  | s :: l, f => by
    refine Nat.le_trans (addNew_len l _) ?_
    unfold addNew
    by_cases h : s ∈ f <;> simp [h] <;> omega
section
variable {P : Program} {w : World} {K : PySem.W.Frag} {mg : Str → Option Value} {base : Heap}
abbrev sSec : Stmt := top 54
theorem scSec : FnScope ["_law_rows", "_law_found", "_law_row"] ["_law_rows"] (defScope sSec) := ⟨rfl, rfl, rfl, by decide +kernel, rfl, by decide +kernel, by decide +kernel⟩
def pSec : List V → Hp → TyP → Prop := fun vs F T => ∃ v rs, vs = [v] ∧ Ds F v (rowsD rs) ∧ rs.length ≤ 100 ∧ T = dt (strsD (secrets rs))
theorem ok_sec {f : Addr} {fd : FuncData} (Fn : Fun K "_law_secrets" "_law_secrets" sSec f fd) : FnOk P w K mg base CX0 1 f fd ["_law_rows"] (spD pSec) := by
  refine Fn.ok scSec (fun vs H Q E h => ?_) (fun cdv A outer s H vs Q E hr h => ⟨_, wSs_ok, ?_⟩)
  · obtain ⟨F, T, _, ⟨v, rs, rfl, _⟩, _⟩ := h
    rfl
  obtain ⟨F, T, s0, ⟨v, rs, rfl, hv, hl, rfl⟩, k⟩ := h
  have g0 := Grow.start s0
  refine ss_cons (s_set (i := 1) scSec.nd rfl (XM.xd (xm_lst (ds := []) xa_nil)) g0 fun v1 F1 H1 g1 h1 => ?_)
  refine ss_cons (s_for (asg := fun σ vs => σ.set 2 vs.head?) (gx := gName 2) (esf := fun d => [d]) rfl PassesOwn.never (xi_lst (ds := rs.map Row.d) (xv 0 (hv.mono g1.f))) (pg_name (i := 2) scSec.nd rfl (.inl rfl)) (fun d _ => tgt_name) g1
    (fun i σ F' H' => ∃ v0 v1 v2, σ = [some v0, some v1, v2] ∧ Ds F' v1 (strsD (((rs.take i).map (·.se)).foldl addNew []))) ?_ ⟨_, _, _, rfl, h1⟩ ?_ ?_)
  · rintro i σ' F' H' F'' H'' ⟨v0, v1, v2, rfl, h⟩ g
    exact ⟨_, _, _, rfl, h.mono g.f⟩
  · rintro i d vs σ' F' H' hd e1 gg ⟨v0, v1, v2, rfl, h⟩ hvs
    obtain ⟨x, rfl, hx⟩ := hvs.one
    rw [List.getElem?_map] at hd
    obtain ⟨r, hr, rfl⟩ := Option.map_eq_some_iff.mp hd
    generalize hf : ((rs.take i).map (·.se)).foldl addNew [] = fo at h
    have hlen : fo.length ≤ 200 := by
      rw [← hf]
      exact Nat.le_trans (addNew_len _ _) (by simp; omega)
    refine ss_cons (s_set (i := 1) scSec.nd rfl (XM.xd (xm_cat (ds := fo.map .str) (es' := (if r.se ∈ fo then [] else [r.se]).map .str) (xv 1 h) (XD.eq (xd_ifexp (xt_cmp (c_inLS (xd_ixT (xv 2 hx) xd_int rfl) (xv 1 h))) (fun _ => XM.xd (xm_lst (ds := []) xa_nil)) (fun _ => XM.xd (xm_lst (ds := [.str r.se]) (xa_cons mono_dt (xd_ixT (xv 2 hx) xd_int rfl) xa_nil)))) ?_) ?_)) gg fun v F3 H3 g3 h3 => ss_nil ?_)
    · by_cases q : r.se ∈ fo <;> simp [q]
    · by_cases q : r.se ∈ fo <;> simp [q] <;> omega
    · refine ⟨F3, g3.f, gg.trans g3, v0, v, some x, rfl, ?_⟩
      rw [List.map_take, foldl_take addNew [] (show (rs.map (·.se))[i]? = some r.se by rw [List.getElem?_map, hr]; rfl), ← List.map_take, hf]
      rw [← List.map_append] at h3
      exact h3
  · rintro σ' F' H' e1 gg ⟨v0, v1, v2, rfl, h⟩
    rw [List.length_map, List.take_length] at h
    exact ss_cons (s_ret (xv 1 h) gg fun v F3 H3 g3 h3 => k v F3 H3 (gg.trans g3) h3)
end
end K01
end
section
set_option Elab.async false
set_option linter.all false
set_option maxRecDepth 100000
set_option maxHeartbeats 4000000
/-! numbers of which bounds are known, and the list that is drawn from -/
namespace R
open PySem L2 Evl
/-- an int with a fact -/
abbrev tZ (R : Int → Prop) : TyP := fun v _ => ∃ i, v = .int i ∧ R i
theorem mono_tZ {R : Int → Prop} : Mono (tZ R) := fun _ _ _ _ h => h
/-- the sequence at a, however it stands -/
abbrev tQ (K : PySem.W.Frag) (a : Addr) (xs : List V) : TyP := fun v F => v = .ref a ∧ SqL K F a xs
theorem mono_tQ {K : PySem.W.Frag} {a : Addr} {xs : List V} : Mono (tQ K a xs) := fun _ _ _ e h => ⟨h.1, ex_l e h.2⟩
def XTn (q : Option Addr) (X : Cx) (e : Expr) (σ : St) (F H : Hp) (R : Bool → Prop) : Prop := ∀ F1 H1, Grow q F H F1 H1 → ∀ Q : Bool → Hp → Prop, (∀ b F2 H2, Grow q F1 H1 F2 H2 → R b → Q b H2) → wT X e σ H1 Q
def XWn (q : Option Addr) (X : Cx) (e : Expr) (σ : St) (F H : Hp) (R : Bool → Prop) : Prop := ∀ F1 H1, Grow q F H F1 H1 → ∀ Q : Bool → Hp → Prop, (∀ b F2 H2, Grow q F1 H1 F2 H2 → R b → Q b H2) → wW X e σ H1 Q
section
variable {q : Option Addr} {F0 H0 : Hp} {X : Cx} {σ : St} {F H F' H' : Hp} {e a b c it tg elt iter o : Expr} {es ifs : List Expr} {rest body els : List Stmt} {st : Stmt} {D : Ends} {T U : TyP} {d d1 d2 : PyData} {ds : List PyData} {pos p p' : Pos} {k : Nat} {x : Str} {R0 R1 R2 : Int → Prop} {B1 B2 : Bool → Prop}
theorem XD.z {i : Int} (h : XD q X e σ F H (.int i)) : XP q X e σ F H (tZ fun j => j = i) := h.imp fun v F hd => ⟨i, ds_int hd, rfl⟩
theorem XP.zimp (h : XP q X e σ F H (tZ R1)) (k : ∀ i, R1 i → R0 i) : XP q X e σ F H (tZ R0) := h.imp fun v F ⟨i, e, r⟩ => ⟨i, e, k i r⟩
theorem xz_bin {op : Operator} {C : Int → Int → Prop} {f : Int → Int → Int} (ho : OpR X (binaryOp op) (L2.rI C fun i j => .int (f i j))) (hc : ∀ i j, R1 i → R2 j → C i j) (ha : XP q X a σ F H (tZ R1)) (hb : XP q X b σ F H (tZ R2)) : XP q X (.BinOp a op b pos) σ F H (tZ fun z => ∃ i j, z = f i j ∧ R1 i ∧ R2 j) :=
  x_bin ho mono_tZ ha hb fun x y F1 H1 g hx hy Q kq => by
    obtain ⟨i, rfl, hi⟩ := hx
    obtain ⟨j, rfl, hj⟩ := hy
    exact ⟨i, j, rfl, rfl, hc i j hi hj, kq _ F1 H1 g.end ⟨_, rfl, i, j, rfl, hi, hj⟩⟩
theorem xz_bin0 {op : Operator} {f : Int → Int → Int} (ho : OpR X (binaryOp op) (rI0 fun i j => .int (f i j))) (ha : XP q X a σ F H (tZ R1)) (hb : XP q X b σ F H (tZ R2)) : XP q X (.BinOp a op b pos) σ F H (tZ fun z => ∃ i j, z = f i j ∧ R1 i ∧ R2 j) :=
  x_bin ho mono_tZ ha hb fun x y F1 H1 g hx hy Q kq => by
    obtain ⟨i, rfl, hi⟩ := hx
    obtain ⟨j, rfl, hj⟩ := hy
    exact ⟨i, j, rfl, rfl, kq _ F1 H1 g.end ⟨_, rfl, i, j, rfl, hi, hj⟩⟩
theorem xz_add (ha : XP q X a σ F H (tZ R1)) (hb : XP q X b σ F H (tZ R2)) : XP q X (.BinOp a .Add b pos) σ F H (tZ fun z => ∃ i j, z = i + j ∧ R1 i ∧ R2 j) := xz_bin0 op_add ha hb
theorem xz_sub (ha : XP q X a σ F H (tZ R1)) (hb : XP q X b σ F H (tZ R2)) : XP q X (.BinOp a .Sub b pos) σ F H (tZ fun z => ∃ i j, z = i - j ∧ R1 i ∧ R2 j) := xz_bin0 op_sub ha hb
theorem xz_mul (hc : ∀ i j, R1 i → R2 j → CMul i j) (ha : XP q X a σ F H (tZ R1)) (hb : XP q X b σ F H (tZ R2)) : XP q X (.BinOp a .Mult b pos) σ F H (tZ fun z => ∃ i j, z = i * j ∧ R1 i ∧ R2 j) := xz_bin op_mul hc ha hb
theorem xz_mod (hc : ∀ j, R2 j → 0 < j) (ha : XP q X a σ F H (tZ R1)) (hb : XP q X b σ F H (tZ R2)) : XP q X (.BinOp a .Mod b pos) σ F H (tZ fun z => ∃ i j, z = i % j ∧ R1 i ∧ R2 j) := xz_bin op_mod (fun i j _ h => hc j h) ha hb
theorem xz_div (hc : ∀ j, R2 j → 0 < j ∧ j < 1073741824) (ha : XP q X a σ F H (tZ R1)) (hb : XP q X b σ F H (tZ R2)) : XP q X (.BinOp a .FloorDiv b pos) σ F H (tZ fun z => ∃ i j, z = i / j ∧ R1 i ∧ R2 j) := xz_bin op_fdiv (fun i j _ h => hc j h) ha hb
/-- tests with both answers -/
theorem XT.n {u : Bool} (h : XT q X e σ F H u) : XTn q X e σ F H (fun b => b = u) := fun F1 H1 g Q k => h F1 H1 g Q fun F2 H2 g2 => k u F2 H2 g2 rfl
theorem XTn.imp (h : XTn q X e σ F H B1) (k : ∀ b, B1 b → B2 b) : XTn q X e σ F H B2 := fun F1 H1 g Q kq => h F1 H1 g Q fun b F2 H2 g2 r => kq b F2 H2 g2 (k b r)
theorem xtn_cmpI {op : CmpOp} {f : Int → Int → Bool} (ho : OpR X (compareOp op) (rI0 fun i j => .bl (f i j))) (ha : XP q X a σ F H (tZ R1)) (hb : XP q X b σ F H (tZ R2)) (hm : behindInMarks op b = false := by exact nomark _) : XTn q X (.Compare a [op] [b] pos) σ F H (fun u => ∃ i j, u = f i j ∧ R1 i ∧ R2 j) := fun F1 H1 g Q kq =>
  wT_of (pt_cmpR ho wE_ok wE_ok hm) (ha F1 H1 g _ fun x F2 H2 g2 hx => hb F2 H2 (g.trans g2) _ fun y F3 H3 g3 hy => by
    obtain ⟨i, rfl, hi⟩ := hx
    obtain ⟨j, rfl, hj⟩ := hy
    exact ⟨i, j, rfl, rfl, _, rfl, kq _ F3 H3 (g2.trans g3) ⟨i, j, rfl, hi, hj⟩⟩)
theorem xwn_and1 (ha : XTn q X a σ F H B1) : XWn q X (.BoolOp .And [a] pos) σ F H B1 := fun F1 H1 g Q kq => wW_of (pw_and1 wT_ok) (ha F1 H1 g Q kq)
theorem xwn_and {r : List Expr} (ha : XTn q X a σ F H B1) (hb : B1 true → XWn q X (.BoolOp .And (b :: r) pos) σ F H B2) : XWn q X (.BoolOp .And (a :: b :: r) pos) σ F H (fun u => u = true → B1 true ∧ B2 true) := fun F1 H1 g Q kq =>
  wW_of (pw_and wT_ok wW_ok) (ha F1 H1 g _ fun u F2 H2 g2 hu => by
    cases u with
    | true => exact hb hu F2 H2 (g.trans g2) Q fun v F3 H3 g3 hv => kq v F3 H3 (g2.trans g3) fun e => ⟨hu, by rw [e] at hv; exact hv⟩
    | false => exact kq false F2 H2 g2 fun e => nomatch e)
theorem XWn.xt (h : XWn q X e σ F H B1) : XTn q X e σ F H B1 := fun F1 H1 g Q kq => ⟨fun pins s I => (h F1 H1 g Q kq).run _ pins s I⟩
theorem s_ifn (hc : XTn q X c σ F H B1) (g0 : Grow q F0 H0 F H) (h1 : B1 true → ∀ F2 H2, Grow q F H F2 H2 → wSs X body D σ H2) (h2 : B1 false → ∀ F2 H2, Grow q F H F2 H2 → wSs X els D σ H2) : wS X (.If c body els pos) D σ H :=
  wS_of (ps_if wT_ok wSs_ok wSs_ok) (hc F H g0.end _ fun u F2 H2 g hu => by
    cases u with
    | true => exact h1 hu F2 H2 g
    | false => exact h2 hu F2 H2 g)
theorem x_ifexpn (hc : XTn q X c σ F H B1) (h1 : B1 true → XP q X a σ F H T) (h2 : B1 false → XP q X b σ F H T) : XP q X (.IfExp c a b pos) σ F H T := fun F1 H1 g Q kq =>
  wE_of (pe_ifExp wT_ok wE_ok wE_ok) (hc F1 H1 g _ fun u F2 H2 g2 hu => by
    cases u with
    | true => exact h1 hu F2 H2 (g.trans g2) Q fun y F3 H3 g3 hy => kq y F3 H3 (g2.trans g3) hy
    | false => exact h2 hu F2 H2 (g.trans g2) Q fun y F3 H3 g3 hy => kq y F3 H3 (g2.trans g3) hy)
/-- a name's int -/
theorem xvz {v : Int} (i : Nat) (hN : X.N[i]? = some x := by rfl) (hs : σ[i]? = some (some (.int v)) := by rfl) (hv : Vis X.env.scope x := by first | exact Or.inl rfl | exact Or.inr (Or.inl rfl) | exact Or.inr (Or.inr rfl))
    (hd : (x == ("__debug__" : Str)) = false := by decide) (hcd : (x == ("__classdict__" : Str)) = false := by decide) : XP q X (.Name x pos) σ F H (tZ fun j => j = v) := x_var (T := tZ fun j => j = v) hN hs ⟨v, rfl, rfl⟩ mono_tZ hv hd hcd
theorem xz_c {i : Int} : XP q X (.Constant (.int i) k pos) σ F H (tZ fun j => j = i) := xd_int.z
theorem xz_abs (B : Bn X.mg) (ha : XP q X a σ F H (tZ R1)) (hg : Gl X "abs" := by rfl) (he : starEach [a] X.env = [(false, eval a X.env)] := by rfl) : XP q X (.Call (.Name "abs" p) [a] [] pos) σ F H (tZ fun z => ∃ i, z = (if i < 0 then -i else i) ∧ R1 i) :=
  x_callB call_abs B.abs (by decide +kernel) (xa_cons mono_tZ ha xa_nil he) (fun vs F1 H1 g h Q kq => by
    obtain ⟨v, rfl, i, rfl, hi⟩ := h.one
    exact ⟨i, rfl, kq _ F1 H1 g.end ⟨_, rfl, i, rfl, hi⟩⟩) hg (he := he)
/-- of the script -/
theorem xz_lenQ {l : Addr} {xs : List V} (B : Bn X.mg) (ha : XP q X a σ F H (tQ X.K l xs)) (hg : Gl X "len" := by rfl) (he : starEach [a] X.env = [(false, eval a X.env)] := by rfl) : XP q X (.Call (.Name "len" p) [a] [] pos) σ F H (tZ fun z => z = xs.length) :=
  x_callB call_len_seq B.len boot_len (xa_cons mono_tQ ha xa_nil he) (fun vs F1 H1 g h Q kq => by
    obtain ⟨v, rfl, rfl, hl⟩ := h.one
    exact ⟨l, xs, rfl, .inl (ex_l g.s hl), kq _ F1 H1 g.end ⟨_, rfl, rfl⟩⟩) hg (he := he)
theorem xz_sumQ {l : Addr} {ns : List Int} (hc : X.calm = true) (B : Bn X.mg) (ha : XP q X a σ F H (tQ X.K l (ns.map .int))) (hg : Gl X "sum" := by rfl) (he : starEach [a] X.env = [(false, eval a X.env)] := by rfl) : XP q X (.Call (.Name "sum" p) [a] [] pos) σ F H (tZ fun z => z = ns.sum) :=
  x_callB (cr_sum hc) B.sum (by decide +kernel) (xa_cons mono_tQ ha xa_nil he) (fun vs F1 H1 g h Q kq => by
    obtain ⟨v, rfl, rfl, hl⟩ := h.one
    exact ⟨l, ns, rfl, ex_l g.s hl, kq _ F1 H1 g.end ⟨_, rfl, rfl⟩⟩) hg (he := he)
theorem xz_ixQ {l : Addr} {ns : List Int} (hR : ∀ i, R1 i → 0 ≤ i ∧ i < ns.length) (ha : XP q X a σ F H (tQ X.K l (ns.map .int))) (hb : XP q X b σ F H (tZ R1)) (hs : PlainIx b := by exact fun _ _ => rfl) : XP q X (.Subscript a b pos) σ F H (tZ fun z => z ∈ ns) := fun F1 H1 g Q kq =>
  wE_of (pe_ix ix_list wE_ok wE_ok hs) (ha F1 H1 g _ fun x F2 H2 g2 ⟨e, hl⟩ => hb F2 H2 (g.trans g2) _ fun y F3 H3 g3 ⟨i, ey, hi⟩ => by
    subst e ey
    obtain ⟨h0, h1⟩ := hR i hi
    obtain ⟨j, rfl⟩ : ∃ j : Nat, i = (j : Int) := ⟨i.toNat, by omega⟩
    have hj : j < ns.length := by omega
    refine ⟨l, _, _, .int ns[j], rfl, rfl, ex_l (g3.f.trans g3.s) hl, atI_nat (by simp [hj]), kq _ F3 H3 (g2.trans g3) ⟨_, rfl, List.getElem_mem hj⟩⟩)
/-- the promise of a draw -/
def spTake : Sp := fun vs H Q _ => ∃ (a : Addr) (F : Hp) (m : Int), vs = [.ref a, .int m] ∧ Ex F H ∧ F a = none ∧ Alive (some a) H ∧ 0 < m ∧ ∀ r F2 H2, Grow (some a) F H F2 H2 → 0 ≤ r → r < m → Q (.int r) H2
theorem x_take {kk : Nat} {f l : Addr} {fd : FuncData} {ps : List Str} (G : FnOk X.prog X.w X.K X.mg X.base CX0 kk f fd ps spTake) (hr : Room kk X.A) (hm : X.mg x = some (.ref f)) (hk : PySem.W.keepIn X.K (.ref f) = true) (hb : Binds X.K fd ps [])
    (ha : XP (some l) X a σ F H (is (.ref l))) (hc : XP (some l) X c σ F H (tZ R1)) (hp : ∀ i, R1 i → 0 < i) (hl : F l = none) (hg : Gl X x := by rfl)
    (hdb : (x == ("__debug__" : Str)) = false := by decide) (he : starEach [a, c] X.env = (false, eval a X.env) :: starEach [c] X.env := by rfl) (he2 : starEach [c] X.env = [(false, eval c X.env)] := by rfl) (hpl : (backTo pos (starEach [c] X.env)).any (·.1) = false := by rfl) :
    XP (some l) X (.Call (.Name x p) [a, c] [] pos) σ F H (tZ fun z => ∃ m, R1 m ∧ 0 ≤ z ∧ z < m) := fun F1 H1 g Q kq =>
  wE_of (pe_call G hr hg hm hk hb .nil pass0 (pa_cons wE_ok (pa_cons wE_ok pa_nil he2) he) hdb he hpl) (ha F1 H1 g _ fun v F2 H2 g2 hv => hc F2 H2 (g.trans g2) _ fun y F3 H3 g3 ⟨m, ey, hm⟩ => by
    cases hv
    subst ey
    have gg := g.trans (g2.trans g3)
    obtain ⟨ns, hq, _⟩ := gg.a0 l rfl
    exact ⟨l, F3, m, rfl, g3.s, gg.n l _ hl hq, g3.a1, hp m hm, fun r F4 H4 g4 h0 h1 => kq _ F4 H4 ((g2.trans g3).trans g4) ⟨r, rfl, m, hm, h0, h1⟩⟩)
end
theorem _root_.L2.Room.u65 {k : Nat} {A : Around} (r : Room k A) : A.units + 65 < cLine := by have := r.un; omega
/-- a def of the text that may be called -/
def Cal (P : Program) (w : World) (K : PySem.W.Frag) (mg : Str → Option Value) (base : Heap) (x : Str) (kk : Nat) (ps : List Str) (sp : Sp) : Prop :=
  ∃ f fd, FnOk P w K mg base CX0 kk f fd ps sp ∧ mg x = some (.ref f) ∧ PySem.W.keepIn K (.ref f) = true ∧ Binds K fd ps []
/-- a def of the top -/
def Dfn (K : PySem.W.Frag) (mg : Str → Option Value) (x : Str) (st : Stmt) (ps : List Str) : Prop := ∃ f fd, Fun K x x st f fd ∧ mg x = some (.ref f) ∧ Binds K fd ps []
theorem Dfn.cal {P : Program} {w : World} {K : PySem.W.Frag} {mg : Str → Option Value} {base : Heap} {x : Str} {st : Stmt} {kk : Nat} {ps : List Str} {sp : Sp} (h : Dfn K mg x st ps) (ok : ∀ f fd, Fun K x x st f fd → FnOk P w K mg base CX0 kk f fd ps sp) : Cal P w K mg base x kk ps sp := by
  obtain ⟨f, fd, F, m, b⟩ := h
  exact ⟨f, fd, ok f fd F, m, F.kp, b⟩
section
variable {q : Option Addr} {X : Cx} {σ : St} {F H : Hp} {e a c : Expr} {es : List Expr} {T : TyP} {pos p : Pos} {x : Str} {ps : List Str} {kk j : Nat} {R1 : Int → Prop} {l : Addr}
theorem xc {P : List V → Hp → TyP → Prop} {Ts : List TyP} (C : Cal X.prog X.w X.K X.mg X.base x kk ps (spD P)) (hr : Room j X.A) (hj : kk ≤ j) (ha : XA q X (e :: es) σ F H Ts) (hs : ∀ vs F1, Ex F F1 → AllT Ts vs F1 → P vs F1 T) (hg : Gl X x := by rfl)
    (hdb : (x == ("__debug__" : Str)) = false := by decide) (he : starEach (e :: es) X.env = (false, eval e X.env) :: starEach es X.env := by rfl) (hpl : (backTo pos (starEach es X.env)).any (·.1) = false := by rfl) :
    XP q X (.Call (.Name x p) (e :: es) [] pos) σ F H T := by
  obtain ⟨f, fd, G, hm, hk, hb⟩ := C
  exact x_callD G (hr.mono hj) hm hk hb ha hs hg hdb he hpl
theorem xtk (C : Cal X.prog X.w X.K X.mg X.base x kk ps spTake) (hr : Room j X.A) (hj : kk ≤ j) (ha : XP (some l) X a σ F H (is (.ref l))) (hc : XP (some l) X c σ F H (tZ R1)) (hp : ∀ i, R1 i → 0 < i) (hl : F l = none) (hg : Gl X x := by rfl)
    (hdb : (x == ("__debug__" : Str)) = false := by decide) (he : starEach [a, c] X.env = (false, eval a X.env) :: starEach [c] X.env := by rfl) (he2 : starEach [c] X.env = [(false, eval c X.env)] := by rfl) (hpl : (backTo pos (starEach [c] X.env)).any (·.1) = false := by rfl) :
    XP (some l) X (.Call (.Name x p) [a, c] [] pos) σ F H (tZ fun z => ∃ m, R1 m ∧ 0 ≤ z ∧ z < m) := by
  obtain ⟨f, fd, G, hm, hk, hb⟩ := C
  exact x_take G (hr.mono hj) hm hk hb ha hc hp hl hg hdb he he2 hpl
end
/-! ### written ints in a display -/
def cExt : Expr → Int × Nat × Pos
  | .Constant (.int i) k p => (i, k, p)
  | _ => (0, 0, ⟨0, 0, 0, 0⟩)
def cMk (c : Int × Nat × Pos) : Expr := .Constant (.int c.1) c.2.1 c.2.2
section
variable {q : Option Addr} {X : Cx} {σ : St} {F H : Hp}
theorem xa_ints : ∀ cs : List (Int × Nat × Pos), XA q X (cs.map cMk) σ F H (cs.map fun c => dt (.int c.1))
  | [] => xa_nil
  | c :: cs => xa_cons mono_dt xd_int (xa_ints cs) (by show starEach (Expr.Constant _ _ _ :: _) X.env = _; rfl)
theorem xa_ints' {es : List Expr} {ds : List PyData} (h : (es.map cExt).map cMk = es) (hd : (es.map cExt).map (fun c => PyData.int c.1) = ds) : XA q X es σ F H (ds.map dt) := by
  have := xa_ints (q := q) (X := X) (σ := σ) (F := F) (H := H) (es.map cExt)
  rw [h] at this
  rw [← hd, List.map_map]
  exact this
end
section
variable {q : Option Addr} {X : Cx} {σ : St} {F H F0 H0 : Hp} {e a b : Expr} {es : List Expr} {T : TyP} {pos p px py pt pt2 : Pos} {x y : Str} {l : Addr} {vs : List V} {ds : List PyData} {D : Ends} {kt k2 : Nat}
theorem Grow.freeze (g : Grow q F0 H0 F H) (h0 : H0 l = none) (hf : F l = none) (hH : H l = some (.lst vs)) (hd : DsAll F vs ds) : Grow q F0 H0 (upd F l (.lst vs)) H ∧ Ds (upd F l (.lst vs)) (.ref l) (.list ds) :=
  ⟨frz g h0 hf hH, .lst upd_same (hd.mono (Ex.new hf))⟩
/-- return of a list that was made here -/
theorem s_retM {i : Nat} (g : Grow q F0 H0 F H) (h0 : H0 l = none) (hf : F l = none) (hH : H l = some (.lst vs)) (hd : DsAll F vs ds) (k : ∀ F2, Grow q F0 H0 F2 H → Ds F2 (.ref l) (.list ds) → D.rt (.ref l) H) (hN : X.N[i]? = some x) (hs : σ[i]? = some (some (.ref l)))
    (hv : Vis X.env.scope x := by first | exact Or.inl rfl | exact Or.inr (Or.inl rfl) | exact Or.inr (Or.inr rfl)) (hdb : (x == ("__debug__" : Str)) = false := by decide) (hcd : (x == ("__classdict__" : Str)) = false := by decide) : wS X (.Return (some (.Name x p)) pos) D σ H :=
  wS_of (ps_ret (pe_var hN hv hdb hcd)) ⟨_, hs, k _ (g.freeze h0 hf hH hd).1 (g.freeze h0 hf hH hd).2⟩
/-- x, y = a, b, b a new list -/
theorem s_parM {i j : Nat} (hc : X.calm = true) (hN : X.N.Nodup) (hi : X.N[i]? = some x) (hj : X.N[j]? = some y) (hij : i ≠ j) (hx : X.env.scope.names.lookup x = some .local) (hy : X.env.scope.names.lookup y = some .local) (g0 : Grow q F0 H0 F H) (mo : Mono T) (ha : XP q X a σ F H T) (hb : XM q X b σ F H ds)
    (k : ∀ v l vs F2 H2, Grow q F H F2 H2 → T v F2 → H l = none → F2 l = none → H2 l = some (.lst vs) → DsAll F2 vs ds → D.nx ((σ.set i (some v)).set j (some (.ref l))) H2)
    (hw : swappedStores [.Tuple [.Name x px, .Name y py] kt pt] (.Tuple [a, b] k2 pt2) X.env = pure (some [x, y]))
    (h1 : starEach [a, b] X.env = (false, eval a X.env) :: starEach [b] X.env := by rfl) (h2 : starEach [b] X.env = [(false, eval b X.env)] := by rfl)
    (hs : swapsWithSole [.Tuple [.Name x px, .Name y py] kt pt] (.Tuple [a, b] k2 pt2) pos.line X.env = pure false := by rfl) : wS X (.Assign [.Tuple [.Name x px, .Name y py] kt pt] (.Tuple [a, b] k2 pt2) pos) D σ H :=
  wS_of (ps_par hc hN hi hj hij hx hy (pa_cons wE_ok (pa_cons wE_ok pa_nil h2) h1) hw hs) (ha F H g0.end _ fun v F2 H2 g2 hv => hb F2 H2 g2 _ fun l vs F3 H3 g3 e1 e2 e3 e4 => ⟨v, .ref l, rfl, k v l vs F3 H3 (g2.trans g3) (mo _ _ _ g3.f hv) (g2.fresh e1) e2 e3 e4⟩)
theorem s_par {i j : Nat} {U : TyP} (hc : X.calm = true) (hN : X.N.Nodup) (hi : X.N[i]? = some x) (hj : X.N[j]? = some y) (hij : i ≠ j) (hx : X.env.scope.names.lookup x = some .local) (hy : X.env.scope.names.lookup y = some .local) (g0 : Grow q F0 H0 F H) (mo : Mono T) (ha : XP q X a σ F H T) (hb : ∀ F2 H2, Grow q F H F2 H2 → XP q X b σ F2 H2 U)
    (k : ∀ v w F2 H2, Grow q F H F2 H2 → T v F2 → U w F2 → D.nx ((σ.set i (some v)).set j (some w)) H2)
    (hw : swappedStores [.Tuple [.Name x px, .Name y py] kt pt] (.Tuple [a, b] k2 pt2) X.env = pure (some [x, y]))
    (h1 : starEach [a, b] X.env = (false, eval a X.env) :: starEach [b] X.env := by rfl) (h2 : starEach [b] X.env = [(false, eval b X.env)] := by rfl)
    (hs : swapsWithSole [.Tuple [.Name x px, .Name y py] kt pt] (.Tuple [a, b] k2 pt2) pos.line X.env = pure false := by rfl) : wS X (.Assign [.Tuple [.Name x px, .Name y py] kt pt] (.Tuple [a, b] k2 pt2) pos) D σ H :=
  wS_of (ps_par hc hN hi hj hij hx hy (pa_cons wE_ok (pa_cons wE_ok pa_nil h2) h1) hw hs) (ha F H g0.end _ fun v F2 H2 g2 hv => hb F2 H2 g2 F2 H2 g2.end _ fun w F3 H3 g3 hw => ⟨v, w, rfl, k v w F3 H3 (g2.trans g3) (mo _ _ _ g3.f hv) hw⟩)
end
/-- a new list of which something is known -/
def XMn (q : Option Addr) (X : Cx) (e : Expr) (σ : St) (F H : Hp) (R : List PyData → Prop) : Prop := ∀ F1 H1, Grow q F H F1 H1 → ∀ Q : VK, (∀ p vs ds F2 H2, Grow q F1 H1 F2 H2 → H1 p = none → F2 p = none → H2 p = some (.lst vs) → DsAll F2 vs ds → R ds → Q (.ref p) H2) → wE X e σ H1 Q
section
variable {q : Option Addr} {X : Cx} {σ : St} {F H F0 H0 : Hp} {e a b : Expr} {T U : TyP} {pos p p' : Pos} {x : Str} {ds : List PyData} {D : Ends}
theorem xmn_cat {R1 R2 : List PyData → Prop} (ha : XP q X a σ F H (fun v F => ∃ ds, Ds F v (.list ds) ∧ R1 ds)) (hb : XP q X b σ F H (fun v F => ∃ ds, Ds F v (.list ds) ∧ R2 ds)) (hl : ∀ ds es, R1 ds → R2 es → ds.length + es.length ≤ 100000) : XMn q X (.BinOp a .Add b pos) σ F H (fun zs => ∃ ds es, zs = ds ++ es ∧ R1 ds ∧ R2 es) := fun F1 H1 g Q kq =>
  wE_of (pe_op op_cat wE_ok wE_ok) (ha F1 H1 g _ fun x F2 H2 g2 ⟨ds, hx, r1⟩ => hb F2 H2 (g.trans g2) _ fun y F3 H3 g3 ⟨es, hy, r2⟩ => by
    obtain ⟨p, xs, rfl, h1, h2⟩ := ds_lst (hx.mono g3.f)
    obtain ⟨p', ys, rfl, h3, h4⟩ := ds_lst hy
    refine ⟨p, p', xs, ys, rfl, rfl, g3.s _ _ h1, g3.s _ _ h3, sz_of (by rw [h2.length, h4.length]; exact hl ds es r1 r2), fun l hl' => ?_⟩
    exact kq l _ _ F3 _ ((g2.trans g3).trans (g3.mut hl')) ((g2.trans g3).fresh hl') (fresh_back g3.s hl') upd_same (h2.append h4) ⟨ds, es, rfl, r1, r2⟩)
theorem s_setMn {i : Nat} {RR : List PyData → Prop} (hN : X.N.Nodup) (hi : X.N[i]? = some x) (h : XMn q X e σ F H RR) (g0 : Grow q F0 H0 F H) (k : ∀ l vs ds F2 H2, Grow q F H F2 H2 → H l = none → F2 l = none → H2 l = some (.lst vs) → DsAll F2 vs ds → RR ds → D.nx (σ.set i (some (.ref l))) H2)
    (hx : Loc X.env.scope x := by first | exact Or.inl rfl | exact Or.inr rfl) (hs : swapsWith e (some (.Name x p')) pos.line X.env = pure false := by rfl) (hf : X.fn x = true ∨ X.env.scope.names.lookup x = some .local := by first | exact .inl rfl | exact .inr rfl) :
    wS X (.Assign [.Name x p'] e pos) D σ H := wS_of (ps_set hN hi hx wE_ok hs hf) (h F H g0.end _ fun l vs ds F2 H2 g h1 h2 h3 h4 r => k l vs ds F2 H2 g h1 h2 h3 h4 r)
theorem s_retV {i : Nat} {v : V} (hN : X.N[i]? = some x) (hs : σ[i]? = some (some v)) (k : D.rt v H) (hv : Vis X.env.scope x := by first | exact Or.inl rfl | exact Or.inr (Or.inl rfl) | exact Or.inr (Or.inr rfl)) (hdb : (x == ("__debug__" : Str)) = false := by decide) (hcd : (x == ("__classdict__" : Str)) = false := by decide) :
    wS X (.Return (some (.Name x p)) pos) D σ H := wS_of (ps_ret (pe_var hN hv hdb hcd)) ⟨_, hs, k⟩
end
end R
end
section
set_option Elab.async false
set_option linter.all false
set_option maxRecDepth 100000
set_option maxHeartbeats 4000000
namespace K01
open PySem L2 Evl R
section
variable {P : Program} {w : World} {K : PySem.W.Frag} {mg : Str → Option Value} {base : Heap}
/-! _law_draw -/
abbrev sDraw : Stmt := top 48
theorem scDraw : FnScope ["_law_cell", "_law_k", "_law_many", "_law_primes"] ["_law_cell", "_law_k", "_law_many"] (defScope sDraw) := ⟨rfl, rfl, rfl, by decide +kernel, rfl, by decide +kernel, by decide +kernel⟩
def pDraw : List V → Hp → TyP → Prop := fun vs F T => ∃ c k m : Int, vs = [.int c, .int k, .int m] ∧ 0 < m ∧ T = tZ fun z => 0 ≤ z ∧ z < m
def primes : List Int := [1000003, 1000033, 1000037, 1000039, 1000081, 1000099, 1000117, 1000121, 1000133, 1000151, 1000159, 1000171, 1000183, 1000187, 1000193, 1000199]
theorem ok_draw {f : Addr} {fd : FuncData} (Fn : Fun K "_law_draw" "_law_draw" sDraw f fd) : FnOk P w K mg base CX0 1 f fd ["_law_cell", "_law_k", "_law_many"] (spD pDraw) := by
  refine Fn.ok scDraw (fun vs H Q E h => ?_) (fun cdv A outer s H vs Q E hr h => ⟨_, wSs_ok, ?_⟩)
  · obtain ⟨F, T, _, ⟨c, k, m, rfl, _⟩, _⟩ := h
    rfl
  obtain ⟨F, T, s0, ⟨c, k, m, rfl, hm, rfl⟩, kq⟩ := h
  have g0 := Grow.start s0
  refine ss_cons (s_set (i := 3) scDraw.nd rfl (xd_tup (ds := primes.map .int) ?_ (by decide)) g0 fun v1 F1 H1 g1 h1 => ?_)
  · exact xa_ints' rfl rfl
  have hi : ∃ p : Int, atI (primes.map PyData.int) (k % 16) = some (.int p) ∧ 0 < p := by
    obtain ⟨j, hj⟩ : ∃ j : Nat, k % 16 = (j : Int) := ⟨(k % 16).toNat, by omega⟩
    have hlt : j < primes.length := by show j < 16; omega
    rw [hj]
    have : ∀ x ∈ primes, 0 < x := by decide
    exact ⟨primes[j], atI_nat (by rw [List.getElem?_map, List.getElem?_eq_getElem hlt]; rfl), this _ (List.getElem_mem _)⟩
  obtain ⟨p, hp, hp0⟩ := hi
  refine ss_cons (s_ret (XP.zimp (R0 := fun z => 0 ≤ z ∧ z < m) (xz_mod (R2 := fun j => j = m) (fun j hj => by rw [hj]; exact hm) (xz_mod (R2 := fun j => j = p) (fun j hj => by rw [hj]; exact hp0) (xz_add (xz_mul (fun i j _ hj => .inr (by rw [hj]; decide)) (xvz 0) xz_c) (xz_mul (fun i j _ hj => .inr (by rw [hj]; decide)) (xvz 1) xz_c)) (XD.z (xd_ixT (xv 3 h1) (xd_I op_mod (fun _ => .int _) (by show (0 : Int) < 16; decide) (xv 1 (.int k)) xd_int) hp))) (xvz 2)) ?_) g1 fun v F2 H2 g2 hv => kq v F2 H2 (g1.trans g2) hv)
  rintro z ⟨i, j, rfl, _, rfl⟩
  exact ⟨Int.emod_nonneg _ (by omega), Int.emod_lt_of_pos _ hm⟩
end
end K01
end
section
set_option Elab.async false
set_option linter.all false
set_option maxRecDepth 100000
set_option maxHeartbeats 4000000
namespace K01
open PySem L2 Evl R
section
variable {P : Program} {w : World} {K : PySem.W.Frag} {mg : Str → Option Value} {base : Heap}
/-! _law_cell_at -/
abbrev sCell : Stmt := top 49
theorem scCell : FnScope ["_law_script", "_law_k"] ["_law_script", "_law_k"] (defScope sCell) := ⟨rfl, rfl, rfl, by decide +kernel, rfl, by decide +kernel, by decide +kernel⟩
def pCell (K : PySem.W.Frag) : List V → Hp → TyP → Prop := fun vs F T => ∃ (a : Addr) (ns : List Int) (k : Int), vs = [.ref a, .int k] ∧ SqL K F a (ns.map .int) ∧ 0 ≤ k ∧ T = tZ fun z => 0 ≤ z
theorem ok_cell (CD : Cal P w K mg base "_law_draw" 1 ["_law_cell", "_law_k", "_law_many"] (spD pDraw)) (B : Bn mg) {f : Addr} {fd : FuncData} (Fn : Fun K "_law_cell_at" "_law_cell_at" sCell f fd) : FnOk P w K mg base CX0 2 f fd ["_law_script", "_law_k"] (spD (pCell K)) := by
  refine Fn.ok scCell (fun vs H Q E h => ?_) (fun cdv A outer s H vs Q E hr h => ⟨_, wSs_ok, ?_⟩)
  · obtain ⟨F, T, _, ⟨a, ns, k, rfl, _⟩, _⟩ := h
    rfl
  obtain ⟨F, T, s0, ⟨a, ns, k, rfl, hs, hk, rfl⟩, kq⟩ := h
  have g0 := Grow.start s0
  have hsv : ∀ F1, Ex F F1 → tQ K a (ns.map .int) (.ref a) F1 := fun F1 e => ⟨rfl, ex_l e hs⟩
  refine ss_cons (s_ifn (xtn_cmpI (f := fun i j => decide (i < j)) (R1 := fun i => i = k) (R2 := fun j => j = (ns.map V.int).length) op_lt (xvz 1) (xz_lenQ B (x_var (i := 0) rfl rfl (hsv F (Ex.refl _)) mono_tQ))) g0 (fun hb F1 H1 g1 => ?_) (fun hb F1 H1 g1 => ?_))
  · obtain ⟨i, j, hij, rfl, rfl⟩ := hb
    have hlt : i < ns.length := by have := of_decide_eq_true hij.symm; rwa [List.length_map] at this
    refine ss_cons (s_ret (XP.zimp (R0 := fun z => 0 ≤ z) (xz_abs B (xz_ixQ (l := a) (ns := ns) (R1 := fun j => j = i) (fun j hj => by rw [hj]; exact ⟨hk, hlt⟩) (x_var (i := 0) rfl rfl (hsv F1 g1.f) mono_tQ) (xvz 1))) ?_) (g0.trans g1) fun v F2 H2 g2 hv => kq v F2 H2 (g1.trans g2) hv)
    rintro z ⟨i, rfl, _⟩
    split <;> omega
  · refine ss_nil ?_
    refine ss_cons (s_ret (XP.zimp (R0 := fun z => 0 ≤ z) (xc (T := tZ fun z => 0 ≤ z ∧ z < 999983) CD hr (by decide) (xa_cons mono_tZ (xz_add (xz_abs B (xz_sumQ rfl B (x_var (i := 0) rfl rfl (hsv F1 g1.f) mono_tQ))) (xz_mul (fun i j hi _ => .inl (by rw [hi]; decide)) xz_c (xvz 1))) (xa_cons mono_tZ (xvz 1) (xa_cons mono_tZ xz_c xa_nil))) ?_) (fun i h => h.1)) g1 fun v F2 H2 g2 hv => kq v F2 H2 (g1.trans g2) hv)
    rintro vs F1 e ht
    obtain ⟨v1, v2, v3, rfl, ⟨i1, rfl, _⟩, ⟨i2, rfl, _⟩, i3, rfl, rfl⟩ := ht.three
    exact ⟨i1, i2, 999983, rfl, by decide, rfl⟩
/-! _law_take -/
abbrev sTake : Stmt := top 51
theorem scTake : FnScope ["_law_draws", "_law_many"] ["_law_draws", "_law_many"] (defScope sTake) := ⟨rfl, rfl, rfl, by decide +kernel, rfl, by decide +kernel, by decide +kernel⟩
theorem intsDp {K : PySem.W.Frag} {H : Hp} : ∀ ns : List Int, DpAll K H (ns.map .int) (ns.map .int)
  | [] => .nil
  | n :: ns => .cons (.int n) (intsDp ns)
theorem shaped_ints (ns : List Int) : SeqAt.shaped (.list (ns.map .int)) = true := by
  have h1 : ∀ ns : List Int, PyData.canLayAll0 (ns.map .int) = true ∧ PyData.depthAll (ns.map .int) ≤ 0 := by
    intro ns
    induction ns with
    | nil => exact ⟨by simp [PyData.canLayAll0], by simp [PyData.depthAll]⟩
    | cons n ns ih => exact ⟨by simp [PyData.canLayAll0, PyData.canLay0, ih.1], by simp only [List.map_cons, PyData.depthAll, PyData.depth]; omega⟩
  obtain ⟨a, b⟩ := h1 ns
  have h2 : PyData.depth (.list (ns.map .int)) ≤ 64 := by
    simp only [PyData.depth]
    omega
  show (PyData.canLay0 (.list (ns.map .int)) && decide (PyData.depth (.list (ns.map .int)) ≤ 64)) = true
  rw [Bool.and_eq_true]
  exact ⟨by simp only [PyData.canLay0]; exact a, decide_eq_true h2⟩
theorem ok_take {f : Addr} {fd : FuncData} (Fn : Fun K "_law_take" "_law_take" sTake f fd) : FnOk P w K mg base CX0 1 f fd ["_law_draws", "_law_many"] spTake := by
  refine Fn.ok scTake (fun vs H Q E h => ?_) (fun cdv A outer s H vs Q E hr h => ?_)
  · obtain ⟨a, F, m, rfl, _⟩ := h
    rfl
  obtain ⟨a, F, m, rfl, s0, hFa, al, hm, kq⟩ := h
  obtain ⟨ns, hH, hlen, hpos⟩ := id al a rfl
  refine ⟨_, pss_one (ps_ret (pe_ifExp (pt_cmpR (op_neD hr.units) (pv 0) (pe_lst pa_nil) (nomark _)) (pe_op op_mod (pe_bm PySem.F.plainAttrs_list PySem.F.slot_list_pop PySem.F.type_list_pop mt_popAt (pv 0) (pa_cons pe_int pa_nil)) (pv 1)) pe_int)), ?_⟩
  refine ⟨_, rfl, Nat.zero_le _, fun p hp => ?_⟩
  have hap : a ≠ p := ne_of_none hH hp
  have hH1 : (upd H p (.lst [])) a = some (.lst (ns.map .int)) := by rw [upd_ne hap]; exact hH
  refine ⟨.list (ns.map .int), .list [], .lst (SqL.of hH1) (intsDp ns), .lst (SqL.of upd_same) .nil, shaped_ints ns, shaped_ints [], _, rfl, ?_⟩
  have g0 : Grow (some a) F H F H := Grow.refl s0 al
  have g1 : Grow (some a) F H F (upd H p (.lst [])) := g0.mut hp
  cases ns with
  | nil =>
    refine iteF ?_
    exact kq 0 F _ g1 (by decide) hm
  | cons n ns =>
    refine iteT ?_
    refine ⟨_, rfl, .inl ⟨rfl, _, SqL.of hH1⟩, a, _, 0, 0, .int n, rfl, rfl, hH1, by decide, by decide, ?_, rfl, _, rfl, _, _, rfl, rfl, hm, ?_⟩
    · simp [seqIndex?]
    · refine kq _ F _ ⟨Ex.refl _, fun b o hb h => ?_, fun b o h => ?_, fun b o h => ?_, fun b o h _ _ => h, al, fun b e => ?_⟩ (Int.emod_nonneg _ (by omega)) (Int.emod_lt_of_pos _ hm)
      · rw [upd_ne (fun e => hb (by rw [e]))]; exact g1.h b o hb h
      · by_cases e : b = a
        · exact ⟨_, by rw [e]; exact upd_same⟩
        · rw [upd_ne e]; exact g1.v b o h
      · rw [upd_ne (ne_of_none h hFa)]; exact g1.s b o h
      · cases e
        exact ⟨ns, upd_same, by simp at hlen; omega, fun z hz => hpos z (List.mem_cons_of_mem _ hz)⟩
end
end K01
end
section
set_option Elab.async false
set_option linter.all false
set_option maxRecDepth 100000
set_option maxHeartbeats 4000000
namespace K01
open PySem L2 Evl R
section
variable {P : Program} {w : World} {K : PySem.W.Frag} {mg : Str → Option Value} {base : Heap}
/-! _law_digits -/
abbrev sDig : Stmt := top 50
theorem scDig : FnScope ["_law_script", "_law_at", "_law_many", "_law_base", "_law_cell", "_law_found", "_law_left_here", "_law_turn", "_law_blend", "_law_more"] ["_law_script", "_law_at", "_law_many", "_law_base"] (defScope sDig) := ⟨rfl, rfl, rfl, by decide +kernel, rfl, by decide +kernel, by decide +kernel⟩
def pDig (K : PySem.W.Frag) : List V → Hp → TyP → Prop := fun vs F T => ∃ (a : Addr) (ns : List Int) (k : Int) (m : Nat) (b : Int), vs = [.ref a, .int k, .int m, .int b] ∧ SqL K F a (ns.map .int) ∧ 0 ≤ k ∧ m ≤ 1000 ∧ 0 < b ∧ b < 1073741824 ∧
  T = fun v F => ∃ ms : List Int, Ds F v (.list (ms.map .int)) ∧ ms.length = m ∧ ∀ n ∈ ms, 0 ≤ n
theorem ok_dig (CC : Cal P w K mg base "_law_cell_at" 2 ["_law_script", "_law_k"] (spD (pCell K))) (CD : Cal P w K mg base "_law_draw" 1 ["_law_cell", "_law_k", "_law_many"] (spD pDraw)) (B : Bn mg) {f : Addr} {fd : FuncData} (Fn : Fun K "_law_digits" "_law_digits" sDig f fd) : FnOk P w K mg base CX0 3 f fd ["_law_script", "_law_at", "_law_many", "_law_base"] (spD (pDig K)) := by
  refine Fn.ok scDig (fun vs H Q E h => ?_) (fun cdv A outer s H vs Q E hr h => ⟨_, wSs_ok, ?_⟩)
  · obtain ⟨F, T, _, ⟨a, ns, k, m, b, rfl, _⟩, _⟩ := h
    rfl
  obtain ⟨F, T, s0, ⟨a, ns, k, m, b, rfl, hs, hk, hm, hb0, hb1, rfl⟩, kq⟩ := h
  have g0 := Grow.start s0
  refine ss_cons (s_parM (i := 4) (j := 5) (T := tZ fun z => 0 ≤ z) (ds := []) rfl scDig.nd rfl rfl (by decide) rfl rfl g0 mono_tZ (xc (Ts := [tQ K a (ns.map .int), tZ fun z => z = k]) CC hr (by decide) (xa_cons mono_tQ (x_var (i := 0) rfl rfl ⟨rfl, hs⟩ mono_tQ) (xa_cons mono_tZ (xvz 1) xa_nil)) ?_) (xm_lst (ds := []) xa_nil) (fun vc l xs F1 H1 g1 hc h0l hF1 hH1 hx => ?_) rfl)
  · rintro vs F1 e ht
    obtain ⟨v1, v2, rfl, ⟨rfl, h1⟩, i2, rfl, rfl⟩ := ht.two
    exact ⟨a, ns, i2, rfl, h1, hk, rfl⟩
  cases hx
  obtain ⟨c, rfl, hc⟩ := hc
  refine ss_cons (s_set (i := 6) (T := tZ fun _ => True) scDig.nd rfl (XP.zimp (xz_sub (xvz 4) (xz_bin op_pow (R1 := fun i => i = 10) (R2 := fun j => j = 18) (by rintro i j rfl rfl; exact ⟨by decide, by decide, by decide⟩) xz_c xz_c)) fun _ _ => trivial) g1 fun vl F2 H2 g2 hl => ?_)
  obtain ⟨left, rfl, _⟩ := hl
  have gg2 := g1.trans g2
  have hF2 : F2 l = none := g2.n l _ hF1 hH1
  have hH2 := g2.h l _ (by simp) hH1
  refine ss_cons (s_for (F0 := F) (H0 := H) (asg := fun σ vs => σ.set 7 vs.head?) (gx := gName 7) (esf := fun d => [d]) rfl PassesOwn.never (xi_rng (n := m) B (xv 2 (.int m)) (by omega)) (pg_name (i := 7) scDig.nd rfl (.inl rfl)) (fun d _ => tgt_name) gg2
    (fun i σ F' H' => ∃ (left : Int) (t u z : Option V) (ms : List Int), σ = [some (.ref a), some (.int k), some (.int m), some (.int b), some (.int c), some (.ref l), some (.int left), t, u, z] ∧ F' l = none ∧ H' l = some (.lst (ms.map .int)) ∧ ms.length = i ∧ ∀ n ∈ ms, 0 ≤ n) ?_ ⟨left, none, none, none, [], rfl, hF2, hH2, rfl, by simp⟩ ?_ ?_)
  · rintro i σ' F' H' F'' H'' ⟨left, t, u, z, ms, rfl, h1, h2, h3, h4⟩ g
    exact ⟨left, t, u, z, ms, rfl, g.n l _ h1 h2, g.h l _ (by simp) h2, h3, h4⟩
  · rintro i d vs σ' F' H' hd e1 gg ⟨left, t, u, z, ms, rfl, hF', hH', hlen, hpos⟩ hvs
    have him : i < m := by
      have := (List.getElem?_eq_some_iff.mp hd).1
      simpa using this
    rw [List.getElem?_map, List.getElem?_range him] at hd
    cases hd
    obtain ⟨x, rfl, hx⟩ := hvs.one
    cases hx
    refine ss_cons (s_ifn (B1 := fun u => u = decide ((10 : Int) ^ 18 ≤ c)) (XTn.imp (xtn_cmpI (f := fun i j => decide (j ≤ i)) op_ge (xvz 4) (xz_bin op_pow (R1 := fun i => i = 10) (R2 := fun j => j = 18) (by rintro i j rfl rfl; exact ⟨by decide, by decide, by decide⟩) xz_c xz_c)) ?_) gg (fun hb F3 H3 g3 => ?_) (fun hb F3 H3 g3 => ?_))
    · rintro u ⟨i, j, rfl, rfl, i', j', rfl, rfl, rfl⟩
      rfl
    · have hF3 := g3.n l _ hF' hH'
      have hH3 := g3.h l _ (by simp) hH'
      refine ss_cons (s_append (l := l) (i := 5) (T := tZ fun z => 0 ≤ z) rfl rfl hF3 h0l hH3 (by simp; omega) (XP.zimp (xz_mod (R2 := fun j => j = b) (fun j hj => by omega) (xvz 6) (xvz 3)) ?_) (gg.trans g3) fun v F4 H4 g4 hv hF4 => ?_)
      · rintro z ⟨i, j, rfl, _, rfl⟩
        exact Int.emod_nonneg _ (by omega)
      obtain ⟨r, rfl, hr0⟩ := hv
      have gg4 := (gg.trans (g3.trans g4)).put (o := .lst (ms.map V.int ++ [.int r])) h0l hF4
      refine ss_cons (s_set (i := 6) (T := tZ fun _ => True) scDig.nd rfl (XP.zimp (xz_div (R2 := fun j => j = b) (fun j hj => by omega) (xvz 6) (xvz 3)) fun _ _ => trivial) gg4 fun vl F5 H5 g5 hl => ss_nil ?_)
      obtain ⟨left', rfl, _⟩ := hl
      refine ss_nil ⟨F5, g3.f.trans (g4.f.trans g5.f), gg4.trans g5, left', _, u, z, ms ++ [r], rfl, g5.n l _ hF4 upd_same, by rw [List.map_append]; exact g5.h l _ (by simp) upd_same, by simp [hlen], ?_⟩
      intro n hn
      rcases List.mem_append.mp hn with h | h
      · exact hpos n h
      · simp at h; rw [h]; exact hr0
    · have hF3 := g3.n l _ hF' hH'
      have hH3 := g3.h l _ (by simp) hH'
      have hcl : c < 10 ^ 18 := by
        have := of_decide_eq_false hb.symm
        omega
      have gg3 := gg.trans g3
      refine ss_cons (s_set (i := 8) (T := tZ fun z => 0 ≤ z ∧ z < 999983) scDig.nd rfl (xc CD hr (by decide) (xa_cons mono_tZ (xz_mul (R1 := fun z => 0 ≤ z ∧ z < 10 ^ 18 + 977000) (fun i j hi _ => .inl ⟨by omega, by omega⟩) (XP.zimp (xz_add (xvz 4) (xz_mul (fun i j hi _ => .inl (by rw [hi]; exact ⟨by decide, by decide⟩)) xz_c (xvz 7))) (by rintro z ⟨i1, j1, rfl, rfl, i2, j2, rfl, rfl, rfl⟩; omega)) (xz_add (xz_add (xvz 4) (xz_mul (fun i j hi _ => .inl (by rw [hi]; exact ⟨by decide, by decide⟩)) xz_c (xvz 7))) xz_c)) (xa_cons mono_tZ (xz_add (xz_mod (fun j hj => by rw [hj]; decide) (xvz 7) xz_c) xz_c) (xa_cons mono_tZ xz_c xa_nil))) ?_) gg3 fun vb F4 H4 g4 hv => ?_)
      · rintro vs F1 e ht
        obtain ⟨v1, v2, v3, rfl, ⟨i1, rfl, _⟩, ⟨i2, rfl, _⟩, i3, rfl, rfl⟩ := ht.three
        exact ⟨i1, i2, 999983, rfl, by decide, rfl⟩
      obtain ⟨bl, rfl, hbl⟩ := hv
      have gg4 := gg3.trans g4
      refine ss_cons (s_set (i := 9) (T := tZ fun z => 0 ≤ z ∧ z < 1000003) scDig.nd rfl (xc CD hr (by decide) (xa_cons mono_tZ (xz_add (xz_mul (R1 := fun z => 0 ≤ z ∧ z < 10 ^ 18 + 977000) (fun i j hi _ => .inl ⟨by omega, by omega⟩) (XP.zimp (xz_add (xvz 4) (xz_mul (fun i j hi _ => .inl (by rw [hi]; exact ⟨by decide, by decide⟩)) xz_c (xvz 7))) (by rintro z ⟨i1, j1, rfl, rfl, i2, j2, rfl, rfl, rfl⟩; omega)) (xz_add (xvz 4) xz_c)) (xz_mul (fun i j hi _ => .inl (by rw [hi]; exact ⟨by decide, by decide⟩)) xz_c (xvz 7))) (xa_cons mono_tZ (xz_add (xz_mod (fun j hj => by rw [hj]; decide) (xvz 7) xz_c) xz_c) (xa_cons mono_tZ xz_c xa_nil))) ?_) gg4 fun vm F5 H5 g5 hv => ?_)
      · rintro vs F1 e ht
        obtain ⟨v1, v2, v3, rfl, ⟨i1, rfl, _⟩, ⟨i2, rfl, _⟩, i3, rfl, rfl⟩ := ht.three
        exact ⟨i1, i2, 1000003, rfl, by decide, rfl⟩
      obtain ⟨mo, rfl, hmo⟩ := hv
      have gg5 := gg4.trans g5
      have g35 := g4.trans g5
      have hF5 := g35.n l _ hF3 hH3
      have hH5 := g35.h l _ (by simp) hH3
      refine ss_cons (s_append (l := l) (i := 5) (T := tZ fun z => 0 ≤ z) rfl rfl hF5 h0l hH5 (by simp; omega) (XP.zimp (xz_mod (R2 := fun j => j = b) (fun j hj => by omega) (xz_add (xz_mul (fun i j _ hj => .inr (by rw [hj]; exact ⟨by decide, by decide⟩)) (xvz 8) xz_c) (xvz 9)) (xvz 3)) ?_) gg5 fun v F6 H6 g6 hv hF6 => ss_nil ?_)
      · rintro z ⟨i, j, rfl, _, rfl⟩
        exact Int.emod_nonneg _ (by omega)
      obtain ⟨r, rfl, hr0⟩ := hv
      refine ss_nil ⟨F6, g3.f.trans (g35.f.trans g6.f), (gg5.trans g6).put h0l hF6, left, _, _, _, ms ++ [r], rfl, hF6, by rw [List.map_append]; exact upd_same, by simp [hlen], ?_⟩
      intro n hn
      rcases List.mem_append.mp hn with h | h
      · exact hpos n h
      · simp at h; rw [h]; exact hr0
  · rintro σ' F' H' e1 gg ⟨left, t, u, z, ms, rfl, hF', hH', hlen, hpos⟩
    refine ss_cons (s_retM (i := 5) gg h0l hF' hH' (DsAll.of_ints ms) (fun F3 g3 h3 => kq _ F3 H' g3 ⟨ms, h3, by simpa using hlen, hpos⟩) rfl rfl)
end
end K01
end
section
set_option Elab.async false
set_option linter.all false
set_option maxRecDepth 100000
set_option maxHeartbeats 4000000
/-! enumerate(tuple) -/
namespace R
open PySem PySem.Spec L2 PyProof.Rows Evl
open Sem (wp)
set_option maxHeartbeats 1000000 in
theorem meets_enum1 {v : Value} {o : Obj} {H : Heap → Prop} (B : Begins v o H) :
    Meets (Builtin.«enumerate.__new__» ⟨[.type "enumerate", v], []⟩) (fun _ R s => H s.heap ∧
      R (.ok (.ret (.ref (s.heap.push o).objs.size))) { s with heap := (s.heap.push o).push { cls := .type "enumerate", data := .fields #[.none, .bool false, .ref s.heap.objs.size, rawInt 0, .none, .none] } }) :=
  .of_wp fun prog w A R s h => by
    obtain ⟨hp, g, d, tk, os⟩ := s; obtain ⟨h1, h⟩ := h
    have hsub := sub_enumerate
    have q1 : ∀ {A' : Around} {E : Value → Shared → Prop} {Q : Value → Shared → Prop}, Q (.ref hp.objs.size) ⟨hp.push o, g, d, tk, os⟩ → wpAny (model prog w) A' (pyIter v) Q E ⟨hp, g, d, tk, os⟩ :=
      fun q => B.iter prog w _ _ ⟨hp, g, d, tk, os⟩ _ h1 q
    wp_walk using q1
    refine wpAny_stack_any fun st => wpAny_pure ?_
    split
    · rename_i c _ _ _ _ _
      cases (c == Value.type "enumerate")
      · wp_walk using q1
        exact ⟨_, rfl, h⟩
      · wp_walk using q1
        exact ⟨_, rfl, h⟩
    · wp_walk using q1
      exact ⟨_, rfl, h⟩
section
variable {prog : Program} {w : World} {A : Around} {E : Value → Shared → Prop} {s : Shared}
theorem call_enum1 {v : Value} {o : Obj} {H : Heap → Prop} {Q : Value → Shared → Prop} (B : Begins v o H) (h1 : H s.heap)
    (h : ∀ h', IsEnum h' (s.heap.objs.size + 1) s.heap.objs.size 0 .none → h'.get? s.heap.objs.size = some o → h'.objs.size = s.heap.objs.size + 2 →
      (∀ b o, s.heap.get? b = some o → h'.get? b = some o) → Q (.ref (s.heap.objs.size + 1)) { s with heap := h' }) :
    wpAny (model prog w) A (call (.type "enumerate") [v]) Q E s := by
  refine callType_new F.called_enumerate (by decide) (F.typeCall_enumerate_1 _) (F.newCall_enumerate_1 _) (fun obj => F.args_object_init_2 obj _) F.entry_enumerate_new
    (meets_enum1 B) ⟨h1, ?_⟩
  have hz : (s.heap.push o).objs.size = s.heap.objs.size + 1 := Heap.size_push ..
  show _ ∧ _
  rw [hz]
  have he : IsEnum ((s.heap.push o).push { cls := .type "enumerate", data := .fields #[.none, .bool false, .ref s.heap.objs.size, rawInt 0, .none, .none] }) (s.heap.objs.size + 1) s.heap.objs.size 0 .none := by
    have := Heap.get?_push_size (s.heap.push o) (o := { cls := .type "enumerate", data := .fields #[.none, .bool false, .ref s.heap.objs.size, rawInt 0, .none, .none] }) rfl
    rw [hz] at this; exact this
  refine ⟨⟨_, he, rfl⟩, h _ he (Heap.get?_push_of_some _ (Heap.get?_push_size _ B.free)) (by rw [Heap.size_push, hz]) fun b o x => Heap.get?_push_of_some _ (Heap.get?_push_of_some _ x)⟩
end
def IteT (K : PySem.W.Frag) (a : Addr) : It :=
  ⟨fun i H => ∃ (xs : List V) (x : V), SqT K H a xs ∧ xs[i]? = some x, fun i H v H' => ∃ T x, v = .ref T ∧ H T = none ∧ H' = upd H T (.tup [.int (i : Nat), x]) ∧ ∀ xs, SqT K H a xs → xs[i]? = some x, fun i H => ∃ xs : List V, SqT K H a xs ∧ xs.length = i⟩
theorem turn_enumT {P : Program} {w : World} {K : PySem.W.Frag} {elts : List Expr} {kk : Nat} {tpos : Pos} (a e it : Addr) :
    Turn P w K (.Tuple elts kk tpos) (IteT K a) [e, it] e (fun i h => (∃ old, IsEnum h e it ((i : Nat) : Int) old) ∧ h.IsTupleIter it a i ∧ e ≠ it ∧ e ≠ a ∧ a ≠ it) where
  mem := by simp
  obj := fun i h st b hb => by
    obtain ⟨⟨old, he⟩, ⟨o, ho, hc, hd⟩, _⟩ := st
    have e' : b = e ∨ b = it := by simpa using hb
    rcases e' with z | z
    · rw [z]; exact ⟨_, he, fun v q => nomatch q⟩
    · rw [z]; exact ⟨o, ho, fun v q => by rw [hd] at q; cases q⟩
  keep := fun i h h' st k => let ⟨⟨old, he⟩, hi, hne⟩ := st; ⟨⟨old, k e (by simp) _ he⟩, hi.at fun o q => k it (by simp) o q, hne⟩
  item := by
    intro X hP hw hK hc i pins s σ H E I hf st hg
    subst hP hw hK
    obtain ⟨⟨old, he⟩, hit, hne, hea, hai⟩ := st
    obtain ⟨xs, x, hq, hx⟩ := hg
    obtain ⟨its, rv, p, hz⟩ := I.tuple hq
    obtain ⟨u, hu, ru⟩ := rv.get hx
    have hel : e < s.heap.objs.size := Heap.lt_size he
    have hil : it < s.heap.objs.size := by obtain ⟨_, q, _⟩ := hit; exact Heap.lt_size q
    have hii : i < its.toArray.size := by
      rw [List.size_toArray]
      exact (List.getElem?_eq_some_iff.mp hu).1
    refine wpAny_pyNext_enum_itemD (Draws.tuple (show X.A.in1.handled = none from I.ok.hd hc) it a hai its.toArray) he ⟨hit, (show s.heap.IsTuple a its.toArray from p)⟩ hii hne (by simp [hne, hea]) fun y h' tk hy ho hit' hT hsz hk => ?_
    have hyu : y = u := by
      rw [List.getElem?_toArray, hu] at hy
      exact (Option.some.inj hy).symm
    subst hyu
    refine ⟨_, rfl, wpAny_letOwnedTupleGo_enum (s := { s with heap := h', toks := tk + 1 }) ho fun h'' he' sb => ?_⟩
    have hT2 : h''.get? s.heap.objs.size = some { cls := .type "tuple", data := .seq #[.int i tk, y] } := (sb.2 _ (Nat.ne_of_gt hel)).trans hT
    have new : ObjOk X.prog X.w (upd H s.heap.objs.size (.tup [.int (i : Nat), x])) h'' s.heap.objs.size (.tup [.int (i : Nat), x]) :=
      ⟨by show 2 ≤ sizeLine; decide, [.int i tk, y], .cons ⟨_, rfl⟩ (.cons ru .nil), ⟨_, hT2, rfl, _, rfl⟩⟩
    have I1 : Inv X pins σ (upd H s.heap.objs.size (.tup [.int (i : Nat), x])) { s with heap := h'', toks := tk + 1 } :=
      I.turnedNew (ch := [e, it]) (fun b ob hb q => (sb.2 b (fun z => hb (by simp [z]))).trans (hk b ob (fun z => hb (by simp [z])) (fun z => hb (by simp [z])) q)) hf (Nat.le_refl _) new
    refine ⟨.ref s.heap.objs.size, _, I1, rfl, ⟨_, x, rfl, I.hok.fresh (Nat.le_refl _), rfl, fun ys hy => by rw [I.tuple_inj hy hq]; exact hx⟩, ⟨⟨y, ?_⟩, hit'.1.at fun o q => (sb.2 it (Ne.symm hne)).trans q, hne, hea, hai⟩, fun b hb => ?_⟩
    · have e1 : ((i + 1 : Nat) : Int) = (i : Int) + 1 := by omega
      rw [e1]; exact he'
    · have hb' : b < s.heap.objs.size := by
        have e' : b = e ∨ b = it := by simpa using hb
        rcases e' with z | z
        · rw [z]; exact hel
        · rw [z]; exact hil
      rw [upd_ne (Nat.ne_of_lt hb')]
      exact (hf b hb).1
  done := by
    intro X hP hw hK hc i pins s σ H E I hf st hg
    subst hP hw hK
    obtain ⟨⟨old, he⟩, hit, hne, hea, hai⟩ := st
    obtain ⟨xs, hq, hx⟩ := hg
    obtain ⟨its, rv, p, hz⟩ := I.tuple hq
    obtain ⟨f0, f1, f2, f3, f4, f5⟩ := hf it (by simp)
    have hl := rv.length
    have hst : s.heap.IsTupleIter it a its.toArray.size ∧ s.heap.IsTuple a its.toArray := ⟨by rw [List.size_toArray, ← hl, hx]; exact hit, p⟩
    exact wpAny_pyNext_enum_endD (Draws.tuple (show X.A.in1.handled = none from I.ok.hd hc) it a hai its.toArray) he hst fun h' eb => ⟨rfl, I.turned (t' := s.toks) (fun b o hb e => eb b o hb e) f0 f1 f3 f4 f5⟩
  self := fun A i s Q E st h => let ⟨⟨_, he⟩, _⟩ := st; wpAny_pyIter_enum he h
def iEnumT (K : PySem.W.Frag) (ta : TA) : TI := fun σ H R => ta σ H fun vs H1 => ∃ a xs, vs = [.ref a] ∧ SqT K H1 a xs ∧ R (IteT K a) H1
theorem pi_enumT {X : Cx} {e : Expr} {ta : TA} {p pos tpos : Pos} {elts : List Expr} {kk : Nat} (hg : Gl X "enumerate") (hm : X.mg "enumerate" = none) (ha : PA X [e] ta) (hs : starEach [e] X.env = [(false, eval e X.env)] := by rfl) :
    PI X (.Tuple elts kk tpos) (.Call (.Name "enumerate" p) [e] [] pos) (iEnumT X.K ta) := by
  refine ⟨fun pins s σ H R I h => ?_⟩
  refine Call_ (ld_blt I hg hm boot_enumerate (PyProof.Rows.callWith_type1 (thn (ha.run pos pins s σ H _ I h) fun us s1 ⟨vs, H1, I1, r1, q1⟩ => ?_) hs rfl))
  obtain ⟨a, xs, ex, hq, q⟩ := q1
  subst ex
  cases r1 with
  | cons r rr =>
    cases rr
    cases r
    obtain ⟨its, rv, p', hz⟩ := I1.tuple hq
    have hal : a < s1.heap.objs.size := by obtain ⟨_, q, _⟩ := p'; exact Heap.lt_size q
    refine call_enum1 (begins_tuple a its.toArray) (show s1.heap.IsTuple a its.toArray from p') fun h' he hit hsz hk => wpAny_pyIter_enum he ?_
    have I2 : Inv X pins σ H1 { s1 with heap := h' } := I1.kept (t' := s1.toks) hk
    refine ⟨s1.heap.objs.size + 1, [s1.heap.objs.size + 1, s1.heap.objs.size], _, _, H1, rfl, I2, turn_enumT a (s1.heap.objs.size + 1) s1.heap.objs.size, ⟨⟨.none, he⟩, ⟨_, hit, rfl, rfl⟩, Nat.succ_ne_self _, fun e => ?_, fun e => ?_⟩, fun b hb => ?_, q⟩
    · rw [← e] at hal
      exact absurd hal (Nat.not_lt.mpr (Nat.le_succ _))
    · rw [e] at hal; exact absurd hal (Nat.lt_irrefl _)
    · have e' : b = s1.heap.objs.size + 1 ∨ b = s1.heap.objs.size := by simpa using hb
      have hle : s1.heap.objs.size ≤ b := by
        rcases e' with z | z
        · rw [z]; exact Nat.le_add_right _ _
        · rw [z]; exact Nat.le_refl _
      exact I1.fpOk hle (I1.hok.fresh hle)
section
variable {q : Option Addr} {X : Cx} {σ : L2.St} {F H : Hp} {a : Expr} {ds : List PyData} {pos p : Pos}
theorem xi_enumT {elts : List Expr} {kk : Nat} {tpos : Pos} (B : Bn X.mg) (h : XD q X a σ F H (.tuple ds)) (hg : Gl X "enumerate" := by rfl) (he : starEach [a] X.env = [(false, eval a X.env)] := by rfl) :
    XI q X (.Tuple elts kk tpos) (.Call (.Name "enumerate" p) [a] [] pos) σ F H (ds.zipIdx.map fun q => .tuple [.int (q.2 : Nat), q.1]) := fun F1 H1 g R r =>
  wI_of (pi_enumT hg B.enumerate (pa_cons wE_ok pa_nil he) he) (h F1 H1 g _ fun v F2 H2 g2 hv => by
    obtain ⟨a, xs, rfl, h1, h2⟩ := ds_tup hv
    refine ⟨a, xs, rfl, SqT.of (g2.s _ _ h1), r _ F2 H2 g2 ?_⟩
    refine ⟨fun i H hi e => ?_, fun H e => ⟨xs, SqT.of (e _ _ h1), by rw [h2.length]; simp⟩, fun i H x H' F' hi e1 e2 y => ?_⟩
    · have hi' : i < xs.length := by rw [h2.length]; simpa using hi
      exact ⟨xs, xs[i], SqT.of (e _ _ h1), by simp [hi']⟩
    · simp at hi
      obtain ⟨T, y2, rfl, hT, rfl, e4⟩ := y
      obtain ⟨d, hd, hx⟩ := h2.get (e4 xs (SqT.of (e2 _ _ (e1 _ _ h1))))
      refine ⟨upd F' T (.tup [.int (i : Nat), y2]), .tuple [.int (i : Nat), d], (Grow.start e2).new hT, ?_, .tup upd_same (.cons (.int _) (.cons (hx.mono (e1.trans (Ex.new (fresh_back e2 hT)))) .nil))⟩
      simp [hd])
end
end R
end
section
set_option Elab.async false
set_option linter.all false
set_option maxRecDepth 100000
set_option maxHeartbeats 4000000
namespace K01
open PySem L2 Evl R
section
variable {P : Program} {w : World} {K : PySem.W.Frag} {mg : Str → Option Value} {base : Heap}
/-! _law_pool -/
abbrev sPool : Stmt := top 52
theorem scPool : FnScope ["_law_script", "_law_bases", "_law_found", "_law_at", "_law_base"] ["_law_script", "_law_bases"] (defScope sPool) := ⟨rfl, rfl, rfl, by decide +kernel, rfl, by decide +kernel, by decide +kernel⟩
def spPool (K : PySem.W.Frag) : Sp := fun vs H Q _ => ∃ (F : Hp) (a : Addr) (ns : List Int) (vb : V) (bs : List Int), vs = [.ref a, vb] ∧ Ex F H ∧ SqL K F a (ns.map .int) ∧ Ds F vb (.tuple (bs.map .int)) ∧ bs.length ≤ 4 ∧ (∀ b ∈ bs, 0 < b ∧ b < 1073741824) ∧
  ∀ (p : Addr) (ms : List Int) (F2 H2 : Hp), Grow none F H F2 H2 → H p = none → F2 p = none → H2 p = some (.lst (ms.map .int)) → ms.length ≤ 600 → (∀ n ∈ ms, (0 : Int) ≤ n) → Q (.ref p) H2
theorem ok_pool (CG : Cal P w K mg base "_law_digits" 3 ["_law_script", "_law_at", "_law_many", "_law_base"] (spD (pDig K))) (B : Bn mg) {f : Addr} {fd : FuncData} (Fn : Fun K "_law_pool" "_law_pool" sPool f fd) : FnOk P w K mg base CX0 4 f fd ["_law_script", "_law_bases"] (spPool K) := by
  refine Fn.ok scPool (fun vs H Q E h => ?_) (fun cdv A outer s H vs Q E hr h => ⟨_, wSs_ok, ?_⟩)
  · obtain ⟨F, a, ns, vb, bs, rfl, _⟩ := h
    rfl
  obtain ⟨F, a, ns, vb, bs, rfl, s0, hs, hvb, hbl, hbb, kq⟩ := h
  have g0 := Grow.start s0
  refine ss_cons (s_setM (i := 2) (ds := []) scPool.nd rfl (xm_lst (ds := []) xa_nil) g0 fun l xs F1 H1 g1 h0l hF1 hH1 hx => ?_)
  cases hx
  refine ss_cons (s_for (F0 := F) (H0 := H) (asg := fun σ vs => (σ.set 3 vs[0]?).set 4 vs[1]?) (gx := gTup K 2 (gCons (gName 3) (gCons (gName 4) gNil))) (esf := fun d => match d with | .tuple es => es | _ => []) rfl PassesOwn.never (xi_enumT (ds := bs.map .int) B (xv 1 (hvb.mono g1.f))) (pg_tup rfl (pgs_cons (pg_name (i := 3) scPool.nd rfl (.inl rfl)) (pgs_cons (pg_name (i := 4) scPool.nd rfl (.inl rfl)) pgs_nil))) (fun d hd => ?_) g1
    (fun i σ F' H' => ∃ (l : Addr) (t u : Option V) (ms : List Int), σ = [some (.ref a), some vb, some (.ref l), t, u] ∧ H l = none ∧ F' l = none ∧ H' l = some (.lst (ms.map .int)) ∧ ms.length = 150 * i ∧ ∀ n ∈ ms, 0 ≤ n) ?_ ⟨l, none, none, [], rfl, h0l, hF1, hH1, rfl, by simp⟩ ?_ ?_)
  · obtain ⟨⟨d1, j⟩, hm, rfl⟩ := List.mem_map.mp hd
    exact tgt_tup2
  · rintro i σ' F' H' F'' H'' ⟨l, t, u, ms, rfl, h0, h1, h2, h3, h4⟩ g
    exact ⟨l, t, u, ms, rfl, h0, g.n l _ h1 h2, g.h l _ (by simp) h2, h3, h4⟩
  · rintro i d vs σ' F' H' hd e1 gg ⟨l, t, u, ms, rfl, h0, hF', hH', hlen, hpos⟩ hvs
    rw [List.getElem?_map] at hd
    obtain ⟨⟨d1, j⟩, hm, rfl⟩ := Option.map_eq_some_iff.mp hd
    rw [List.getElem?_zipIdx] at hm
    obtain ⟨d2, hd2, he⟩ := Option.map_eq_some_iff.mp hm
    cases he
    rw [List.getElem?_map] at hd2
    obtain ⟨b, hb, rfl⟩ := Option.map_eq_some_iff.mp hd2
    have hb2 := hbb b (List.mem_of_getElem? hb)
    have hi4 : i < bs.length := (List.getElem?_eq_some_iff.mp hb).1
    obtain ⟨x, y, rfl, hx, hy⟩ := hvs.two
    cases hx
    cases hy
    obtain ⟨gf, hdl⟩ := gg.freeze h0 hF' hH' (DsAll.of_ints ms)
    refine ss_cons (s_setMn (i := 2) scPool.nd rfl (xmn_cat (R1 := fun ds => ds = ms.map .int) (R2 := fun ds => ∃ ks : List Int, ds = ks.map .int ∧ ks.length = 150 ∧ ∀ n ∈ ks, 0 ≤ n) (XP.imp (xv 2 hdl) fun v F h => ⟨_, h, rfl⟩) (XP.imp (xc (T := fun v F => ∃ ms : List Int, Ds F v (.list (ms.map .int)) ∧ ms.length = 150 ∧ ∀ n ∈ ms, 0 ≤ n) CG hr (by decide) (xa_cons mono_tQ (x_var (T := tQ K a (ns.map .int)) (i := 0) rfl rfl ⟨rfl, ex_l ((g1.f.trans e1).trans (Ex.new hF')) hs⟩ mono_tQ) (xa_cons mono_tZ (xvz 3) (xa_cons mono_tZ xz_c (xa_cons mono_tZ (xvz 4) xa_nil)))) ?_) fun v F ⟨ks, h1, h2, h3⟩ => ⟨_, h1, ks, rfl, h2, h3⟩) ?_) gf fun l2 vs2 ds2 F3 H3 g3 e1' e2' e3' e4' r => ss_nil ?_)
    · rintro vs F1 e ht
      obtain ⟨v1, v2, v3, v4, rfl, ⟨rfl, h1⟩, ⟨i2, rfl, rfl⟩, ⟨i3, rfl, rfl⟩, i4, rfl, rfl⟩ := ht.four
      exact ⟨a, ns, _, 150, _, rfl, h1, by omega, by decide, hb2.1, hb2.2, rfl⟩
    · rintro ds es rfl ⟨ks, rfl, h1, _⟩
      rw [List.length_map, List.length_map, hlen, h1]
      omega
    · obtain ⟨ds, es, rfl, rfl, ks, rfl, h1, h2⟩ := r
      rw [← List.map_append] at e4'
      rw [DsAll.ints e4'] at e3'
      refine ⟨F3, (Ex.new hF').trans g3.f, gf.trans g3, l2, _, _, ms ++ ks, rfl, gf.fresh e1', e2', e3', by simp [hlen, h1]; omega, ?_⟩
      intro n hn
      rcases List.mem_append.mp hn with h | h
      · exact hpos n h
      · exact h2 n h
  · rintro σ' F' H' e1 gg ⟨l, t, u, ms, rfl, h0, hF', hH', hlen, hpos⟩
    refine ss_cons (s_retV (i := 2) rfl rfl (kq l ms F' H' gg h0 hF' hH' ?_ hpos))
    rw [hlen, List.length_map, List.length_zipIdx, List.length_map]
    omega
end
end K01
end
section
set_option Elab.async false
set_option linter.all false
set_option maxRecDepth 100000
set_option maxHeartbeats 4000000
namespace R
open PySem L2 Evl
section
variable {q : Option Addr} {X : Cx} {σ : L2.St} {F H F0 H0 : Hp} {e a b c it tg elt iter : Expr} {es : List Expr} {body : List Stmt} {T U : TyP} {d d1 d2 : PyData} {pos p p' : Pos} {x : Str} {ds : List PyData} {D : Ends} {R1 R2 : Int → Prop} {l : Addr}
/-! ### scalars -/
theorem c_eqS {s t : Str} (ha : XD q X a σ F H (.str s)) (hb : XD q X b σ F H (.str t)) (hm : behindInMarks .Eq b = false := by exact nomark _) : XCm q X .Eq a b σ F H (decide (s = t)) :=
  x_cmp op_eq mono_dt ha hb (fun x y F1 H1 g hx hy Q k => by
    rw [ds_str hx, ds_str hy]
    have e : decide (V.str s = V.str t) = decide (s = t) := by by_cases h : s = t <;> simp [h]
    refine ⟨rfl, ?_⟩
    rw [e]
    exact k F1 H1 g.end) hm
theorem c_neS {s t : Str} (ha : XD q X a σ F H (.str s)) (hb : XD q X b σ F H (.str t)) (hm : behindInMarks .NotEq b = false := by exact nomark _) : XCm q X .NotEq a b σ F H (!decide (s = t)) :=
  x_cmp op_ne mono_dt ha hb (fun x y F1 H1 g hx hy Q k => by
    rw [ds_str hx, ds_str hy]
    have e : decide (V.str s = V.str t) = decide (s = t) := by by_cases h : s = t <;> simp [h]
    refine ⟨rfl, ?_⟩
    rw [e]
    exact k F1 H1 g.end) hm
theorem c_eqI {s t : Int} (ha : XD q X a σ F H (.int s)) (hb : XD q X b σ F H (.int t)) (hm : behindInMarks .Eq b = false := by exact nomark _) : XCm q X .Eq a b σ F H (decide (s = t)) :=
  x_cmp op_eq mono_dt ha hb (fun x y F1 H1 g hx hy Q k => by
    rw [ds_int hx, ds_int hy]
    have e : decide (V.int s = V.int t) = decide (s = t) := by by_cases h : s = t <;> simp [h]
    refine ⟨rfl, ?_⟩
    rw [e]
    exact k F1 H1 g.end) hm
theorem xtn_eqZ (ha : XP q X a σ F H (tZ R1)) (hb : XP q X b σ F H (tZ R2)) (hm : behindInMarks .Eq b = false := by exact nomark _) : XTn q X (.Compare a [.Eq] [b] pos) σ F H (fun u => ∃ i j, u = decide (i = j) ∧ R1 i ∧ R2 j) := fun F1 H1 g Q kq =>
  wT_of (pt_cmpR op_eq wE_ok wE_ok hm) (ha F1 H1 g _ fun x F2 H2 g2 hx => hb F2 H2 (g.trans g2) _ fun y F3 H3 g3 hy => by
    obtain ⟨i, rfl, hi⟩ := hx
    obtain ⟨j, rfl, hj⟩ := hy
    refine ⟨rfl, _, rfl, kq _ F3 H3 (g2.trans g3) ⟨i, j, ?_, hi, hj⟩⟩
    by_cases h : i = j <;> simp [h])
/-! ### slices -/
def cutL {α : Type} (xs : List α) (lo hi : Option Int) : List α := (xs.drop (HT.sIx xs.length 0 lo)).take (HT.sIx xs.length xs.length hi - HT.sIx xs.length 0 lo)
theorem _root_.R.DsAll.cut {F : Hp} {vs : List V} {ds : List PyData} (h : DsAll F vs ds) (lo hi : Option Int) : DsAll F (cutV vs lo hi) (cutL ds lo hi) := by
  unfold cutV cutL
  rw [h.length]
  exact (h.drop _).take _
theorem cutL_map {α β : Type} (f : α → β) (xs : List α) (lo hi : Option Int) : cutL (xs.map f) lo hi = (cutL xs lo hi).map f := by
  unfold cutL
  rw [List.length_map, List.map_take, List.map_drop]
theorem cutL_len {α : Type} (xs : List α) (lo hi : Option Int) : (cutL xs lo hi).length ≤ xs.length := by
  unfold cutL
  rw [List.length_take, List.length_drop]
  omega
theorem cutL_sub {α : Type} (xs : List α) (lo hi : Option Int) : List.Sublist (cutL xs lo hi) xs := (List.take_sublist _ _).trans (List.drop_sublist _ _)
/-- what a slice's bound gives -/
inductive XO (q : Option Addr) (X : Cx) (σ : L2.St) (F H : Hp) : Option Expr → (Option Int → Prop) → Prop
  | no : XO q X σ F H none (fun o => o = none)
  | yes {e : Expr} {R1 : Int → Prop} : XP q X e σ F H (tZ R1) → XO q X σ F H (some e) (fun o => ∃ i, o = some i ∧ R1 i)
theorem x_slT {lo hi : Option Expr} {A B : Option Int → Prop} {p2 : Pos} (ha : XD q X a σ F H (.tuple ds)) (hlo : XO q X σ F H lo A) (hhi : XO q X σ F H hi B) : XP q X (.Subscript a (.Slice lo hi none p2) pos) σ F H (fun v F => ∃ i j, A i ∧ B j ∧ Ds F v (.tuple (cutL ds i j))) := fun F1 H1 g Q kq => by
  have fin : ∀ (v : V) (i j : Option Int) (F2 H2 : Hp), Grow q F1 H1 F2 H2 → Ds F2 v (.tuple ds) → A i → B j → rSlA X.K v i j H2 Q := by
    intro v i j F2 H2 g2 h hA hB
    obtain ⟨p, xs, rfl, h1, h2⟩ := ds_tup h
    refine ⟨p, xs, rfl, SqT.of (g2.s _ _ h1), fun hw => kq _ F2 H2 g2 ⟨i, j, hA, hB, ?_⟩, fun hw t ht => kq _ _ _ (g2.trans (g2.new ht)) ⟨i, j, hA, hB, .tup upd_same ((h2.cut i j).mono (Ex.new (fresh_back g2.s ht)))⟩⟩
    have : cutL ds i j = ds := by
      unfold cutL
      rw [h2.length] at hw
      rw [hw.1, hw.2, List.drop_zero, Nat.sub_zero, List.take_length]
    rw [this]
    exact h
  cases hlo with
  | no =>
    cases hhi with
    | no => exact wE_of (pe_slice sl_tupA wE_ok po_none po_none) (ha F1 H1 g _ fun v F2 H2 g2 hv => fin v none none F2 H2 g2 hv rfl rfl)
    | yes h2 => exact wE_of (pe_slice sl_tupA wE_ok po_none (po_some wE_ok)) (ha F1 H1 g _ fun v F2 H2 g2 hv => h2 F2 H2 (g.trans g2) _ fun y F3 H3 g3 ⟨i, e, hi⟩ => ⟨i, e, fin v none (some i) F3 H3 (g2.trans g3) (hv.mono g3.f) rfl ⟨i, rfl, hi⟩⟩)
  | yes h1 =>
    cases hhi with
    | no => exact wE_of (pe_slice sl_tupA wE_ok (po_some wE_ok) po_none) (ha F1 H1 g _ fun v F2 H2 g2 hv => h1 F2 H2 (g.trans g2) _ fun y F3 H3 g3 ⟨i, e, hi⟩ => ⟨i, e, fin v (some i) none F3 H3 (g2.trans g3) (hv.mono g3.f) ⟨i, rfl, hi⟩ rfl⟩)
    | yes h2 => exact wE_of (pe_slice sl_tupA wE_ok (po_some wE_ok) (po_some wE_ok)) (ha F1 H1 g _ fun v F2 H2 g2 hv => h1 F2 H2 (g.trans g2) _ fun y F3 H3 g3 ⟨i, e, hi⟩ => ⟨i, e, h2 F3 H3 (g.trans (g2.trans g3)) _ fun y F4 H4 g4 ⟨j, e2, hj⟩ => ⟨j, e2, fin v (some i) (some j) F4 H4 ((g2.trans g3).trans g4) (hv.mono (g3.f.trans g4.f)) ⟨i, rfl, hi⟩ ⟨j, rfl, hj⟩⟩⟩)
/-! ### loops over something of which something is known -/
def XIn (q : Option Addr) (X : Cx) (tg it : Expr) (σ : L2.St) (F H : Hp) (RR : List PyData → Prop) : Prop := ∀ F1 H1, Grow q F H F1 H1 → ∀ R : It → Hp → Prop, (∀ J ds F2 H2, Grow q F1 H1 F2 H2 → WalkD J F2 ds → RR ds → R J H2) → wI X tg it σ H1 R
theorem xin_tup {RR : List PyData → Prop} (h : XP q X it σ F H (fun v F => ∃ ds, Ds F v (.tuple ds) ∧ RR ds)) : XIn q X tg it σ F H RR := fun F1 H1 g R r =>
  wI_of (pi_tup wE_ok) (h F1 H1 g _ fun v F2 H2 g2 ⟨ds, hv, hr⟩ => by
    obtain ⟨a, xs, rfl, h1, h2⟩ := ds_tup hv
    exact ⟨a, rfl, ⟨xs, SqT.of (g2.s _ _ h1)⟩, r _ ds F2 H2 g2 (walkD_tup h1 h2) hr⟩)
theorem xin_lst {RR : List PyData → Prop} (h : XP q X it σ F H (fun v F => ∃ ds, Ds F v (.list ds) ∧ RR ds)) : XIn q X tg it σ F H RR := fun F1 H1 g R r =>
  wI_of (pi_list wE_ok) (h F1 H1 g _ fun v F2 H2 g2 ⟨ds, hv, hr⟩ => by
    obtain ⟨a, xs, rfl, h1, h2⟩ := ds_lst hv
    exact ⟨a, rfl, ⟨xs, SqL.of (g2.s _ _ h1)⟩, r _ ds F2 H2 g2 (walkD_list h1 h2) hr⟩)
theorem xin_rng (B : Bn X.mg) (h : XP q X a σ F H (tZ R1)) (hn : ∀ i, R1 i → i ≤ 100000 ∧ 0 ≤ i) (hg : Gl X "range" := by rfl) (he : starEach [a] X.env = [(false, eval a X.env)] := by rfl) :
    XIn q X tg (.Call (.Name "range" p) [a] [] pos) σ F H (fun ds => ∃ n : Nat, R1 n ∧ ds = (List.range n).map fun i => .int (i : Nat)) := fun F1 H1 g R r =>
  wI_of (pi_range1 hg B.range (pa_cons wE_ok pa_nil he) (by first | exact he | rfl)) (h F1 H1 g _ fun v F2 H2 g2 ⟨j, ev, hj⟩ => by
    subst ev
    obtain ⟨h1, h2⟩ := hn j hj
    obtain ⟨n, rfl⟩ : ∃ n : Nat, j = (n : Int) := ⟨j.toNat, by omega⟩
    refine ⟨n, rfl, by omega, by omega, r _ _ F2 H2 g2 ?_ ⟨n, hj, rfl⟩⟩
    rw [show ((n : Int)).toNat = n from Int.toNat_natCast n]
    refine ⟨fun i H hi _ => ?_, fun H _ => ?_, fun i H x H' F' hi e1 e2 y => ?_⟩
    · simp at hi; exact hi
    · show n ≤ _; simp
    · obtain ⟨rfl, rfl⟩ := y
      refine ⟨F', .int (i : Nat), Grow.start e2, ?_, by rw [show (0 : Int) + (i : Nat) = (i : Nat) from Int.zero_add _]; exact .int _⟩
      simp at hi
      simp [hi])
theorem s_forn {gx : TG} {asg : L2.St → List V → L2.St} {esf : PyData → List PyData} {RR : List PyData → Prop} (hc : X.calm = true) (hp : PassesOwn (model X.prog X.w) X.A X.env X.xe) (hi : XIn q X tg it σ F H RR) (hg : PG X tg gx) (hT : ∀ ds d, RR ds → d ∈ ds → Tgt gx asg d (esf d)) (g0 : Grow q F0 H0 F H)
    (Pv : List PyData → Nat → L2.St → Hp → Hp → Prop) (hm : ∀ ds i σ' F' H' F'' H'', Pv ds i σ' F' H' → Grow q F' H' F'' H'' → Pv ds i σ' F'' H'') (h0 : ∀ ds F2 H2, RR ds → Grow q F H F2 H2 → Pv ds 0 σ F2 H2)
    (hb : ∀ ds i d vs σ' F' H', RR ds → ds[i]? = some d → Ex F F' → Grow q F0 H0 F' H' → Pv ds i σ' F' H' → DsAll F' vs (esf d) →
      wSs X body { D with nx := fun σ2 H2 => ∃ F2, Ex F' F2 ∧ Grow q F0 H0 F2 H2 ∧ Pv ds (i + 1) σ2 F2 H2, ct := fun σ2 H2 => ∃ F2, Ex F' F2 ∧ Grow q F0 H0 F2 H2 ∧ Pv ds (i + 1) σ2 F2 H2, bk := D.nx } (asg σ' vs) H')
    (hd : ∀ ds σ' F' H', RR ds → Ex F F' → Grow q F0 H0 F' H' → Pv ds ds.length σ' F' H' → D.nx σ' H') (hs : ∀ x, foldedSetIterable it X.env x = pure x := by intro _; rfl) : wS X (.For tg it body [] pos) D σ H :=
  wS_of (ps_for hp hc wI_ok hg wSs_ok hs) (hi F H g0.end _ fun J ds F2 H2 g2 w hr => by
    refine ⟨fun i m σ' H' => m = ds.length - i ∧ i ≤ ds.length ∧ ∃ F', Ex F2 F' ∧ Grow q F0 H0 F' H' ∧ Pv ds i σ' F' H', ⟨ds.length, by simp, Nat.zero_le _, F2, Ex.refl _, g0.trans g2, h0 ds _ _ hr g2⟩, ?_⟩
    rintro i m σ' H' ⟨rfl, hi', F', e1, e2, pv⟩
    by_cases hlt : i < ds.length
    · refine .inr ⟨w.goes i H' hlt (e1.trans e2.s), fun σ2 H2 => ∃ F3, Ex F2 F3 ∧ Grow q F0 H0 F3 H2 ∧ Pv ds (i + 1) σ2 F3 H2, fun σ2 H2' kq => ?_, fun x H'' y => ?_⟩
      · obtain ⟨F3, a1, a2, a3⟩ := kq
        exact ⟨ds.length - (i + 1), by omega, rfl, hlt, F3, a1, a2, a3⟩
      · obtain ⟨F'', d, g3, hdd, hx⟩ := w.yields i H' x H'' F' hlt e1 e2.s y
        refine hT ds d hr (List.mem_of_getElem? hdd) F'' H'' x _ _ g3.s hx fun vs hvs => ?_
        have hh := hb ds i d vs σ' F'' H'' hr hdd (g2.f.trans (e1.trans g3.f)) (e2.trans (g3.weak e2.a1)) (hm ds i σ' F' H' F'' H'' pv (g3.weak e2.a1)) hvs
        refine ⟨fun pins s I => ?_⟩
        refine thn (hh.run pins s I) fun f s1 kq => ?_
        cases f with
        | next =>
          obtain ⟨σ2, H3, I2, F3, b1, b2, b3⟩ := kq
          exact ⟨σ2, H3, I2, F3, (e1.trans g3.f).trans b1, b2, b3⟩
        | cont =>
          obtain ⟨σ2, H3, I2, F3, b1, b2, b3⟩ := kq
          exact ⟨σ2, H3, I2, F3, (e1.trans g3.f).trans b1, b2, b3⟩
        | brk => exact kq
        | ret v => exact kq
    · have e : i = ds.length := by omega
      subst e
      exact .inl ⟨w.stops H' (e1.trans e2.s), hd ds σ' F' H' hr (g2.f.trans e1) e2 pv⟩)
/-! ### name.insert(i, e) -/
theorem s_insert {i : Nat} {vs : List V} {apos cpos : Pos} (hN : X.N[i]? = some x) (hσ : σ[i]? = some (some (.ref l))) (hf : F l = none) (h0 : H0 l = none) (hH : H l = some (.lst vs)) (hz : vs.length < 100000) (ha : XP q X a σ F H (tZ R1)) (h : XP q X e σ F H T) (g0 : Grow q F0 H0 F H) (hR : ∀ j, R1 j → 0 ≤ j ∧ j ≤ vs.length)
    (k : ∀ (j : Int) v F2 H2, Grow q F H F2 H2 → R1 j → T v F2 → F2 l = none → D.nx σ (upd H2 l (.lst (vs.take j.toNat ++ [v] ++ vs.drop j.toNat)))) (hv : Vis X.env.scope x := by first | exact Or.inl rfl | exact Or.inr (Or.inl rfl) | exact Or.inr (Or.inr rfl))
    (hsw : swapsWith (.Call (.Attribute (.Name x p) "insert" apos) [a, e] [] cpos) none pos.line X.env = pure false := by rfl)
    (hbase : attributeBase (.Name x p) "insert" X.env (eval (.Name x p) X.env) = eval (.Name x p) X.env := by rfl)
    (hfew : ((backTo cpos (starEach [a, e] X.env)).all (fun x => !x.1) && (backToKw cpos (keywordEach [] X.env)).all (fun x => x.1.isSome)
      && decide (([a, e] : List Expr).length + ([] : List Keyword).length + (if ([] : List Keyword).isEmpty then 0 else 1) < 30)) = true := by rfl)
    (hline : (apos.endLine == cpos.line) = true := by rfl) (hst : starEach [a, e] X.env = (false, eval a X.env) :: starEach [e] X.env := by rfl) (hst2 : starEach [e] X.env = [(false, eval e X.env)] := by rfl) (hpl : (backTo cpos (starEach [e] X.env)).any (·.1) = false := by rfl)
    (hd : (x == ("__debug__" : Str)) = false := by decide) (hcd : (x == ("__classdict__" : Str)) = false := by decide) :
    wS X (.Expr (.Call (.Attribute (.Name x p) "insert" apos) [a, e] [] cpos) pos) D σ H :=
  wS_of (ps_expr (pe_bm PySem.F.plainAttrs_list PySem.F.slot_list_insert PySem.F.type_list_insert mt_insert (pe_var hN hv hd hcd) (pa_cons wE_ok (pa_cons wE_ok pa_nil hst2) hst) hbase hfew hline hst hpl) hsw)
    ⟨_, hσ, .inl ⟨rfl, _, SqL.of hH⟩, ha F H g0.end _ fun y F1 H1 g1 ⟨j, ey, hj⟩ => h F1 H1 g1 _ fun v F2 H2 g2 t => by
      subst ey
      obtain ⟨j0, j1⟩ := hR j hj
      have gg := g1.trans g2
      refine ⟨l, vs, j, v, rfl, rfl, gg.h _ _ (g0.a0.ne h0) hH, sz_lt hz, j0, ?_, ?_⟩
      · have : (vs.length : Int) < 100000 := by omega
        omega
      · exact k j v F2 H2 gg hj t (gg.n l _ hf hH)⟩
/-! ### name.append(other.pop(i)) -/
theorem s_appPop {i j : Nat} {y : Str} {m : Addr} {vs ws : List V} {ap1 cp1 ap2 cp2 p2 : Pos} (hN : X.N[i]? = some x) (hσ : σ[i]? = some (some (.ref l))) (hN2 : X.N[j]? = some y) (hσ2 : σ[j]? = some (some (.ref m))) (hlm : l ≠ m) (hf : F l = none) (hf2 : F m = none) (h0 : H0 l = none) (h02 : H0 m = none)
    (hH : H l = some (.lst vs)) (hH2 : H m = some (.lst ws)) (hz : vs.length < 100000) (ha : XP q X a σ F H (tZ R1)) (g0 : Grow q F0 H0 F H) (hR : ∀ j, R1 j → 0 ≤ j ∧ j < ws.length) (hws : ws.length < 100000)
    (k : ∀ (n : Nat) v F2 H2, Grow q F H F2 H2 → R1 n → ws[n]? = some v → F2 l = none → F2 m = none → D.nx σ (upd (upd H2 m (.lst (ws.eraseIdx n))) l (.lst (vs ++ [v])))) (hv : Vis X.env.scope x := by first | exact Or.inl rfl | exact Or.inr (Or.inl rfl) | exact Or.inr (Or.inr rfl))
    (hv2 : Vis X.env.scope y := by first | exact Or.inl rfl | exact Or.inr (Or.inl rfl) | exact Or.inr (Or.inr rfl))
    (hsw : swapsWith (.Call (.Attribute (.Name x p) "append" ap1) [.Call (.Attribute (.Name y p2) "pop" ap2) [a] [] cp2] [] cp1) none pos.line X.env = pure false := by rfl)
    (hbase : attributeBase (.Name x p) "append" X.env (eval (.Name x p) X.env) = eval (.Name x p) X.env := by rfl)
    (hbase2 : attributeBase (.Name y p2) "pop" X.env (eval (.Name y p2) X.env) = eval (.Name y p2) X.env := by rfl)
    (hfew : ((backTo cp1 (starEach [.Call (.Attribute (.Name y p2) "pop" ap2) [a] [] cp2] X.env)).all (fun x => !x.1) && (backToKw cp1 (keywordEach [] X.env)).all (fun x => x.1.isSome)
      && decide (([.Call (.Attribute (.Name y p2) "pop" ap2) [a] [] cp2] : List Expr).length + ([] : List Keyword).length + (if ([] : List Keyword).isEmpty then 0 else 1) < 30)) = true := by rfl)
    (hfew2 : ((backTo cp2 (starEach [a] X.env)).all (fun x => !x.1) && (backToKw cp2 (keywordEach [] X.env)).all (fun x => x.1.isSome)
      && decide (([a] : List Expr).length + ([] : List Keyword).length + (if ([] : List Keyword).isEmpty then 0 else 1) < 30)) = true := by rfl)
    (hline : (ap1.endLine == cp1.line) = true := by rfl) (hline2 : (ap2.endLine == cp2.line) = true := by rfl) (hst : starEach [a] X.env = [(false, eval a X.env)] := by rfl)
    (hst2 : starEach [.Call (.Attribute (.Name y p2) "pop" ap2) [a] [] cp2] X.env = [(false, eval (.Call (.Attribute (.Name y p2) "pop" ap2) [a] [] cp2) X.env)] := by rfl)
    (hd : (x == ("__debug__" : Str)) = false := by decide) (hcd : (x == ("__classdict__" : Str)) = false := by decide) (hd2 : (y == ("__debug__" : Str)) = false := by decide) (hcd2 : (y == ("__classdict__" : Str)) = false := by decide) :
    wS X (.Expr (.Call (.Attribute (.Name x p) "append" ap1) [.Call (.Attribute (.Name y p2) "pop" ap2) [a] [] cp2] [] cp1) pos) D σ H :=
  wS_of (ps_expr (pe_bm PySem.F.plainAttrs_list PySem.F.slot_list_append PySem.F.type_list_append mt_append (pe_var hN hv hd hcd) (pa_cons (pe_bm PySem.F.plainAttrs_list PySem.F.slot_list_pop PySem.F.type_list_pop mt_popAt (pe_var hN2 hv2 hd2 hcd2) (pa_cons wE_ok pa_nil hst) hbase2 hfew2 hline2 hst (by rfl)) pa_nil hst2) hbase hfew hline hst2 (by rfl)) hsw)
    ⟨_, hσ, .inl ⟨rfl, _, SqL.of hH⟩, _, hσ2, .inl ⟨rfl, _, SqL.of hH2⟩, ha F H g0.end _ fun z F2 H2 g2 ⟨r, ez, hr⟩ => by
      subst ez
      obtain ⟨r0, r1⟩ := hR r hr
      obtain ⟨n, rfl⟩ : ∃ n : Nat, r = (n : Int) := ⟨r.toNat, by omega⟩
      have hn : n < ws.length := by omega
      have e1 := g2.h l _ (g0.a0.ne h0) hH
      have e2 := g2.h m _ (g0.a0.ne h02) hH2
      have hw : (ws.length : Int) < 100000 := by omega
      refine ⟨m, ws, n, n, ws[n], rfl, rfl, e2, by omega, by omega, ?_, by simp [hn], l, vs, ws[n], rfl, rfl, ?_, sz_lt hz, ?_⟩
      · unfold seqIndex?
        simp [hn]
        rw [if_neg (by omega : ¬ (n : Int) < 0)]
        exact ⟨⟨by omega, by omega⟩, by omega⟩
      · rw [upd_ne hlm]; exact e1
      · exact k n ws[n] F2 H2 g2 hr (by simp [hn]) (g2.n l _ hf hH) (g2.n m _ hf2 hH2)⟩
end
/-! ### a comprehension whose test is not known -/
def XLn (q : Option Addr) (t : TE) (σ : L2.St) (F H : Hp) (RR : List PyData → Prop) : Prop := ∀ F1 H1, Grow q F H F1 H1 → ∀ Q : VK, (∀ p vs ds F2 H2, Grow q F1 H1 F2 H2 → H1 p = none → F2 p = none → H2 p = some (.lst vs) → DsAll F2 vs ds → RR ds → Q (.ref p) H2) → t σ H1 Q
theorem lcDn {q : Option Addr} {ds : List PyData} {σ : L2.St} {J : It} {F0 H0 F2 H2 : Hp} {gx : TG} {tt : TT} {te : TE} {vs : List Nat} {gm : PyData → PyData} {Q : VK} (g2 : Grow q F0 H0 F2 H2) (w : WalkD J F2 ds) (hl : ds.length ≤ 100000)
    (hb : ∀ d x F' H', d ∈ ds → Grow q F2 H2 F' H' → Ds F' x d → ∀ R : L2.St → Hp → Prop, (∀ σ2, wipe σ2 vs = wipe σ vs → (∀ Q : Bool → Hp → Prop, (∀ b F3 H3, Grow q F' H' F3 H3 → Q b H3) → tt σ2 H' Q) →
        (∀ F3 H3, Grow q F' H' F3 H3 → ∀ Q : VK, (∀ v F4 H4, Grow q F3 H3 F4 H4 → Ds F4 v (gm d) → Q v H4) → te σ2 H3 Q) → R σ2 H') → gx x (wipe σ vs) H' R)
    (kq : ∀ p xs sub F3 H3, Grow q F2 H2 F3 H3 → H2 p = none → F3 p = none → H3 p = some (.lst xs) → List.Sublist sub ds → DsAll F3 xs (sub.map gm) → Q (.ref p) H3) :
    ∀ D, H2 D = none → ∃ W : Nat → Nat → Hp → Prop, (∃ m, W 0 m (upd H2 D (.lst []))) ∧ ∀ i m H, W i m H →
      (J.stop i H ∧ Q (.ref D) H) ∨ (J.go i H ∧ ∃ Nx : Hp → Prop, (∀ H', Nx H' → ∃ m', m' < m ∧ W (i + 1) m' H') ∧ ∀ x H', J.yld i H x H' → gx x (wipe σ vs) H' fun σ2 H2 => wipe σ2 vs = wipe σ vs ∧ tt σ2 H2 fun b H3 =>
        if b = true then te σ2 H3 fun y H4 => ∃ acc, H4 D = some (.lst acc) ∧ acc.length < sizeLine ∧ Nx (upd H4 D (.lst (acc ++ [y]))) else Nx H3) := by
  intro D hD
  let Pv : Nat → Hp → Prop := fun i H' => ∃ F' acc sub, Grow q F2 H2 F' H' ∧ F' D = none ∧ H' D = some (.lst acc) ∧ List.Sublist sub (ds.take i) ∧ DsAll F' acc (sub.map gm)
  refine ⟨fun i m H => m = ds.length - i ∧ i ≤ ds.length ∧ Pv i H, ⟨ds.length, by simp, Nat.zero_le _, F2, [], [], g2.mut hD, fresh_back g2.s hD, upd_same, List.nil_sublist _, .nil⟩, ?_⟩
  rintro i m H ⟨rfl, hi, F', acc, sub, gw, hFD, hHD, hsub, hacc⟩
  by_cases hlt : i < ds.length
  · refine .inr ⟨w.goes i H hlt (gw.f.trans gw.s), Pv (i + 1), fun H' p' => ⟨ds.length - (i + 1), by omega, rfl, hlt, p'⟩, fun x H' y => ?_⟩
    obtain ⟨F'', d, g3, hd, hx⟩ := w.yields i H x H' F' hlt gw.f gw.s y
    have hmem : d ∈ ds := List.mem_of_getElem? hd
    have hqD : q ≠ some D := g2.a1.ne hD
    have g4 := gw.trans (g3.weak gw.a1)
    have hF''D : F'' D = none := g3.n D _ hFD hHD
    have hH'D := g3.h D _ (by simp) hHD
    have htk : ds.take (i + 1) = ds.take i ++ [d] := by rw [List.take_succ, hd]; rfl
    refine hb d x F'' H' hmem g4 hx _ fun σ2 hw ht he => ⟨hw, ht _ fun b F3 H3 g5 => ?_⟩
    have hF3D : F3 D = none := g5.n D _ hF''D hH'D
    have hH3D := g5.h D _ hqD hH'D
    by_cases hp : b = true
    · rw [if_pos hp]
      refine he F3 H3 g5 _ fun v F4 H4 g6 hv => ?_
      have hF4D : F4 D = none := g6.n D _ hF3D hH3D
      have hH4D := g6.h D _ hqD hH3D
      have gg := (g4.trans g5).trans g6
      refine ⟨acc, hH4D, ?_, F4, acc ++ [v], sub ++ [d], gg.put hD hF4D, hF4D, upd_same, ?_, ?_⟩
      · have : acc.length ≤ i := by
          rw [hacc.length, List.length_map]
          exact Nat.le_trans hsub.length_le (by rw [List.length_take]; omega)
        exact sz_lt (by omega)
      · rw [htk]
        exact hsub.append (List.Sublist.refl _)
      · rw [List.map_append]
        exact (hacc.mono (g3.f.trans (g5.f.trans g6.f))).append (.cons hv .nil)
    · rw [if_neg hp]
      exact ⟨F3, acc, sub, g4.trans g5, hF3D, hH3D, by rw [htk]; exact hsub.trans (List.sublist_append_left _ _), hacc.mono (g3.f.trans g5.f)⟩
  · have e : i = ds.length := by omega
    subst e
    refine .inl ⟨w.stops H (gw.f.trans gw.s), kq D acc sub F' H gw hD hFD hHD ?_ hacc⟩
    rw [List.take_length] at hsub
    exact hsub
section
variable {q : Option Addr} {X : Cx} {σ : L2.St} {F H F0 H0 : Hp} {c tg elt iter : Expr} {pos spos py : Pos} {y : Str} {ds : List PyData} {D : Ends} {scope : Scope} {own : List (Str × Nat)} {gx : TG} {gm : PyData → PyData} {asg : L2.St → List V → L2.St} {esf : PyData → List PyData} {i : Nat}
theorem lcN (L : LcOk X tg scope own iter gx) (hi : XI q X tg iter σ F H ds) (hT : ∀ d, d ∈ ds → Tgt gx asg d (esf d)) (hl : ds.length ≤ 100000) (hw : ∀ vs, wipe (asg (wipe σ (own.map (·.2))) vs) (own.map (·.2)) = wipe σ (own.map (·.2)))
    (hp : ∀ d vs F1 H1, d ∈ ds → Grow q F H F1 H1 → DsAll F1 vs (esf d) → InB X scope fun Y => XTn q Y c (asg (wipe σ (own.map (·.2))) vs) F1 H1 (fun _ => True))
    (he : ∀ d vs F1 H1, d ∈ ds → Grow q F H F1 H1 → DsAll F1 vs (esf d) → InB X scope fun Y => XD q Y elt (asg (wipe σ (own.map (·.2))) vs) F1 H1 (gm d)) :
    XLn q (tLc (wI X tg iter) gx (uT X scope c) (uE X scope elt) (own.map (·.2))) σ F H (fun zs => ∃ sub, List.Sublist sub ds ∧ zs = sub.map gm) := fun F1 H1 g Q kq => by
  refine hi F1 H1 g _ fun J F2 H2 g2 w => lcDn (gm := gm) g2 w hl (fun d x F' H' hd gw hx R r => hT d hd F' H' x _ _ gw.s hx fun vs hvs => ?_) fun p xs sub F3 H3 g3 h1 h2 h3 h4 h5 => kq p xs _ F3 H3 (g2.trans g3) (g2.fresh h1) h2 h3 h5 ⟨sub, h4, rfl⟩
  refine r _ (hw vs) (fun Q kq s H0 C cl fp => hp d vs F' H' hd (g.trans (g2.trans gw)) hvs s H0 C cl fp F' H' gw.end Q fun b F3 H3 g3 _ => kq b F3 H3 g3) fun F3 H3 g3 Q kq s H0 C cl fp => ?_
  exact he d vs F' H' hd (g.trans (g2.trans gw)) hvs s H0 C cl fp F3 H3 g3 Q kq
theorem s_lcN (hy : X.N[i]? = some y) (hyl : X.env.scope.names.lookup y = some .local) (hsw : swapsWith (.ListComp elt [⟨tg, iter, [c], 0⟩] scope pos) (some (.Name y py)) spos.line X.env = pure true) (g0 : Grow q F0 H0 F H)
    (k : ∀ l vs sub F2 H2, Grow q F H F2 H2 → H l = none → F2 l = none → H2 l = some (.lst vs) → List.Sublist sub ds → DsAll F2 vs (sub.map gm) → D.nx (σ.set i (some (.ref l))) H2)
    (L : LcOk X tg scope own iter gx) (hi : XI q X tg iter σ F H ds) (hT : ∀ d, d ∈ ds → Tgt gx asg d (esf d)) (hl : ds.length ≤ 100000) (hw : ∀ vs, wipe (asg (wipe σ (own.map (·.2))) vs) (own.map (·.2)) = wipe σ (own.map (·.2)))
    (hp : ∀ d vs F1 H1, d ∈ ds → Grow q F H F1 H1 → DsAll F1 vs (esf d) → InB X scope fun Y => XTn q Y c (asg (wipe σ (own.map (·.2))) vs) F1 H1 (fun _ => True))
    (he : ∀ d vs F1 H1, d ∈ ds → Grow q F H F1 H1 → DsAll F1 vs (esf d) → InB X scope fun Y => XD q Y elt (asg (wipe σ (own.map (·.2))) vs) F1 H1 (gm d)) :
    wS X (.Assign [.Name y py] (.ListComp elt [⟨tg, iter, [c], 0⟩] scope pos) spos) D σ H :=
  wS_of (ps_setLc (te := uE X scope elt) (tt := uT X scope c) L.calm L.nd hy hyl hsw wI_ok L.ok L.tg (fun s H C cl fp => pts_one ⟨fun pins s' σ' H' Q I h => (h s H C cl fp).run pins s' I⟩) (fun s H C cl fp => ⟨fun pins s' σ' H' Q I h => (h s H C cl fp).run pins s' I⟩) L.hs)
    (lcN L hi hT hl hw hp he F H g0.end _ fun l vs zs F2 H2 g2 h1 h2 h3 h4 ⟨sub, h5, h6⟩ => k l vs sub F2 H2 g2 h1 h2 h3 h5 (h6 ▸ h4))
end
/-! ### lists that may change, looked at -/
section
variable {q : Option Addr} {X : Cx} {σ : L2.St} {F H F0 H0 : Hp} {a : Expr} {es : List Expr} {pos p p2 : Pos} {x : Str} {l : Addr} {vs : List V} {ds : List PyData} {k : Nat}
theorem xz_lenM (B : Bn X.mg) (i : Nat) (hH : H l = some (.lst vs)) (hq : q ≠ some l) (hN : X.N[i]? = some x := by rfl) (hσ : σ[i]? = some (some (.ref l)) := by rfl) (hv : Vis X.env.scope x := by first | exact Or.inl rfl | exact Or.inr (Or.inl rfl) | exact Or.inr (Or.inr rfl))
    (hd : (x == ("__debug__" : Str)) = false := by decide) (hcd : (x == ("__classdict__" : Str)) = false := by decide) (hg : Gl X "len" := by rfl) : XP q X (.Call (.Name "len" p) [.Name x p2] [] pos) σ F H (tZ fun z => z = vs.length) := fun F1 H1 g Q kq =>
  wE_of (pe_callB call_len_seq hg B.len boot_len (pa_cons (pe_var hN hv hd hcd) pa_nil (by rfl)) (he := by rfl)) ⟨_, hσ, l, vs, rfl, .inl (SqL.of (g.h _ _ hq hH)), kq _ F1 H1 g.end ⟨_, rfl, rfl⟩⟩
/-- name != [] -/
theorem xt_neM {pl : Pos} (hu : X.A.units + 64 < cLine) (i : Nat) (hH : H l = some (.lst vs)) (hds : DsAll F vs ds) (hsh : SeqAt.shaped (.list ds) = true) (hq : q ≠ some l) (hN : X.N[i]? = some x := by rfl) (hσ : σ[i]? = some (some (.ref l)) := by rfl) (hv : Vis X.env.scope x := by first | exact Or.inl rfl | exact Or.inr (Or.inl rfl) | exact Or.inr (Or.inr rfl))
    (hd : (x == ("__debug__" : Str)) = false := by decide) (hcd : (x == ("__classdict__" : Str)) = false := by decide) : XT q X (.Compare (.Name x p) [.NotEq] [.List [] pl] pos) σ F H (!ds.isEmpty) := fun F1 H1 g Q kq =>
  wT_of (pt_cmpR (op_neD hu) (pe_var hN hv hd hcd) (pe_lst pa_nil) (nomark _)) (by
    refine ⟨_, hσ, Nat.zero_le _, fun t ht => ?_⟩
    have h1 : H1 l = some (.lst vs) := g.h _ _ hq hH
    have h2 : (upd H1 t (.lst [])) l = some (.lst vs) := by rw [upd_ne (ne_of_none h1 ht)]; exact h1
    have h3 : DsAll (upd H1 t (.lst [])) vs ds := (hds.mono (g.f.trans g.s)).mono (Ex.new ht)
    have he : PyData.eqv (.list ds) (.list []) = ds.isEmpty := by cases ds <;> simp [PyData.eqv, PyData.eqvAll]
    refine ⟨.list ds, .list [], .lst (SqL.of h2) h3.dp, .lst (SqL.of upd_same) .nil, hsh, by decide, _, rfl, ?_⟩
    rw [he]
    exact kq F1 _ (g.end.mut ht))
/-- a tuple of things of which something is known -/
theorem x_tupn {Ts : List TyP} (mo : ∀ T ∈ Ts, Mono T) (h : XA q X es σ F H Ts) (hl : Ts.length ≤ 100000 := by simp) : XP q X (.Tuple es k pos) σ F H (fun v F => ∃ t vs, v = .ref t ∧ F t = some (.tup vs) ∧ AllT Ts vs F) := fun F1 H1 g Q kq =>
  wE_of (pe_tup wA_ok) (h F1 H1 g _ fun vs F2 H2 g2 hv => by
    have len : ∀ (Ts : List TyP) (vs : List V), AllT Ts vs F2 → vs.length = Ts.length := by
      intro Ts
      induction Ts with
      | nil => intro vs h; cases vs with
        | nil => rfl
        | cons _ _ => exact h.elim
      | cons T Ts ih => intro vs h; cases vs with
        | nil => exact h.elim
        | cons v vs => exact congrArg (· + 1) (ih vs h.2)
    have up : ∀ (Ts : List TyP) (vs : List V) (F' : Hp), (∀ T ∈ Ts, Mono T) → Ex F2 F' → AllT Ts vs F2 → AllT Ts vs F' := by
      intro Ts
      induction Ts with
      | nil => intro vs F' _ _ h; cases vs with
        | nil => trivial
        | cons _ _ => exact h.elim
      | cons T Ts ih => intro vs F' mo e h; cases vs with
        | nil => exact h.elim
        | cons v vs => exact ⟨mo T List.mem_cons_self _ _ _ e h.1, ih vs F' (fun T hT => mo T (List.mem_cons_of_mem _ hT)) e h.2⟩
    exact ⟨sz_of (by rw [len Ts vs hv]; exact hl), fun t ht => kq (.ref t) _ _ (g2.trans (g2.new ht)) ⟨t, vs, rfl, upd_same, up Ts vs _ mo (g2.new (o := .tup vs) ht).f hv⟩⟩)
end
/-! ### data that can be compared -/
theorem lay_map {α : Type} (f : α → PyData) : ∀ xs : List α, (∀ x ∈ xs, (f x).canLay0 = true) → PyData.canLayAll0 (xs.map f) = true
  | [], _ => by simp [PyData.canLayAll0]
  | x :: xs, h => by simp [PyData.canLayAll0, h x List.mem_cons_self, lay_map f xs fun y hy => h y (List.mem_cons_of_mem _ hy)]
theorem depth_map {α : Type} (f : α → PyData) (n : Nat) : ∀ xs : List α, (∀ x ∈ xs, (f x).depth ≤ n) → PyData.depthAll (xs.map f) ≤ n
  | [], _ => by simp [PyData.depthAll]
  | x :: xs, h => by
    have h1 := h x List.mem_cons_self
    have h2 := depth_map f n xs fun y hy => h y (List.mem_cons_of_mem _ hy)
    simp only [List.map_cons, PyData.depthAll]
    omega
theorem shaped_lst {α : Type} {f : α → PyData} {xs : List α} (h1 : ∀ x ∈ xs, (f x).canLay0 = true) (h2 : ∀ x ∈ xs, (f x).depth ≤ 60) : SeqAt.shaped (.list (xs.map f)) = true := by
  have := depth_map f 60 xs h2
  have h3 : PyData.depth (.list (xs.map f)) ≤ 64 := by
    simp only [PyData.depth]
    omega
  show (PyData.canLay0 (.list (xs.map f)) && decide (PyData.depth (.list (xs.map f)) ≤ 64)) = true
  rw [Bool.and_eq_true]
  exact ⟨by simp only [PyData.canLay0]; exact lay_map f xs h1, decide_eq_true h3⟩
theorem shaped_strs {ss : List Str} (h : ∀ s ∈ ss, PyData.strOk s = true) : SeqAt.shaped (.list (ss.map .str)) = true := shaped_lst (fun x hx => by simp [PyData.canLay0, h x hx]) (fun x _ => by simp [PyData.depth])
section
variable {q : Option Addr} {X : Cx} {σ : L2.St} {F H : Hp} {a b : Expr} {pos : Pos} {ss : List Str} {R1 : Int → Prop}
abbrev tS (RR : Str → Prop) : TyP := fun v _ => ∃ s, v = .str s ∧ RR s
theorem mono_tS {RR : Str → Prop} : Mono (tS RR) := fun _ _ _ _ h => h
/-- a text of a list, by a place that is not known -/
theorem x_ixS (ha : XD q X a σ F H (.list (ss.map .str))) (hb : XP q X b σ F H (tZ R1)) (hR : ∀ i, R1 i → 0 ≤ i ∧ i < ss.length) (hs : PlainIx b := by exact fun _ _ => rfl) : XP q X (.Subscript a b pos) σ F H (tS fun s => s ∈ ss) := fun F1 H1 g Q kq =>
  wE_of (pe_ix ix_list wE_ok wE_ok hs) (ha F1 H1 g _ fun x F2 H2 g2 hx => hb F2 H2 (g.trans g2) _ fun y F3 H3 g3 ⟨i, ey, hi⟩ => by
    subst ey
    obtain ⟨p, xs, rfl, h1, h2⟩ := ds_lst (hx.mono g3.f)
    rw [h2.strs] at h1
    obtain ⟨i0, i1⟩ := hR i hi
    obtain ⟨j, rfl⟩ : ∃ j : Nat, i = (j : Int) := ⟨i.toNat, by omega⟩
    have hj : j < ss.length := by omega
    exact ⟨p, _, _, .str ss[j], rfl, rfl, SqL.of (g3.s _ _ h1), atI_nat (by simp [hj]), kq _ F3 H3 (g2.trans g3) ⟨_, rfl, List.getElem_mem hj⟩⟩)
end
section
variable {q : Option Addr} {X : Cx} {σ : L2.St} {F H F0 H0 : Hp} {a b : Expr} {pos px py pt pt2 : Pos} {x y : Str} {ds : List PyData} {T U : TyP} {D : Ends} {kt k2 : Nat}
/-- a list's slice with written bounds -/
theorem xm_slL {lo hi : Option Expr} {A B : Option Int → Prop} {p2 : Pos} {i j : Option Int} (ha : XD q X a σ F H (.list ds)) (hlo : XO q X σ F H lo A) (hhi : XO q X σ F H hi B) (hA : ∀ o, A o → o = i) (hB : ∀ o, B o → o = j) : XM q X (.Subscript a (.Slice lo hi none p2) pos) σ F H (cutL ds i j) := fun F1 H1 g Q kq => by
  have fin : ∀ (v : V) (i' j' : Option Int) (F2 H2 : Hp), Grow q F1 H1 F2 H2 → Ds F2 v (.list ds) → A i' → B j' → rSlL X.K v i' j' H2 Q := by
    intro v i' j' F2 H2 g2 h hA' hB'
    rw [hA _ hA', hB _ hB']
    obtain ⟨p, xs, rfl, h1, h2⟩ := ds_lst h
    exact ⟨p, xs, rfl, SqL.of (g2.s _ _ h1), fun t ht => kq t _ F2 _ (g2.trans (g2.mut ht)) (g2.fresh ht) (fresh_back g2.s ht) upd_same (h2.cut i j)⟩
  cases hlo with
  | no =>
    cases hhi with
    | no => exact wE_of (pe_slice sl_list wE_ok po_none po_none) (ha F1 H1 g _ fun v F2 H2 g2 hv => fin v none none F2 H2 g2 hv rfl rfl)
    | yes h2 => exact wE_of (pe_slice sl_list wE_ok po_none (po_some wE_ok)) (ha F1 H1 g _ fun v F2 H2 g2 hv => h2 F2 H2 (g.trans g2) _ fun y F3 H3 g3 ⟨i, e, hi⟩ => ⟨i, e, fin v none (some i) F3 H3 (g2.trans g3) (hv.mono g3.f) rfl ⟨i, rfl, hi⟩⟩)
  | yes h1 =>
    cases hhi with
    | no => exact wE_of (pe_slice sl_list wE_ok (po_some wE_ok) po_none) (ha F1 H1 g _ fun v F2 H2 g2 hv => h1 F2 H2 (g.trans g2) _ fun y F3 H3 g3 ⟨i, e, hi⟩ => ⟨i, e, fin v (some i) none F3 H3 (g2.trans g3) (hv.mono g3.f) ⟨i, rfl, hi⟩ rfl⟩)
    | yes h2 => exact wE_of (pe_slice sl_list wE_ok (po_some wE_ok) (po_some wE_ok)) (ha F1 H1 g _ fun v F2 H2 g2 hv => h1 F2 H2 (g.trans g2) _ fun y F3 H3 g3 ⟨i, e, hi⟩ => ⟨i, e, h2 F3 H3 (g.trans (g2.trans g3)) _ fun y F4 H4 g4 ⟨j, e2, hj⟩ => ⟨j, e2, fin v (some i) (some j) F4 H4 ((g2.trans g3).trans g4) (hv.mono (g3.f.trans g4.f)) ⟨i, rfl, hi⟩ ⟨j, rfl, hj⟩⟩⟩)
/-- x, y = a, b where one of the names is a cell: by a tuple -/
theorem s_par2 {i j : Nat} (hc : X.calm = true) (hN : X.N.Nodup) (hi : X.N[i]? = some x) (hj : X.N[j]? = some y) (hx : Loc X.env.scope x) (hy : Loc X.env.scope y) (g0 : Grow q F0 H0 F H) (mo : Mono T) (mo2 : Mono U) (ha : XP q X a σ F H T) (hb : XP q X b σ F H U)
    (k : ∀ v w F2 H2, Grow q F H F2 H2 → T v F2 → U w F2 → D.nx ((σ.set i (some v)).set j (some w)) H2)
    (hs : swapsWithSole [.Tuple [.Name x px, .Name y py] kt pt] (.Tuple [a, b] k2 pt2) pos.line X.env = pure false := by rfl) (hw : swappedStores [.Tuple [.Name x px, .Name y py] kt pt] (.Tuple [a, b] k2 pt2) X.env = pure none := by rfl)
    (h1 : starEach [a, b] X.env = (false, eval a X.env) :: starEach [b] X.env := by rfl) (h2 : starEach [b] X.env = [(false, eval b X.env)] := by rfl)
    (hf : X.fn x = true ∨ X.env.scope.names.lookup x = some .local := by first | exact .inl rfl | exact .inr rfl) (hf2 : X.fn y = true ∨ X.env.scope.names.lookup y = some .local := by first | exact .inl rfl | exact .inr rfl) :
    wS X (.Assign [.Tuple [.Name x px, .Name y py] kt pt] (.Tuple [a, b] k2 pt2) pos) D σ H :=
  wS_of (ps_asg (pe_tup (pa_cons wE_ok (pa_cons wE_ok pa_nil h2) h1)) (pg_tup hc (pgs_cons (pg_name hN hi hx hf) (pgs_cons (pg_name hN hj hy hf2) pgs_nil))) hs hw)
    (ha F H g0.end _ fun v F2 H2 g2 hv => hb F2 H2 g2 _ fun w F3 H3 g3 hw => ⟨by show 2 ≤ sizeLine; decide, fun p hp =>
      ⟨p, [v, w], rfl, SqT.of upd_same, rfl, v, [w], rfl, w, [], rfl, rfl, k v w _ _ ((g2.trans g3).trans (g3.new hp)) (mo _ _ _ (g3.f.trans (g3.new (o := .tup [v, w]) hp).f) hv) (mo2 _ _ _ (g3.new (o := .tup [v, w]) hp).f hw)⟩⟩)
end
theorem filt_map {α β : Type} (f : α → PyData) (g : PyData → α) (hg : ∀ a, g (f a) = a) (p : α → Bool) (h : α → β) : ∀ xs : List α, ((xs.map f).filter fun d => p (g d)).map (fun d => h (g d)) = (xs.filter p).map h
  | [] => rfl
  | x :: xs => by
    rw [List.map_cons, List.filter_cons, List.filter_cons, hg]
    by_cases q : p x = true
    · rw [if_pos q, if_pos q, List.map_cons, List.map_cons, hg, filt_map f g hg p h xs]
    · rw [if_neg q, if_neg q, filt_map f g hg p h xs]
theorem map_map' {α β : Type} (f : α → PyData) (g : PyData → α) (hg : ∀ a, g (f a) = a) (h : α → β) (xs : List α) : (xs.map f).map (fun d => h (g d)) = xs.map h := by
  rw [List.map_map]
  exact List.map_congr_left fun a _ => by show h (g (f a)) = h a; rw [hg]
def dstr : PyData → Str
  | .str s => s
  | _ => Str.empty
theorem dstr_str (s : Str) : dstr (.str s) = s := rfl
theorem eqv_tnil (ds : List PyData) : PyData.eqv (.tuple ds) (.tuple []) = ds.isEmpty := by cases ds <;> simp [PyData.eqv, PyData.eqvAll]
theorem eqv_lnil (ds : List PyData) : PyData.eqv (.list ds) (.list []) = ds.isEmpty := by cases ds <;> simp [PyData.eqv, PyData.eqvAll]
theorem shaped_tup {α : Type} {f : α → PyData} {xs : List α} (h1 : ∀ x ∈ xs, (f x).canLay0 = true) (h2 : ∀ x ∈ xs, (f x).depth ≤ 60) : SeqAt.shaped (.tuple (xs.map f)) = true := by
  have := depth_map f 60 xs h2
  have h3 : PyData.depth (.tuple (xs.map f)) ≤ 64 := by
    simp only [PyData.depth]
    omega
  show (PyData.canLay0 (.tuple (xs.map f)) && decide (PyData.depth (.tuple (xs.map f)) ≤ 64)) = true
  rw [Bool.and_eq_true]
  exact ⟨by simp only [PyData.canLay0]; exact lay_map f xs h1, decide_eq_true h3⟩
theorem shaped_tstrs {ss : List Str} (h : ∀ s ∈ ss, PyData.strOk s = true) : SeqAt.shaped (.tuple (ss.map .str)) = true := shaped_tup (fun x hx => by simp [PyData.canLay0, h x hx]) (fun x _ => by simp [PyData.depth])
section
variable {q : Option Addr} {X : Cx} {σ : L2.St} {F H F0 H0 : Hp} {a b : Expr} {pos p : Pos} {x : Str} {ss : List Str} {l : Addr} {s : Str} {d : PyData} {ds : List PyData}
/-- a text in a list that may change -/
theorem c_inLM (i : Nat) (ha : XD q X a σ F H (.str s)) (hH : H l = some (.lst (ss.map .str))) (hq : q ≠ some l) (hN : X.N[i]? = some x := by rfl) (hσ : σ[i]? = some (some (.ref l)) := by rfl) (hv : Vis X.env.scope x := by first | exact Or.inl rfl | exact Or.inr (Or.inl rfl) | exact Or.inr (Or.inr rfl))
    (hd : (x == ("__debug__" : Str)) = false := by decide) (hcd : (x == ("__classdict__" : Str)) = false := by decide) (hm : behindInMarks .In (.Name x p) = false := by rfl) : XCm q X .In a (.Name x p) σ F H (decide (s ∈ ss)) :=
  x_cmp op_in_seq mono_dt ha (x_var hN hσ (T := is (.ref l)) rfl mono_is hv hd hcd) (fun y z F1 H1 g hy hz Q k => by
    rw [ds_str hy, hz]
    refine ⟨l, _, rfl, .inl (SqL.of (g.h _ _ hq hH)), rfl, flat_strs ss, ?_⟩
    rw [inV_strs]
    exact k F1 H1 g.end) hm
theorem xd_neg {i : Int} (ha : XD q X a σ F H (.int i)) : XD q X (.UnaryOp .USub a pos) σ F H (.int (-i)) := fun F1 H1 g Q k =>
  wE_of (pe_un un_neg wE_ok) (ha F1 H1 g _ fun v F2 H2 g2 hv => ⟨i, ds_int hv, k _ F2 H2 g2 (.int _)⟩)
theorem atI_last {α : Type} (xs : List α) (hne : xs ≠ []) : atI xs (-1) = xs.getLast? := by
  unfold atI ixN
  have h : 0 < xs.length := List.length_pos_iff.mpr hne
  rw [if_neg (by omega), if_pos (by omega), List.getLast?_eq_getElem?]
  show xs[((-1 : Int) + (xs.length : Int)).toNat]? = xs[xs.length - 1]?
  congr 1
  omega
end
end R
end
section
set_option Elab.async false
set_option linter.all false
set_option maxRecDepth 100000
set_option maxHeartbeats 4000000
namespace K01
open PySem L2 Evl R
def svs : List Str := ["app", "db", "use"]
def ses : List Str := ["key", "token", "salt", "mint"]
def pairD (p : Str × Str) : PyData := .tuple [.str p.1, .str p.2]
def dfst : PyData → Str
  | .tuple (.str s :: _) => s
  | _ => Str.empty
def dsnd : PyData → Str
  | .tuple (_ :: .str s :: _) => s
  | _ => Str.empty
def Row.key (r : Row) : Str × Str := (r.sv, r.se)
/-- the rows that are drawn -/
structure Valid (m : Nat) (rs : List Row) : Prop where
  nd : (rs.map Row.key).Nodup
  ne : rs ≠ []
  len : rs.length ≤ m
  sv : ∀ r ∈ rs, r.sv ∈ svs
  se : ∀ r ∈ rs, r.se ∈ ses
  ch : ∀ r ∈ rs, r.ch.Nodup ∧ r.ch.length ≤ 3 ∧ ∀ s ∈ r.ch, s ≠ r.se ∧ (r.sv, s) ∈ rs.map Row.key
  co : ∀ r ∈ rs, 1 ≤ r.co ∧ r.co ≤ 9
theorem _root_.R.Grow.nq {a : Addr} {F H F' H' : Hp} (g : Grow (some a) F H F' H') (h : F a = none) : F' a = none := by
  obtain ⟨ns, hq, _⟩ := g.a0 a rfl
  exact g.n a _ h hq
theorem svs_ok : ∀ s ∈ svs, PyData.strOk s = true := by decide +kernel
theorem ses_ok : ∀ s ∈ ses, PyData.strOk s = true := by decide +kernel
theorem svs_nd : svs.Nodup := by decide +kernel
theorem ses_nd : ses.Nodup := by decide +kernel
def fixP : List (Str × Str) → List (Str × Str)
  | [] => [("app", "key")]
  | ps => ps
structure Pairs (m : Nat) (ps : List (Str × Str)) : Prop where
  nd : ps.Nodup
  len : ps.length ≤ m
  sv : ∀ p ∈ ps, p.1 ∈ svs
  se : ∀ p ∈ ps, p.2 ∈ ses
theorem Pairs.shaped {m : Nat} {ps : List (Str × Str)} (h : Pairs m ps) : SeqAt.shaped (.list (ps.map pairD)) = true :=
  shaped_lst (fun p hp => by simp [pairD, PyData.canLay0, PyData.canLayAll0, svs_ok _ (h.sv p hp), ses_ok _ (h.se p hp)]) (fun p _ => by simp [pairD, PyData.depth, PyData.depthAll])
theorem Pairs.insert {m : Nat} {ps : List (Str × Str)} {x : Str × Str} (h : Pairs m ps) (j : Nat) (hx : x ∉ ps) (hm : ps.length < m) (h1 : x.1 ∈ svs) (h2 : x.2 ∈ ses) : Pairs m (ps.take j ++ [x] ++ ps.drop j) := by
  have hp : List.Perm (ps.take j ++ [x] ++ ps.drop j) (x :: ps) := by
    rw [List.append_assoc]
    refine List.perm_middle.trans ?_
    show List.Perm (x :: (ps.take j ++ ps.drop j)) (x :: ps)
    rw [List.take_append_drop]
  refine ⟨hp.nodup_iff.mpr (List.nodup_cons.mpr ⟨hx, h.nd⟩), by rw [hp.length_eq]; simp; omega, fun p hp' => ?_, fun p hp' => ?_⟩
  · rcases List.mem_cons.mp (hp.mem_iff.mp hp') with rfl | q
    · exact h1
    · exact h.sv p q
  · rcases List.mem_cons.mp (hp.mem_iff.mp hp') with rfl | q
    · exact h2
    · exact h.se p q
theorem others_eq (ps : List (Str × Str)) (sv se : Str) : ((ps.map pairD).filter fun d => decide (dfst d = sv) && !decide (dsnd d = se)).map (fun d => PyData.str (dsnd d)) = ((ps.filter fun p => decide (p.1 = sv) && !decide (p.2 = se)).map (·.2)).map PyData.str := by
  induction ps with
  | nil => rfl
  | cons p ps ih =>
    rw [List.map_cons, List.filter_cons, List.filter_cons]
    show List.map _ (if (decide (p.1 = sv) && !decide (p.2 = se)) = true then _ else _) = _
    by_cases h : (decide (p.1 = sv) && !decide (p.2 = se)) = true
    · rw [if_pos h, if_pos h, List.map_cons, ih]; rfl
    · rw [if_neg h, if_neg h, ih]
theorem others_nd : ∀ (ps : List (Str × Str)) (sv se : Str), ps.Nodup → ((ps.filter fun p => decide (p.1 = sv) && !decide (p.2 = se)).map (·.2)).Nodup
  | [], _, _, _ => List.nodup_nil
  | p :: ps, sv, se, h => by
    obtain ⟨h1, h2⟩ := List.nodup_cons.mp h
    rw [List.filter_cons]
    by_cases q : (decide (p.1 = sv) && !decide (p.2 = se)) = true
    · rw [if_pos q, List.map_cons]
      refine List.nodup_cons.mpr ⟨fun hm => ?_, others_nd ps sv se h2⟩
      obtain ⟨r, hr, e⟩ := List.mem_map.mp hm
      obtain ⟨hr1, hr2⟩ := List.mem_filter.mp hr
      simp only [Bool.and_eq_true, decide_eq_true_eq] at q hr2
      exact h1 (by
        have : p = r := Prod.ext (q.1.trans hr2.1.symm) e.symm
        rw [this]; exact hr1)
    · rw [if_neg q]; exact others_nd ps sv se h2
theorem others_mem {ps : List (Str × Str)} {sv se s : Str} (h : s ∈ (ps.filter fun p => decide (p.1 = sv) && !decide (p.2 = se)).map (·.2)) : s ≠ se ∧ (sv, s) ∈ ps := by
  obtain ⟨r, hr, rfl⟩ := List.mem_map.mp h
  obtain ⟨hr1, hr2⟩ := List.mem_filter.mp hr
  simp only [Bool.and_eq_true, decide_eq_true_eq, Bool.not_eq_true', decide_eq_false_iff_not] at hr2
  exact ⟨hr2.2, by rw [← hr2.1]; exact hr1⟩
theorem erase_perm {α : Type} : ∀ (l : List α) (n : Nat) (h : n < l.length), List.Perm (l[n] :: l.eraseIdx n) l
  | x :: l, 0, _ => List.Perm.refl _
  | x :: l, n + 1, h => by
    have h' : n < l.length := by simpa using h
    show List.Perm (l[n] :: x :: l.eraseIdx n) (x :: l)
    exact (List.Perm.swap x _ _).trans (List.Perm.cons x (erase_perm l n h'))
theorem pop_perm {cs rem os : List Str} {n : Nat} {r : Str} (h : List.Perm (cs ++ rem) os) (hn : rem[n]? = some r) : List.Perm (cs ++ [r] ++ rem.eraseIdx n) os := by
  refine List.Perm.trans ?_ h
  rw [List.append_assoc]
  refine List.Perm.append_left _ ?_
  obtain ⟨hlt, e⟩ := List.getElem?_eq_some_iff.mp hn
  subst e
  exact erase_perm rem n hlt
theorem erase_map : ∀ (rem : List Str) (n : Nat), (rem.map V.str).eraseIdx n = (rem.eraseIdx n).map V.str
  | [], _ => rfl
  | x :: l, 0 => rfl
  | x :: l, n + 1 => congrArg (V.str x :: ·) (erase_map l n)
section
variable {P : Program} {w : World} {K : PySem.W.Frag} {mg : Str → Option Value} {base : Heap}
abbrev sRows : Stmt := top 53
theorem scRows : FnScope ["_law_draws", "_law_most", "_law_pairs", "_law_service", "_law_secret", "_law_found", "_law_others", "_law_channel_here", "_law_turn", "_law_other"] ["_law_draws", "_law_most"] (defScope sRows) := ⟨rfl, rfl, rfl, by decide +kernel, rfl, by decide +kernel, by decide +kernel⟩
def spRows : Sp := fun vs H Q _ => ∃ (a : Addr) (F : Hp) (m : Nat), vs = [.ref a, .int m] ∧ Ex F H ∧ F a = none ∧ Alive (some a) H ∧ 1 ≤ m ∧ m ≤ 50 ∧ ∀ v rs F2 H2, Grow (some a) F H F2 H2 → Ds F2 v (rowsD rs) → Valid m rs → Q v H2
/-- what stands between two turns of the inner loop: the pairs so far, all of earlier services, or of this one with earlier secrets -/
def InRows (a l : Addr) (m : Nat) (F' H' : Hp) (ps : List (Str × Str)) : Prop := F' l = none ∧ l ≠ a ∧ Pairs m ps ∧ ∃ vs, H' l = some (.lst vs) ∧ DsAll F' vs (ps.map pairD)
theorem InRows.mono {a l : Addr} {m : Nat} {F' H' F'' H'' : Hp} {ps : List (Str × Str)} (h : InRows a l m F' H' ps) (g : Grow (some a) F' H' F'' H'') : InRows a l m F'' H'' ps := by
  obtain ⟨h1, h2, h3, vs, h4, h5⟩ := h
  exact ⟨g.n l _ h1 h4, h2, h3, vs, g.h l _ (fun e => h2 (Option.some.inj e).symm) h4, h5.mono g.f⟩
theorem ok_rows (CT : Cal P w K mg base "_law_take" 1 ["_law_draws", "_law_many"] spTake) (B : Bn mg) {f : Addr} {fd : FuncData} (Fn : Fun K "_law_drawn_rows" "_law_drawn_rows" sRows f fd) : FnOk P w K mg base CX0 2 f fd ["_law_draws", "_law_most"] spRows := by
  refine Fn.ok scRows (fun vs H Q E h => ?_) (fun cdv A outer s H vs Q E hr h => ⟨_, wSs_ok, ?_⟩)
  · obtain ⟨a, F, m, rfl, _⟩ := h
    rfl
  obtain ⟨a, F, m, rfl, s0, hFa, al, hm1, hm2, kq⟩ := h
  have g0 : Grow (some a) F H F H := Grow.refl s0 al
  obtain ⟨ns0, hHa, _⟩ := id al a rfl
  refine ss_cons (s_setM (i := 2) (ds := []) scRows.nd rfl (xm_lst (ds := []) xa_nil) g0 fun l xs F1 H1 g1 h0l hF1 hH1 hx => ?_)
  cases hx
  have hla : l ≠ a := fun e => by rw [e, hHa] at h0l; cases h0l
  have hF1a : F1 a = none := g1.n a _ hFa hHa
  refine ss_cons (s_forn (asg := fun σ vs => σ.set 3 vs.head?) (gx := gName 3) (esf := fun d => [d]) (RR := fun ds => ∃ ss : List Str, ds = ss.map .str ∧ List.Sublist ss svs) rfl PassesOwn.never (xin_tup (XP.imp (x_slT (ds := svs.map .str) (xd_tup (ds := svs.map .str) (xa_cons mono_dt xd_str (xa_cons mono_dt xd_str (xa_cons mono_dt xd_str xa_nil))) (by decide)) .no (.yes (xz_add xz_c (xtk (l := a) (R1 := fun i => i = 3) CT hr (by decide) (x_var (i := 0) rfl rfl rfl mono_is) xz_c (fun i hi => by omega) hF1a)))) ?_)) (pg_name (i := 3) scRows.nd rfl (.inr rfl)) (fun ds d _ _ => tgt_name) g1
    (fun ds i σ F' H' => ∃ (ps : List (Str × Str)) (t u : Option V), σ = [some (.ref a), some (.int m), some (.ref l), t, u, none, none, none, none, none] ∧ F' a = none ∧ InRows a l m F' H' ps ∧ ∀ p ∈ ps, PyData.str p.1 ∈ ds.take i) ?_ ?_ ?_ ?_)
  · rintro v F3 ⟨i, j, _, _, hv⟩
    exact ⟨_, hv, cutL svs i j, cutL_map _ _ _ _, cutL_sub _ _ _⟩
  · rintro ds i σ' F' H' F'' H'' ⟨ps, t, u, rfl, h1, h2, h3⟩ g
    exact ⟨ps, t, u, rfl, g.nq h1, h2.mono g, h3⟩
  · rintro ds F2 H2 _ g
    exact ⟨[], none, none, rfl, g.nq hF1a, ⟨g.n l _ hF1 hH1, hla, ⟨List.nodup_nil, Nat.zero_le _, by simp, by simp⟩, [], g.h l _ (fun e => hla (Option.some.inj e).symm) hH1, .nil⟩, by simp⟩
  · rintro ds i d vs σ' F' H' ⟨ss, rfl, hss⟩ hd e1 gg ⟨ps, t, u, rfl, hF'a, hin, hps⟩ hvs
    obtain ⟨x, rfl, hx⟩ := hvs.one
    rw [List.getElem?_map] at hd
    obtain ⟨sv, hsv, rfl⟩ := Option.map_eq_some_iff.mp hd
    cases hx
    have hsvm : sv ∈ svs := hss.subset (List.mem_of_getElem? hsv)
    -- the inner loop
    refine ss_cons (s_for (asg := fun σ vs => σ.set 4 vs.head?) (gx := gName 4) (esf := fun d => [d]) rfl PassesOwn.never (xi_tup (ds := ses.map .str) (xd_tup (ds := ses.map .str) (xa_cons mono_dt xd_str (xa_cons mono_dt xd_str (xa_cons mono_dt xd_str (xa_cons mono_dt xd_str xa_nil)))) (by decide))) (pg_name (i := 4) scRows.nd rfl (.inr rfl)) (fun d _ => tgt_name) gg
      (fun j σ F' H' => ∃ (ps : List (Str × Str)) (u : Option V), σ = [some (.ref a), some (.int m), some (.ref l), some (.str sv), u, none, none, none, none, none] ∧ F' a = none ∧ InRows a l m F' H' ps ∧ ∀ p ∈ ps, p.1 ∈ ss.take i ∨ (p.1 = sv ∧ p.2 ∈ ses.take j)) ?_ ?_ ?_ ?_)
    · rintro j σ' F' H' F'' H'' ⟨ps, u, rfl, h1, h2, h3⟩ g
      exact ⟨ps, u, rfl, g.nq h1, h2.mono g, h3⟩
    · refine ⟨ps, u, rfl, hF'a, hin, fun p hp => .inl ?_⟩
      have := hps p hp
      rw [← List.map_take] at this
      obtain ⟨s, hs, e⟩ := List.mem_map.mp this
      cases e
      exact hs
    · rintro j d vs σ' F3 H3 hd e3 gg3 ⟨ps, u, rfl, hF3a, hin, hps⟩ hvs
      obtain ⟨x, rfl, hx⟩ := hvs.one
      rw [List.getElem?_map] at hd
      obtain ⟨se, hse, rfl⟩ := Option.map_eq_some_iff.mp hd
      cases hx
      have hsem : se ∈ ses := List.mem_of_getElem? hse
      obtain ⟨hF3l, _, hpp, ws, hH3l, hws⟩ := id hin
      have hwl : ws.length = ps.length := by rw [hws.length, List.length_map]
      have hnew : (sv, se) ∉ ps := fun hmem => by
        rcases hps _ hmem with h | ⟨_, h⟩
        · have hnd := hss.nodup svs_nd
          have h1 := List.take_append_drop i ss
          rw [← h1] at hnd
          have h2 : sv ∈ ss.drop i := by
            refine List.mem_of_getElem? (i := 0) ?_
            rw [List.getElem?_drop]
            exact hsv
          exact (List.nodup_append.mp hnd).2.2 sv h sv h2 rfl
        · have hnd := ses_nd
          have h1 := List.take_append_drop j ses
          rw [← h1] at hnd
          have h2 : se ∈ ses.drop j := by
            refine List.mem_of_getElem? (i := 0) ?_
            rw [List.getElem?_drop]
            exact hse
          exact (List.nodup_append.mp hnd).2.2 se h se h2 rfl
      have hstep : ∀ p : Str × Str, (p.1 ∈ ss.take i ∨ (p.1 = sv ∧ p.2 ∈ ses.take j)) → (p.1 ∈ ss.take i ∨ (p.1 = sv ∧ p.2 ∈ ses.take (j + 1))) := fun p h => by
        rcases h with h | ⟨h1, h2⟩
        · exact .inl h
        · refine .inr ⟨h1, ?_⟩
          rw [List.take_succ]
          exact List.mem_append_left _ h2
      have hlq : some a ≠ some l := fun e => hla (Option.some.inj e).symm
      refine ss_cons (s_ifn (XWn.xt (xwn_and (xtn_cmpI (f := fun i j => decide (j < i)) op_gt (xtk (l := a) (R1 := fun i => i = 3) CT hr (by decide) (x_var (i := 0) rfl rfl rfl mono_is) xz_c (fun i hi => by omega) hF3a) xz_c) (fun _ => xwn_and1 (xtn_cmpI (f := fun i j => decide (i < j)) op_lt (xz_lenM B 2 hH3l hlq) (xvz 1))))) gg3 (fun hb F4 H4 g4 => ?_) (fun hb F4 H4 g4 => ?_))
      · obtain ⟨_, i1, j1, hij, rfl, rfl⟩ := hb rfl
        have hlt : ps.length < m := by
          have := of_decide_eq_true hij.symm
          omega
        have hin4 := hin.mono g4
        obtain ⟨hF4l, _, _, ws4, hH4l, hws4⟩ := id hin4
        have hwl4 : ws4.length = ps.length := by rw [hws4.length, List.length_map]
        have hF4a : F4 a = none := g4.nq hF3a
        refine ss_cons (s_insert (l := l) (i := 2) (T := dt (pairD (sv, se))) (R1 := fun z => 0 ≤ z ∧ z < ws4.length + 1) rfl rfl hF4l h0l hH4l (by omega) (XP.zimp (xtk (l := a) CT hr (by decide) (x_var (i := 0) rfl rfl rfl mono_is) (xz_add (xz_lenM B 2 hH4l hlq) xz_c) (by rintro i ⟨i1, j1, rfl, rfl, rfl⟩; omega) hF4a) ?_) (xd_tup (ds := [.str sv, .str se]) (xa_cons mono_dt (xv 3 (.str sv)) (xa_cons mono_dt (xv 4 (.str se)) xa_nil))) (gg3.trans g4) (fun z hz => by omega) fun z v F5 H5 g5 hz hv hF5l => ss_nil (ss_nil ?_))
        · rintro z ⟨mm, ⟨i1, j1, rfl, rfl, rfl⟩, h1, h2⟩
          exact ⟨h1, h2⟩
        · have gg5 := ((gg3.trans g4).trans g5).put (o := .lst (ws4.take z.toNat ++ [v] ++ ws4.drop z.toNat)) h0l hF5l
          refine ⟨F5, g4.f.trans g5.f, gg5, ps.take z.toNat ++ [(sv, se)] ++ ps.drop z.toNat, _, rfl, (g4.trans g5).nq hF3a, ⟨hF5l, hla, hpp.insert _ hnew hlt hsvm hsem, _, upd_same, ?_⟩, fun p hp => ?_⟩
          · rw [List.map_append, List.map_append, List.map_take, List.map_drop]
            exact (((hws4.mono g5.f).take _).append (.cons hv .nil)).append ((hws4.mono g5.f).drop _)
          · have hp' : p = (sv, se) ∨ p ∈ ps := by
              rcases List.mem_append.mp hp with h | h
              · rcases List.mem_append.mp h with h | h
                · exact .inr (List.mem_of_mem_take h)
                · exact .inl (by simpa using h)
              · exact .inr (List.mem_of_mem_drop h)
            rcases hp' with rfl | h
            · refine .inr ⟨rfl, ?_⟩
              rw [List.take_succ, hse]
              exact List.mem_append_right _ (by simp)
            · exact hstep p (hps p h)
      · exact ss_nil (ss_nil ⟨F4, g4.f, gg3.trans g4, ps, _, rfl, g4.nq hF3a, hin.mono g4, fun p hp => hstep p (hps p hp)⟩)
    · rintro σ' F3 H3 e3 gg3 ⟨ps, u, rfl, hF3a, hin, hps⟩
      refine ss_nil ⟨F3, e3, gg3, ps, _, _, rfl, hF3a, hin, fun p hp => ?_⟩
      rw [← List.map_take, List.take_succ, hsv]
      rcases hps p hp with h | ⟨h, _⟩
      · exact List.mem_map.mpr ⟨_, List.mem_append_left _ h, rfl⟩
      · exact List.mem_map.mpr ⟨_, List.mem_append_right _ (by simp [h]), rfl⟩
  · rintro ds σ' F2 H2 ⟨ss, rfl, hss⟩ e2 gg ⟨ps, t, u, rfl, hF2a, ⟨hF2l, _, hpp, ws, hH2l, hws⟩, _⟩
    have hlq : some a ≠ some l := fun e => hla (Option.some.inj e).symm
    obtain ⟨gf, hdl⟩ := gg.freeze h0l hF2l hH2l hws
    have hpp2 : Pairs m (fixP ps) := by
      cases ps with
      | nil => exact ⟨by decide +kernel, hm1, by decide +kernel, by decide +kernel⟩
      | cons p ps => exact hpp
    have hne2 : fixP ps ≠ [] := by cases ps <;> simp [fixP]
    refine ss_cons (s_set (i := 2) (T := dt (.list ((fixP ps).map pairD))) scRows.nd rfl (XD.eq (xd_ifexp (xt_cmp (c_ne hr.units (xv 2 hdl) (XM.xd (xm_lst (ds := []) xa_nil)) hpp.shaped (by decide))) (fun _ => xv 2 hdl) (fun _ => XM.xd (xm_lst (ds := [pairD ("app", "key")]) (xa_cons mono_dt (xd_tup (ds := [.str "app", .str "key"]) (xa_cons mono_dt xd_str (xa_cons mono_dt xd_str xa_nil))) xa_nil)))) ?_) gf fun v2 F3 H3 g3 h3 => ?_)
    · cases ps <;> simp [PyData.eqv, PyData.eqvAll, fixP]
    generalize fixP ps = ps2 at h3 hpp2 hne2
    have gg3 := gf.trans g3
    refine ss_cons (s_setM (i := 5) (ds := []) scRows.nd rfl (xm_lst (ds := []) xa_nil) gg3 fun lf xs F4 H4 g4 h3f hF4 hH4 hx => ?_)
    cases hx
    have gg4 := gg3.trans g4
    have h0f : H lf = none := gg3.fresh h3f
    have hfa : some a ≠ some lf := fun e => by rw [← Option.some.inj e, hHa] at h0f; cases h0f
    refine ss_cons (s_for (asg := fun σ vs => (σ.set 3 vs[0]?).set 4 vs[1]?) (gx := gTup K 2 (gCons (gName 3) (gCons (gName 4) gNil))) (esf := fun d => match d with | .tuple es => es | _ => []) rfl PassesOwn.never (xi_lst (ds := ps2.map pairD) (xv 2 (h3.mono g4.f))) (pg_tup rfl (pgs_cons (pg_name (i := 3) scRows.nd rfl (.inr rfl)) (pgs_cons (pg_name (i := 4) scRows.nd rfl (.inr rfl)) pgs_nil))) (fun d hd => ?_) gg4
      (fun i σ F' H' => ∃ (t u o c n : Option V) (rs : List Row), σ = [some (.ref a), some (.int m), some v2, t, u, some (.ref lf), o, c, n, none] ∧ F' a = none ∧ F' lf = none ∧ (∃ vs, H' lf = some (.lst vs) ∧ DsAll F' vs (rs.map Row.d)) ∧ rs.map Row.key = ps2.take i ∧
        (∀ r ∈ rs, r.ch.Nodup ∧ r.ch.length ≤ 3 ∧ ∀ s ∈ r.ch, s ≠ r.se ∧ (r.sv, s) ∈ ps2) ∧ ∀ r ∈ rs, 1 ≤ r.co ∧ r.co ≤ 9) ?_ ?_ ?_ ?_)
    · obtain ⟨p, hm, rfl⟩ := List.mem_map.mp hd
      exact tgt_tup2
    · rintro i σ' F' H' F'' H'' ⟨t, u, o, c, n, rs, rfl, h1, h2, ⟨vs, h3, h4⟩, h5⟩ g
      exact ⟨t, u, o, c, n, rs, rfl, g.nq h1, g.n lf _ h2 h3, ⟨vs, g.h lf _ hfa h3, h4.mono g.f⟩, h5⟩
    · exact ⟨_, _, _, _, _, [], rfl, gg4.nq hFa, hF4, ⟨[], hH4, .nil⟩, rfl, by simp, by simp⟩
    · rintro i d vs σ' F5 H5 hd e5 gg5 ⟨t, u, o, c, n, rs, rfl, hF5a, hF5f, ⟨ws5, hH5, hws5⟩, hkey, hch, hco⟩ hvs
      rw [List.getElem?_map] at hd
      obtain ⟨⟨sv, se⟩, hp, rfl⟩ := Option.map_eq_some_iff.mp hd
      obtain ⟨x, y, rfl, hx, hy⟩ := hvs.two
      cases hx
      cases hy
      have hpm : (sv, se) ∈ ps2 := List.mem_of_getElem? hp
      have hwl : ws5.length = rs.length := by rw [hws5.length, List.length_map]
      have hrl : rs.length ≤ m := by
        have := congrArg List.length hkey
        rw [List.length_map, List.length_take] at this
        have := hpp2.len
        omega
      -- others
      refine ss_cons (s_lcIf (i := 6) (ds := ps2.map pairD) (own := [("_law_other", 9)]) (gx := gName 9) (asg := fun σ vs => σ.set 9 vs.head?) (esf := fun d => [d]) (pr := fun d => decide (dfst d = sv) && !decide (dsnd d = se)) (gm := fun d => .str (dsnd d)) rfl rfl (sw_true rfl rfl rfl (by decide +kernel)) gg5 (fun lo wo F6 H6 g6 hno hF6o hH6o hwo => ?_)
        ⟨rfl, scRows.nd, blkOk_by (N := ["_law_draws", "_law_most", "_law_pairs", "_law_service", "_law_secret", "_law_found", "_law_others", "_law_channel_here", "_law_turn", "_law_other"]) (sc := defScope sRows) (by decide +kernel), fun _ _ _ _ _ => pg_name (i := 9) scRows.nd rfl (.inl rfl), fun _ => rfl⟩ (xi_lst (xv 2 (h3.mono (g4.f.trans e5)))) (fun d _ => tgt_name) (by rw [List.length_map]; have := hpp2.len; omega) (fun _ => rfl) (fun d vs F6 H6 hd g6 hvs => ?_) (fun d vs F6 H6 hd _ g6 hvs => ?_))
      · rw [others_eq] at hwo
        have hond := others_nd ps2 sv se hpp2.nd
        have homem : ∀ s ∈ (ps2.filter fun p => decide (p.1 = sv) && !decide (p.2 = se)).map (·.2), s ≠ se ∧ (sv, s) ∈ ps2 := fun s hs => others_mem hs
        have hosl : ((ps2.filter fun p => decide (p.1 = sv) && !decide (p.2 = se)).map (·.2)).length ≤ 50 := by
          rw [List.length_map]
          exact Nat.le_trans (List.length_filter_le _ _) (Nat.le_trans hpp2.len hm2)
        generalize (ps2.filter fun p => decide (p.1 = sv) && !decide (p.2 = se)).map (·.2) = os at hwo hond homem hosl
        rw [DsAll.strs hwo] at hH6o
        have gg6 := gg5.trans g6
        have h0o : H lo = none := gg5.fresh hno
        have hoa : some a ≠ some lo := fun e => by rw [← Option.some.inj e, hHa] at h0o; cases h0o
        have hH6f := g6.h lf _ hfa hH5
        have hF6f := g6.n lf _ hF5f hH5
        refine ss_cons (s_setM (i := 7) (ds := []) scRows.nd rfl (xm_lst (ds := []) xa_nil) gg6 fun lc xs F7 H7 g7 h6c hF7c hH7c hx => ?_)
        cases hx
        have gg7 := gg6.trans g7
        have h0c : H lc = none := gg6.fresh h6c
        have hca : some a ≠ some lc := fun e => by rw [← Option.some.inj e, hHa] at h0c; cases h0c
        have hco' : lc ≠ lo := fun e => by rw [e, hH6o] at h6c; cases h6c
        have hcf : lc ≠ lf := fun e => by rw [e, hH6f] at h6c; cases h6c
        have hof : lo ≠ lf := fun e => by rw [e, hH5] at hno; cases hno
        refine ss_cons (s_forn (asg := fun σ vs => σ.set 8 vs.head?) (gx := gName 8) (esf := fun d => [d]) rfl PassesOwn.never (xin_rng (R1 := fun z => 0 ≤ z ∧ z < 4) B (XP.zimp (xtk (l := a) (R1 := fun i => i = 4) CT hr (by decide) (x_var (i := 0) rfl rfl rfl mono_is) xz_c (fun i hi => by omega) (gg7.nq hFa)) (by rintro z ⟨mm, rfl, h1, h2⟩; exact ⟨h1, h2⟩)) (fun z hz => by omega)) (pg_name (i := 8) scRows.nd rfl (.inl rfl)) (fun ds d _ _ => tgt_name) gg7
          (fun ds i σ F' H' => ∃ (tn : Option V) (cs rem : List Str), σ = [some (.ref a), some (.int m), some v2, some (.str sv), some (.str se), some (.ref lf), some (.ref lo), some (.ref lc), tn, none] ∧ F' lo = none ∧ F' lc = none ∧ F' lf = none ∧ H' lo = some (.lst (rem.map .str)) ∧ H' lc = some (.lst (cs.map .str)) ∧
            (∃ vs, H' lf = some (.lst vs) ∧ DsAll F' vs (rs.map Row.d)) ∧ cs.length ≤ i ∧ List.Perm (cs ++ rem) os) ?_ ?_ ?_ ?_)
        · rintro ds i σ' F' H' F'' H'' ⟨tn, cs, rem, rfl, h1, h2, h3, h4, h5, ⟨vs, h6, h7⟩, h8⟩ g
          exact ⟨tn, cs, rem, rfl, g.n _ _ h1 h4, g.n _ _ h2 h5, g.n _ _ h3 h6, g.h _ _ hoa h4, g.h _ _ hca h5, ⟨vs, g.h _ _ hfa h6, h7.mono g.f⟩, h8⟩
        · rintro ds F8 H8 _ g
          have gw := g7.trans g
          exact ⟨_, [], os, rfl, gw.n _ _ hF6o hH6o, g.n _ _ hF7c hH7c, gw.n _ _ hF6f hH6f, gw.h _ _ hoa hH6o, g.h _ _ hca hH7c, ⟨_, gw.h _ _ hfa hH6f, hws5.mono (g6.f.trans gw.f)⟩, Nat.le_refl _, List.Perm.refl _⟩
        · rintro ds i d vs σ' F8 H8 ⟨n, hn, rfl⟩ hd e8 gg8 ⟨tn, cs, rem, rfl, hFo, hFc, hFf, hHo, hHc, ⟨vf, hHf, hvf⟩, hcl, hperm⟩ hvs
          obtain ⟨x, rfl, hx⟩ := hvs.one
          have hreml : rem.length ≤ 50 := by have := hperm.length_eq; rw [List.length_append] at this; omega
          have hcsl : cs.length ≤ 50 := by have := hperm.length_eq; rw [List.length_append] at this; omega
          have hok : ∀ s ∈ rem, PyData.strOk s = true := fun s hs => ses_ok _ (hpp2.se _ (homem s (hperm.mem_iff.mp (List.mem_append_right _ hs))).2)
          refine ss_cons (s_if (xt_neM hr.units 6 hHo (DsAll.of_strs rem) (shaped_strs hok) hoa) gg8 (fun hb F9 H9 g9 => ?_) (fun hb F9 H9 g9 => ?_))
          · have hrem : rem ≠ [] := by rintro rfl; cases hb
            have hrl : 0 < rem.length := List.length_pos_iff.mpr hrem
            have gg9 := gg8.trans g9
            have hH9o := g9.h _ _ hoa hHo
            have hH9c := g9.h _ _ hca hHc
            refine ss_cons (s_appPop (l := lc) (m := lo) (i := 7) (j := 6) (R1 := fun z => 0 ≤ z ∧ z < rem.length) rfl rfl rfl rfl hco' (g9.n _ _ hFc hHc) (g9.n _ _ hFo hHo) h0c h0o hH9c hH9o (by rw [List.length_map]; omega) (XP.zimp (xtk (l := a) CT hr (by decide) (x_var (i := 0) rfl rfl rfl mono_is) (xz_lenM B 6 hH9o hoa) (by rintro i rfl; rw [List.length_map]; omega) (gg9.nq hFa)) (by rintro z ⟨mm, rfl, h1, h2⟩; rw [List.length_map] at h2; exact ⟨h1, h2⟩)) gg9 (fun z hz => by rw [List.length_map]; exact hz) (by rw [List.length_map]; omega) fun n v F10 H10 g10 hn' hv hF10c hF10o => ss_nil (ss_nil ?_))
            rw [List.getElem?_map] at hv
            obtain ⟨r, hrn, rfl⟩ := Option.map_eq_some_iff.mp hv
            have gg10 := ((gg9.trans g10).put (o := .lst ((rem.map V.str).eraseIdx n)) h0o hF10o).put (o := .lst (cs.map V.str ++ [.str r])) h0c hF10c
            have hH10f := g10.h _ _ hfa (g9.h _ _ hfa hHf)
            refine ⟨F10, g9.f.trans g10.f, gg10, _, cs ++ [r], rem.eraseIdx n, rfl, hF10o, hF10c, (g9.trans g10).n _ _ hFf hHf, ?_, ?_, ⟨vf, ?_, hvf.mono (g9.f.trans g10.f)⟩, by simp; omega, pop_perm hperm hrn⟩
            · rw [upd_ne hco'.symm, upd_same, erase_map]
            · rw [upd_same, List.map_append]; rfl
            · rw [upd_ne hcf.symm, upd_ne hof.symm]; exact hH10f
          · exact ss_nil (ss_nil ⟨F9, g9.f, gg8.trans g9, _, cs, rem, rfl, g9.n _ _ hFo hHo, g9.n _ _ hFc hHc, g9.n _ _ hFf hHf, g9.h _ _ hoa hHo, g9.h _ _ hca hHc, ⟨vf, g9.h _ _ hfa hHf, hvf.mono g9.f⟩, by omega, hperm⟩)
        · rintro ds σ' F8 H8 ⟨n, hn, rfl⟩ e8 gg8 ⟨tn, cs, rem, rfl, hFo, hFc, hFf, hHo, hHc, ⟨vf, hHf, hvf⟩, hcl, hperm⟩
          rw [List.length_map, List.length_range] at hcl
          obtain ⟨gfc, hdc⟩ := gg8.freeze h0c hFc hHc (DsAll.of_strs cs)
          have hvl : vf.length = rs.length := by rw [hvf.length, List.length_map]
          refine ss_cons (s_append (l := lf) (i := 5) (T := fun v F => ∃ co : Int, (1 ≤ co ∧ co ≤ 9) ∧ Ds F v (Row.d ⟨sv, se, cs, co⟩)) rfl rfl (by rw [upd_ne hcf.symm]; exact hFf) h0f hHf (by omega) (XP.imp (x_tupn (Ts := [dt (.str sv), dt (.str se), dt (.tuple (cs.map .str)), tZ fun z => 1 ≤ z ∧ z ≤ 9]) (by
              intro T hT
              rcases List.mem_cons.mp hT with rfl | hT
              · exact mono_dt
              rcases List.mem_cons.mp hT with rfl | hT
              · exact mono_dt
              rcases List.mem_cons.mp hT with rfl | hT
              · exact mono_dt
              rcases List.mem_cons.mp hT with rfl | hT
              · exact mono_tZ
              · cases hT) (xa_cons mono_dt (xv 3 (.str sv)) (xa_cons mono_dt (xv 4 (.str se)) (xa_cons mono_dt (xd_tupleL B (xv 7 hdc)) (xa_cons mono_tZ (XP.zimp (xz_add xz_c (xtk (l := a) (R1 := fun i => i = 9) CT hr (by decide) (x_var (i := 0) rfl rfl rfl mono_is) xz_c (fun i hi => by omega) (gfc.nq hFa))) (by rintro z ⟨i1, j1, rfl, rfl, mm, rfl, h1, h2⟩; omega)) xa_nil))))) ?_) gfc fun v F9 H9 g9 hv hF9 => ss_nil ?_)
          · rintro v F ⟨t, vs, rfl, ht, hA⟩
            match vs, hA with
            | v1 :: v2 :: v3 :: v4 :: vs, ⟨a1, a2, a3, ⟨co, e4, hco⟩, h5⟩ =>
              cases vs with
              | nil => exact ⟨co, hco, .tup ht (.cons a1 (.cons a2 (.cons a3 (.cons (e4 ▸ .int co) .nil))))⟩
              | cons _ _ => exact h5.elim
          · obtain ⟨co, hco9, hdv⟩ := hv
            refine ⟨F9, ((e8.trans (Ex.new hFc)).trans g9.f |> fun z => (g6.f.trans g7.f).trans z), (gfc.trans g9).put h0f hF9, _, _, _, _, _, rs ++ [⟨sv, se, cs, co⟩], rfl, (gfc.trans g9).nq hFa, hF9, ⟨_, upd_same, ?_⟩, ?_, ?_, ?_⟩
            · rw [List.map_append]
              exact (hvf.mono ((Ex.new hFc).trans g9.f)).append (.cons hdv .nil)
            · rw [List.map_append, hkey, List.take_succ, hp]; rfl
            · intro r hr
              rcases List.mem_append.mp hr with h | h
              · exact hch r h
              · rw [List.mem_singleton.mp h]
                have hcn : cs.Nodup := (List.nodup_append.mp (hperm.nodup_iff.mpr hond)).1
                exact ⟨hcn, by simp only; omega, fun s hs => homem s (hperm.mem_iff.mp (List.mem_append_left _ hs))⟩
            · intro r hr
              rcases List.mem_append.mp hr with h | h
              · exact hco r h
              · rw [List.mem_singleton.mp h]; exact hco9
      · intro s' H0' C cl fp
        obtain ⟨x, rfl, hx⟩ := hvs.one
        obtain ⟨p, _, rfl⟩ := List.mem_map.mp hd
        exact XW.xt (xw_and (xt_cmp (c_eqS (xd_ixT (ds := [.str p.1, .str p.2]) (xv 9 hx) xd_int rfl) (xv 3 (.str sv)))) fun _ => xw_and1 (xt_cmp (c_neS (xd_ixT (ds := [.str p.1, .str p.2]) (xv 9 hx) xd_int rfl) (xv 4 (.str se)))))
      · intro s' H0' C cl fp
        obtain ⟨x, rfl, hx⟩ := hvs.one
        obtain ⟨p, _, rfl⟩ := List.mem_map.mp hd
        exact xd_ixT (ds := [.str p.1, .str p.2]) (xv 9 hx) xd_int rfl
    · rintro σ' F5 H5 e5 gg5 ⟨t, u, o, c, n, rs, rfl, hF5a, hF5f, ⟨ws5, hH5, hws5⟩, hkey, hch, hco⟩
      rw [List.length_map, List.take_length] at hkey
      refine ss_cons (s_retM (i := 5) gg5 h0f hF5f hH5 hws5 (fun F6 g6 h6 => kq _ rs F6 H5 g6 h6 ?_) rfl rfl)
      have hk : ∀ r ∈ rs, r.key ∈ ps2 := fun r hr => by rw [← hkey]; exact List.mem_map_of_mem hr
      refine ⟨by rw [hkey]; exact hpp2.nd, fun e => hne2 ?_, ?_, fun r hr => hpp2.sv _ (hk r hr), fun r hr => hpp2.se _ (hk r hr), fun r hr => by rw [hkey]; exact hch r hr, hco⟩
      · rw [← hkey, e]; rfl
      · have := congrArg List.length hkey
        rw [List.length_map] at this
        rw [this]; exact hpp2.len
end
end K01
end
section
set_option Elab.async false
set_option linter.all false
set_option maxRecDepth 100000
set_option maxHeartbeats 4000000
namespace K01
open PySem L2 Evl R
def seenD (s : List Str) : PyData := .tuple (s.map .str)
theorem addNew_sub : ∀ (l f : List Str), (∀ s ∈ f, s ∈ f) → ∀ s ∈ l.foldl addNew f, s ∈ f ∨ s ∈ l
  | [], f, _ => fun s h => .inl h
  | x :: l, f, _ => fun s h => by
    rcases addNew_sub l (addNew f x) (fun _ h => h) s h with h | h
    · unfold addNew at h
      rcases List.mem_append.mp h with h | h
      · exact .inl h
      · by_cases q : x ∈ f
        · rw [if_pos q] at h; cases h
        · rw [if_neg q] at h; rw [List.mem_singleton.mp h]; exact .inr List.mem_cons_self
    · exact .inr (List.mem_cons_of_mem _ h)
theorem addNew_sup : ∀ (l f : List Str), (∀ s ∈ f, s ∈ l.foldl addNew f) ∧ ∀ s ∈ l, s ∈ l.foldl addNew f
  | [], f => ⟨fun s h => h, by simp⟩
  | x :: l, f => by
    obtain ⟨h1, h2⟩ := addNew_sup l (addNew f x)
    refine ⟨fun s h => h1 s (List.mem_append_left _ h), fun s h => ?_⟩
    rcases List.mem_cons.mp h with rfl | h
    · refine h1 _ ?_
      unfold addNew
      by_cases q : s ∈ f
      · exact List.mem_append_left _ q
      · rw [if_neg q]; exact List.mem_append_right _ List.mem_cons_self
    · exact h2 s h
theorem secrets_mem {rs : List Row} {s : Str} : s ∈ secrets rs ↔ ∃ r ∈ rs, r.se = s := by
  constructor
  · intro h
    rcases addNew_sub _ [] (fun _ h => h) s h with h | h
    · cases h
    · obtain ⟨r, hr, e⟩ := List.mem_map.mp h
      exact ⟨r, hr, e⟩
  · rintro ⟨r, hr, rfl⟩
    exact (addNew_sup _ []).2 _ (List.mem_map_of_mem hr)
theorem addNew_nd : ∀ (l f : List Str), f.Nodup → (l.foldl addNew f).Nodup
  | [], f, h => h
  | x :: l, f, h => by
    refine addNew_nd l _ ?_
    unfold addNew
    by_cases q : x ∈ f
    · rw [if_pos q, List.append_nil]; exact h
    · rw [if_neg q]
      refine List.nodup_append.mpr ⟨h, List.nodup_cons.mpr ⟨by simp, List.nodup_nil⟩, fun a ha b hb e => ?_⟩
      rw [List.mem_singleton.mp hb] at e
      exact q (e ▸ ha)
theorem secrets_nd (rs : List Row) : (secrets rs).Nodup := addNew_nd _ [] List.nodup_nil
theorem secrets_len (rs : List Row) : (secrets rs).length ≤ rs.length := by
  have := addNew_len (rs.map (·.se)) []
  rw [List.length_map] at this
  exact Nat.le_trans this (by simp)
section
variable {P : Program} {w : World} {K : PySem.W.Frag} {mg : Str → Option Value} {base : Heap}
/-! _law_drawn_seen -/
abbrev sSeen : Stmt := top 55
theorem scSeen : FnScope ["_law_draws", "_law_rows", "_law_names", "_law_found", "_law_turn", "_law_some", "_law_name"] ["_law_draws", "_law_rows"] (defScope sSeen) := ⟨rfl, rfl, rfl, by decide +kernel, rfl, by decide +kernel, by decide +kernel⟩
/-- a suspicion -/
def Susp (rs : List Row) (s : List Str) : Prop := s ≠ [] ∧ List.Sublist s (secrets rs)
def spSeen : Sp := fun vs H Q _ => ∃ (a : Addr) (F : Hp) (v : V) (m : Nat) (rs : List Row), vs = [.ref a, v] ∧ Ex F H ∧ F a = none ∧ Alive (some a) H ∧ Ds F v (rowsD rs) ∧ Valid m rs ∧ m ≤ 50 ∧
  ∀ v' ss F2 H2, Grow (some a) F H F2 H2 → Ds F2 v' (.list (ss.map seenD)) → ss ≠ [] → ss.length ≤ 3 → (∀ s ∈ ss, Susp rs s) → Q v' H2
theorem ok_seen (CT : Cal P w K mg base "_law_take" 1 ["_law_draws", "_law_many"] spTake) (CS : Cal P w K mg base "_law_secrets" 1 ["_law_rows"] (spD pSec)) (B : Bn mg) {f : Addr} {fd : FuncData} (Fn : Fun K "_law_drawn_seen" "_law_drawn_seen" sSeen f fd) : FnOk P w K mg base CX0 2 f fd ["_law_draws", "_law_rows"] spSeen := by
  refine Fn.ok scSeen (fun vs H Q E h => ?_) (fun cdv A outer s H vs Q E hr h => ⟨_, wSs_ok, ?_⟩)
  · obtain ⟨a, F, v, m, rs, rfl, _⟩ := h
    rfl
  obtain ⟨a, F, v, m, rs, rfl, s0, hFa, al, hv, hval, hm, kq⟩ := h
  have g0 : Grow (some a) F H F H := Grow.refl s0 al
  obtain ⟨ns0, hHa, _⟩ := id al a rfl
  have hsl : (secrets rs).length ≤ 50 := Nat.le_trans (secrets_len rs) (Nat.le_trans hval.len hm)
  refine ss_cons (s_parM (i := 2) (j := 3) (T := dt (strsD (secrets rs))) (ds := []) rfl scSeen.nd rfl rfl (by decide) rfl rfl g0 mono_dt (xc CS hr (by decide) (xa_cons mono_dt (xv 1 hv) xa_nil) ?_) (xm_lst (ds := []) xa_nil) (fun vn l xs F1 H1 g1 hn h0l hF1 hH1 hx => ?_) rfl)
  · rintro vs F1 e ht
    obtain ⟨v1, rfl, h1⟩ := ht.one
    exact ⟨_, rs, rfl, h1, by have := hval.len; omega, rfl⟩
  cases hx
  have hla : some a ≠ some l := fun e => by rw [← Option.some.inj e, hHa] at h0l; cases h0l
  have hn : Ds F1 vn (.list ((secrets rs).map .str)) := hn
  have hsne : secrets rs ≠ [] := fun e => by
    obtain ⟨r, hr⟩ := List.exists_mem_of_ne_nil rs hval.ne
    have := secrets_mem.mpr ⟨r, hr, rfl⟩
    rw [e] at this; cases this
  have hspos : 0 < (secrets rs).length := List.length_pos_iff.mpr hsne
  refine ss_cons (s_forn (asg := fun σ vs => σ.set 4 vs.head?) (gx := gName 4) (esf := fun d => [d]) rfl PassesOwn.never (xin_rng (R1 := fun z => 1 ≤ z ∧ z < 4) B (XP.zimp (xz_add xz_c (xtk (l := a) (R1 := fun i => i = 3) CT hr (by decide) (x_var (i := 0) rfl rfl rfl mono_is) xz_c (fun i hi => by omega) (g1.nq hFa))) (by rintro z ⟨i1, j1, rfl, rfl, mm, rfl, h1, h2⟩; omega)) (fun z hz => by omega)) (pg_name (i := 4) scSeen.nd rfl (.inl rfl)) (fun ds d _ _ => tgt_name) g1
    (fun ds i σ F' H' => ∃ (t u : Option V) (ss : List (List Str)), σ = [some (.ref a), some v, some vn, some (.ref l), t, u, none] ∧ F' l = none ∧ (∃ vs, H' l = some (.lst vs) ∧ DsAll F' vs (ss.map seenD)) ∧ ss.length = i ∧ ∀ s ∈ ss, Susp rs s) ?_ ?_ ?_ ?_)
  · rintro ds i σ' F' H' F'' H'' ⟨t, u, ss, rfl, h1, ⟨vs, h2, h3⟩, h4⟩ g
    exact ⟨t, u, ss, rfl, g.n _ _ h1 h2, ⟨vs, g.h _ _ hla h2, h3.mono g.f⟩, h4⟩
  · rintro ds F2 H2 _ g
    exact ⟨_, _, [], rfl, g.n _ _ hF1 hH1, ⟨[], g.h _ _ hla hH1, .nil⟩, rfl, by simp⟩
  · rintro ds i d vs σ' F' H' ⟨n, hn4, rfl⟩ hd e1 gg ⟨t, u, ss, rfl, hF', ⟨ws, hH', hws⟩, hlen, hss⟩ hvs
    obtain ⟨x, rfl, hx⟩ := hvs.one
    have hi : i < n := by
      have := (List.getElem?_eq_some_iff.mp hd).1
      simpa using this
    have hwl : ws.length = ss.length := by rw [hws.length, List.length_map]
    refine ss_cons (s_lcN (i := 5) (ds := (secrets rs).map .str) (own := [("_law_name", 6)]) (gx := gName 6) (asg := fun σ vs => σ.set 6 vs.head?) (esf := fun d => [d]) (gm := fun d => d) rfl rfl (sw_true rfl rfl rfl (by decide +kernel)) gg (fun lo wo sub F2 H2 g2 hno hF2o hH2o hsub hwo => ?_)
      ⟨rfl, scSeen.nd, blkOk_by (N := ["_law_draws", "_law_rows", "_law_names", "_law_found", "_law_turn", "_law_some", "_law_name"]) (sc := defScope sSeen) (by decide +kernel), fun _ _ _ _ _ => pg_name (i := 6) scSeen.nd rfl (.inl rfl), fun _ => rfl⟩ (xi_lst (xv 2 (hn.mono e1))) (fun d _ => tgt_name) (by rw [List.length_map]; omega) (fun _ => rfl) (fun d vs F2 H2 hd g2 hvs => ?_) (fun d vs F2 H2 hd g2 hvs => ?_))
    · obtain ⟨sb, hsb, rfl⟩ := List.sublist_map_iff.mp hsub
      rw [List.map_id'] at hwo
      have gg2 := gg.trans g2
      have h0o : H lo = none := gg.fresh hno
      have hlo : l ≠ lo := fun e => by rw [← e, hH'] at hno; cases hno
      obtain ⟨gf, hdo⟩ := gg2.freeze h0o hF2o hH2o hwo
      have hH2l := g2.h _ _ hla hH'
      have hF2l := g2.n _ _ hF' hH'
      have hok : ∀ s ∈ sb, PyData.strOk s = true := fun s hs => by
        obtain ⟨r, hr, e⟩ := secrets_mem.mp (hsb.subset hs)
        rw [← e]; exact ses_ok _ (hval.se r hr)
      refine ss_cons (s_append (l := l) (i := 3) (T := fun v F => ∃ s, Susp rs s ∧ Ds F v (seenD s)) rfl rfl (by rw [upd_ne hlo]; exact hF2l) h0l hH2l (by omega) (x_ifexp (xt_cmp (c_ne hr.units (xv 5 hdo) (XM.xd (xm_lst (ds := []) xa_nil)) (shaped_strs hok) (by decide))) (fun hb => XP.imp (xd_tupleL B (xv 5 hdo)) fun v F h => ⟨sb, ⟨?_, hsb⟩, h⟩) (fun hb => XP.imp (x_tupn (Ts := [tS fun s => s ∈ secrets rs]) (by
          intro T hT
          rw [List.mem_singleton.mp hT]
          exact mono_tS) (xa_cons mono_tS (x_ixS (R1 := fun z => 0 ≤ z ∧ z < (secrets rs).length) (xv 2 (hn.mono (e1.trans (g2.f.trans (Ex.new hF2o))))) (XP.zimp (xtk (l := a) CT hr (by decide) (x_var (i := 0) rfl rfl rfl mono_is) (XD.z (xd_lenL B (xv 2 (hn.mono (e1.trans (g2.f.trans (Ex.new hF2o))))))) (by rintro i rfl; rw [List.length_map]; omega) (gf.nq hFa)) (by rintro z ⟨mm, rfl, h1, h2⟩; rw [List.length_map] at h2; exact ⟨h1, h2⟩)) (fun i h => h)) xa_nil)) ?_)) gf fun v F3 H3 g3 hv hF3 => ss_nil ?_)
      · rintro rfl; cases hb
      · rintro v F ⟨t, vs, rfl, ht, hA⟩
        obtain ⟨v1, rfl, s, rfl, hs⟩ := hA.one
        exact ⟨[s], ⟨by simp, List.singleton_sublist.mpr hs⟩, .tup ht (.cons (.str s) .nil)⟩
      · obtain ⟨s, hs, hds⟩ := hv
        refine ⟨F3, g2.f.trans ((Ex.new hF2o).trans g3.f), (gf.trans g3).put h0l hF3, _, _, ss ++ [s], rfl, hF3, ⟨_, upd_same, ?_⟩, by simp [hlen], ?_⟩
        · rw [List.map_append]
          exact (hws.mono (g2.f.trans ((Ex.new hF2o).trans g3.f))).append (.cons hds .nil)
        · intro s' hs'
          rcases List.mem_append.mp hs' with h | h
          · exact hss s' h
          · rw [List.mem_singleton.mp h]; exact hs
    · intro s' H0' C cl fp
      obtain ⟨x, rfl, hx⟩ := hvs.one
      exact XTn.imp (xtn_eqZ (xtk (l := a) (R1 := fun i => i = 3) CT hr (by decide) (x_var (i := 0) rfl rfl rfl mono_is) xz_c (fun i hi => by omega) (g2.nq (gg.nq hFa))) xz_c) fun _ _ => trivial
    · intro s' H0' C cl fp
      obtain ⟨x, rfl, hx⟩ := hvs.one
      exact xv 6 hx
  · rintro ds σ' F' H' ⟨n, hn4, rfl⟩ e1 gg ⟨t, u, ss, rfl, hF', ⟨ws, hH', hws⟩, hlen, hss⟩
    rw [List.length_map, List.length_range] at hlen
    refine ss_cons (s_retM (i := 3) gg h0l hF' hH' hws (fun F3 g3 h3 => kq _ ss F3 H' g3 h3 ?_ ?_ hss) rfl rfl)
    · rintro rfl
      simp at hlen; omega
    · omega
end
end K01
end
section
set_option Elab.async false
set_option linter.all false
set_option maxRecDepth 100000
set_option maxHeartbeats 4000000
namespace K01
open PySem L2 Evl R
def dRow : PyData → Row
  | .tuple [.str a, .str b, .tuple ch, .int co] => ⟨a, b, ch.map dstr, co⟩
  | _ => ⟨Str.empty, Str.empty, [], 0⟩
theorem dRow_d (r : Row) : dRow r.d = r := by
  obtain ⟨a, b, ch, co⟩ := r
  show (⟨a, b, (ch.map PyData.str).map dstr, co⟩ : Row) = _
  rw [List.map_map]
  congr 1
  exact List.map_id' ch
/-- the secrets that an outsider of a suspicion knows -/
inductive Exp (rs : List Row) (seen : List Str) : Str → Prop
  | seen {s : Str} : s ∈ seen → Exp rs seen s
  | row {r : Row} : r ∈ rs → r.ch ≠ [] → (∀ c ∈ r.ch, Exp rs seen c) → Exp rs seen r.se
open Classical in
noncomputable def exposedL (rs : List Row) (seen : List Str) : List Str := (secrets rs).filter fun s => decide (Exp rs seen s)
/-- strings that can be laid -/
structure Names (rs : List Row) : Prop where
  len : rs.length ≤ 50
  sv : ∀ r ∈ rs, PyData.strOk r.sv = true
  se : ∀ r ∈ rs, PyData.strOk r.se = true
  ch : ∀ r ∈ rs, ∀ c ∈ r.ch, PyData.strOk c = true
  chl : ∀ r ∈ rs, r.ch.length ≤ 3
theorem Valid.names {m : Nat} {rs : List Row} (h : Valid m rs) (hm : m ≤ 50) : Names rs where
  len := Nat.le_trans h.len hm
  sv := fun r hr => svs_ok _ (h.sv r hr)
  se := fun r hr => ses_ok _ (h.se r hr)
  ch := fun r hr c hc => by
    obtain ⟨_, h2⟩ := (h.ch r hr).2.2 c hc
    obtain ⟨r', hr', e⟩ := List.mem_map.mp h2
    have : r'.se = c := congrArg Prod.snd e
    rw [← this]; exact ses_ok _ (h.se r' hr')
  chl := fun r hr => (h.ch r hr).2.1
/-- a row whose secret is learned next -/
def nextOk (fo : List Str) (r : Row) : Bool := !decide (r.se ∈ fo) && (!r.ch.isEmpty && r.ch.all fun c => decide (c ∈ fo))
def cnt (rs : List Row) (fo : List Str) : Nat := (rs.filter fun r => !decide (r.se ∈ fo)).length
theorem cnt_le (rs : List Row) (fo : List Str) (x : Str) : cnt rs (fo ++ [x]) ≤ cnt rs fo := by
  unfold cnt
  induction rs with
  | nil => exact Nat.le_refl _
  | cons r rs ih =>
    rw [List.filter_cons, List.filter_cons]
    by_cases h : r.se ∈ fo
    · have h' : r.se ∈ fo ++ [x] := List.mem_append_left _ h
      simp only [h, h', decide_true, Bool.not_true, if_neg Bool.false_ne_true]
      exact ih
    · by_cases h2 : r.se ∈ fo ++ [x]
      · simp only [h, h2, decide_true, decide_false, Bool.not_true, Bool.not_false, if_true, if_neg Bool.false_ne_true, List.length_cons]
        omega
      · simp only [h, h2, decide_false, Bool.not_false, if_true, List.length_cons]
        omega
theorem cnt_lt {rs : List Row} {fo : List Str} {r : Row} (hr : r ∈ rs) (hn : r.se ∉ fo) : cnt rs (fo ++ [r.se]) < cnt rs fo := by
  induction rs with
  | nil => cases hr
  | cons y rs ih =>
    have hle := cnt_le rs fo r.se
    unfold cnt at hle ih ⊢
    rw [List.filter_cons, List.filter_cons]
    rcases List.mem_cons.mp hr with rfl | h
    · have h' : r.se ∈ fo ++ [r.se] := List.mem_append_right _ List.mem_cons_self
      simp only [hn, h', decide_true, decide_false, Bool.not_true, Bool.not_false, if_true, if_neg Bool.false_ne_true, List.length_cons]
      omega
    · have h3 := ih h
      by_cases h1 : y.se ∈ fo
      · have h' : y.se ∈ fo ++ [r.se] := List.mem_append_left _ h1
        simp only [h1, h', decide_true, Bool.not_true, if_neg Bool.false_ne_true]
        exact h3
      · by_cases h2 : y.se ∈ fo ++ [r.se]
        · simp only [h1, h2, decide_true, decide_false, Bool.not_true, Bool.not_false, if_true, if_neg Bool.false_ne_true, List.length_cons]
          omega
        · simp only [h1, h2, decide_false, Bool.not_false, if_true, List.length_cons]
          omega
/-- when nothing is learned any more, all is known -/
theorem closed_exp {rs : List Row} {seen fo : List Str} (h1 : ∀ s ∈ seen, s ∈ fo) (h2 : rs.filter (nextOk fo) = []) : ∀ s, Exp rs seen s → s ∈ fo := by
  intro s h
  induction h with
  | seen h => exact h1 _ h
  | @row r hr hne _ ih =>
    by_cases q : r.se ∈ fo
    · exact q
    · have hn : nextOk fo r = true := by
        unfold nextOk
        have h3 : r.ch.isEmpty = false := by
          cases e : r.ch with
          | nil => exact absurd e hne
          | cons _ _ => rfl
        have h4 : (r.ch.all fun c => decide (c ∈ fo)) = true := List.all_eq_true.mpr fun c hc => decide_eq_true (ih c hc)
        rw [h3, h4]; simp [q]
      have := List.mem_filter.mpr ⟨hr, hn⟩
      rw [h2] at this; cases this
theorem next_exp {rs : List Row} {seen fo : List Str} (h1 : ∀ s ∈ fo, Exp rs seen s) {r : Row} (hr : r ∈ rs) (h : nextOk fo r = true) : Exp rs seen r.se ∧ r.se ∉ fo := by
  unfold nextOk at h
  simp only [Bool.and_eq_true, Bool.not_eq_true', decide_eq_false_iff_not, List.all_eq_true, decide_eq_true_eq] at h
  obtain ⟨a, b, c⟩ := h
  refine ⟨.row hr (fun e => ?_) fun x hx => h1 x (c x hx), a⟩
  rw [e] at b; cases b
theorem cut1 {α : Type} (xs : List α) : cutL xs none (some 1) = xs.take 1 := by
  unfold cutL
  rw [HT.sIx_none, show ((1 : Int)) = ((1 : Nat) : Int) from rfl, HT.sIx_nat, List.drop_zero, Nat.sub_zero]
  cases xs with
  | nil => rfl
  | cons x xs => simp
section
variable {P : Program} {w : World} {K : PySem.W.Frag} {mg : Str → Option Value} {base : Heap}
abbrev sExp : Stmt := top 56
abbrev nExp : List Str := ["_law_rows", "_law_seen", "_law_found", "_law_more", "_law_some", "_law_row", "_law_one", "_law_name"]
theorem scExp : FnScope nExp ["_law_rows", "_law_seen"] (defScope sExp) := ⟨rfl, rfl, rfl, by decide +kernel, rfl, by decide +kernel, by decide +kernel⟩
def pExp : List V → Hp → TyP → Prop := fun vs F T => ∃ v u rs seen, vs = [v, u] ∧ Ds F v (rowsD rs) ∧ Ds F u (seenD seen) ∧ Names rs ∧ seen.length ≤ 50 ∧ (∀ s ∈ seen, PyData.strOk s = true) ∧ T = dt (strsD (exposedL rs seen))
theorem ok_exp (CS : Cal P w K mg base "_law_secrets" 1 ["_law_rows"] (spD pSec)) (B : Bn mg) {f : Addr} {fd : FuncData} (Fn : Fun K "_law_exposed" "_law_exposed" sExp f fd) : FnOk P w K mg base CX0 2 f fd ["_law_rows", "_law_seen"] (spD pExp) := by
  refine Fn.ok scExp (fun vs H Q E h => ?_) (fun cdv A outer s H vs Q E hr h => ⟨_, wSs_ok, ?_⟩)
  · obtain ⟨F, T, _, ⟨v, u, rs, seen, rfl, _⟩, _⟩ := h
    rfl
  obtain ⟨F, T, s0, ⟨v, u, rs, seen, rfl, hv, hu, hN, hsl, hsok, rfl⟩, kq⟩ := h
  have g0 := Grow.start s0
  refine ss_cons (s_par2 (i := 2) (j := 3) (T := dt (.list (seen.map .str))) (U := dt (.bool true)) rfl scExp.nd rfl rfl (.inr rfl) (.inl rfl) g0 mono_dt mono_dt (XM.xd (xm_list B (.inr (xv 1 hu)))) xd_bl fun vf vm F1 H1 g1 hf hmo => ?_)
  cases hmo
  refine ss_cons (R.s_while PassesOwn.never (fun m σ' F' H' => ∃ (b : Bool) (fo : List Str) (vf : V) (so : Option V), σ' = [some v, some u, some vf, some (.bl b), so, none, none, none] ∧ Ds F' vf (.list (fo.map .str)) ∧ (∀ s ∈ seen, s ∈ fo) ∧ (∀ s ∈ fo, Exp rs seen s) ∧ (b = false → rs.filter (nextOk fo) = []) ∧ fo.length + cnt rs fo ≤ 100 ∧ (∀ s ∈ fo, PyData.strOk s = true) ∧ m = 2 * cnt rs fo + (if b = true then 1 else 0)) _ ⟨true, seen, vf, none, rfl, hf, fun s h => h, fun s h => .seen h, (fun h => nomatch h), ?_, hsok, rfl⟩ g1 ?_)
  · have : cnt rs seen ≤ rs.length := List.length_filter_le _ _
    have := hN.len
    omega
  · rintro m σ' F2 H2 e2 gg ⟨b, fo, vf, so, rfl, hf, hsub, hexp, hcl, hlen, hok, rfl⟩
    refine ⟨b, xt_val (xv 3 (.bl b)), fun hb F3 H3 g3 => ?_, fun hb F3 H3 g3 => ?_⟩
    · subst hb
      refine ⟨_, fun σ3 H4 n => n, ?_⟩
      have gg3 := gg.trans g3
      have hv3 := hv.mono (g1.f.trans (e2.trans g3.f))
      have hf3 := hf.mono g3.f
      refine ss_cons (s_lcIf (i := 4) (ds := rs.map Row.d) (own := [("_law_row", 5)]) (gx := gName 5) (asg := fun σ vs => σ.set 5 vs.head?) (esf := fun d => [d]) (pr := fun d => nextOk fo (dRow d)) (gm := fun d => .str ((dRow d).se)) rfl rfl (sw_true rfl rfl rfl (by decide +kernel)) gg3 (fun lo wo F4 H4 g4 hno hF4o hH4o hwo => ?_)
        ⟨rfl, scExp.nd, blkOk_by (N := nExp) (sc := defScope sExp) (by decide +kernel), fun _ _ _ _ _ => pg_name (i := 5) scExp.nd rfl (.inl rfl), fun _ => rfl⟩ (xi_lst (xv 0 hv3)) (fun d _ => tgt_name) (by rw [List.length_map]; have := hN.len; omega) (fun _ => rfl) (fun d vs F4 H4 hd g4 hvs => ?_) (fun d vs F4 H4 hd _ g4 hvs => ?_))
      · rw [filt_map Row.d dRow dRow_d (nextOk fo) (fun r => PyData.str r.se)] at hwo
        obtain ⟨gf, hdo⟩ := (gg3.trans g4).freeze ((gg3.fresh hno)) hF4o hH4o hwo
        have hdo' : Ds (upd F4 lo (.lst wo)) (.ref lo) (.list (((rs.filter (nextOk fo)).map (·.se)).map .str)) := by rw [List.map_map]; exact hdo
        have hsomeok : ∀ s ∈ (rs.filter (nextOk fo)).map (·.se), PyData.strOk s = true := fun s hs => by
          obtain ⟨r, hr, rfl⟩ := List.mem_map.mp hs
          exact hN.se r (List.mem_filter.mp hr).1
        refine ss_cons (s_set (i := 3) (T := dt (.bool (!((rs.filter (nextOk fo)).map (·.se)).isEmpty))) scExp.nd rfl (XD.eq (xd_cmp (c_ne hr.units (xv 4 hdo') (XM.xd (xm_lst (ds := []) xa_nil)) (shaped_strs hsomeok) (by decide))) (by rw [eqv_lnil, List.isEmpty_map])) gf fun v3 F5 H5 g5 h5 => ?_)
        cases h5
        have gg5 := gf.trans g5
        have hf5 := hf3.mono (g4.f.trans ((Ex.new hF4o).trans g5.f))
        refine ss_cons (s_set (i := 2) (T := dt (.list ((fo ++ ((rs.filter (nextOk fo)).map (·.se)).take 1).map .str))) scExp.nd rfl (XD.eq (XM.xd (xm_cat (xv 2 hf5) (XM.xd (xm_slL (i := none) (j := some 1) (xv 4 (hdo'.mono g5.f)) .no (.yes xz_c) (fun o h => h) (fun o ⟨i, h1, h2⟩ => by rw [h1, h2]))) ?_)) ?_) gg5 fun v2 F6 H6 g6 h6 => ss_nil ?_)
        · rw [List.length_map]
          have := cutL_len (((rs.filter (nextOk fo)).map (·.se)).map PyData.str) none (some 1)
          rw [List.length_map, List.length_map] at this
          have h2 : (rs.filter (nextOk fo)).length ≤ rs.length := List.length_filter_le _ _
          have := hN.len
          omega
        · rw [cutL_map, cut1, List.map_append]
        · cases hfil : rs.filter (nextOk fo) with
          | nil =>
            rw [hfil] at h6
            refine ⟨2 * cnt rs fo, F6, by simp, g3.f.trans (g4.f.trans ((Ex.new hF4o).trans (g5.f.trans g6.f))), gg5.trans g6, false, fo, v2, _, rfl, ?_, hsub, hexp, fun _ => hfil, hlen, hok, by simp⟩
            simpa using h6
          | cons r rest =>
            rw [hfil] at h6
            have hmem : r ∈ rs.filter (nextOk fo) := by rw [hfil]; exact List.mem_cons_self
            obtain ⟨hr1, hr2⟩ := List.mem_filter.mp hmem
            obtain ⟨hx1, hx2⟩ := next_exp hexp hr1 hr2
            have hlt := cnt_lt hr1 hx2
            refine ⟨2 * cnt rs (fo ++ [r.se]) + 1, F6, by simp; omega, g3.f.trans (g4.f.trans ((Ex.new hF4o).trans (g5.f.trans g6.f))), gg5.trans g6, true, fo ++ [r.se], v2, _, rfl, ?_, fun s hs => List.mem_append_left _ (hsub s hs), ?_, fun h => (by cases h), by rw [List.length_append]; simp; omega, ?_, by simp⟩
            · simpa using h6
            · intro s hs
              rcases List.mem_append.mp hs with h | h
              · exact hexp s h
              · rw [List.mem_singleton.mp h]; exact hx1
            · intro s hs
              rcases List.mem_append.mp hs with h | h
              · exact hok s h
              · rw [List.mem_singleton.mp h]; exact hN.se r hr1
      · intro s' H0' C cl fp
        obtain ⟨x, rfl, hx⟩ := hvs.one
        obtain ⟨r, hrm, rfl⟩ := List.mem_map.mp hd
        rw [dRow_d]
        have hf4 := hf3.mono g4.f
        refine XT.eq (XW.xt (xw_and (xt_cmp (c_niLS (xd_ixT (ds := [.str r.sv, .str r.se, .tuple (r.ch.map .str), .int r.co]) (xv 5 hx) xd_int rfl) (xv 2 hf4))) fun _ => xw_and (xt_cmp (XCm.eq (c_ne hr.units (xd_ixT (ds := [.str r.sv, .str r.se, .tuple (r.ch.map .str), .int r.co]) (xv 5 hx) xd_int rfl) (xd_tup (ds := []) xa_nil) (shaped_tstrs (hN.ch r hrm)) (by decide)) (by rw [eqv_tnil, List.isEmpty_map]))) fun _ => xw_and1 (xt_val (xd_all (bs := r.ch.map fun c => decide (c ∈ fo)) rfl B (XM.xd (xm_lc (own := [("_law_one", 6)]) (gx := gName 6) (asg := fun σ vs => σ.set 6 vs.head?) (esf := fun d => [d]) (ds := r.ch.map .str) (gm := fun d => .bool (decide (dstr d ∈ fo))) ⟨rfl, scExp.nd, blkOk_by (N := nExp) (sc := relS _ (defScope sExp)) ?_, fun _ _ _ _ _ => pg_name (i := 6) scExp.nd rfl (.inl rfl), fun _ => rfl⟩ (xi_tup (xd_ixT (ds := [.str r.sv, .str r.se, .tuple (r.ch.map .str), .int r.co]) (xv 5 hx) xd_int rfl)) (fun d _ => tgt_name) ?_ (fun _ => rfl) (fun d vs F5 H5 hd g5 hvs => ?_))) ?_)))) ?_
        · decide +kernel
        · rw [List.length_map]
          have := hN.chl r hrm
          omega
        · intro s'' H0'' C' cl' fp'
          obtain ⟨y, rfl, hy⟩ := hvs.one
          obtain ⟨c, hc, rfl⟩ := List.mem_map.mp hd
          exact xd_cmp (c_inLS (xv 6 hy) (xv 2 (hf4.mono g5.f)))
        · rw [map_map' PyData.str dstr dstr_str (fun s => PyData.bool (decide (s ∈ fo))), List.map_map]; rfl
        · unfold nextOk
          rw [List.all_map]; rfl
      · intro s' H0' C cl fp
        obtain ⟨x, rfl, hx⟩ := hvs.one
        obtain ⟨r, hrm, rfl⟩ := List.mem_map.mp hd
        rw [dRow_d]
        exact xd_ixT (ds := [.str r.sv, .str r.se, .tuple (r.ch.map .str), .int r.co]) (xv 5 hx) xd_int rfl
    · have gg3 := gg.trans g3
      have hv3 := hv.mono (g1.f.trans (e2.trans g3.f))
      have hf3 := hf.mono g3.f
      have hall : ∀ s, Exp rs seen s ↔ s ∈ fo := fun s => ⟨closed_exp hsub (hcl hb) s, hexp s⟩
      refine ss_cons (s_ret (XD.eq (XM.xd (xm_lcIf (own := [("_law_name", 7)]) (gx := gName 7) (asg := fun σ vs => σ.set 7 vs.head?) (esf := fun d => [d]) (ds := (secrets rs).map .str) (pr := fun d => decide (dstr d ∈ fo)) (gm := fun d => .str (dstr d)) ⟨rfl, scExp.nd, blkOk_by (N := nExp) (sc := defScope sExp) (by decide +kernel), fun _ _ _ _ _ => pg_name (i := 7) scExp.nd rfl (.inl rfl), fun _ => rfl⟩ (xi_lst (xc CS hr (by decide) (xa_cons mono_dt (xv 0 hv3) xa_nil) ?_)) (fun d _ => tgt_name) ?_ (fun _ => rfl) (fun d vs F4 H4 hd g4 hvs => ?_) (fun d vs F4 H4 hd _ g4 hvs => ?_))) ?_) gg3 fun v F4 H4 g4 h4 => kq v F4 H4 (gg3.trans g4) h4)
      · rintro vs F4 e ht
        obtain ⟨v1, rfl, h1⟩ := ht.one
        have := hN.len
        exact ⟨_, rs, rfl, h1, by omega, rfl⟩
      · rw [List.length_map]; have := secrets_len rs; have := hN.len; omega
      · intro s' H0' C cl fp
        obtain ⟨x, rfl, hx⟩ := hvs.one
        obtain ⟨c, hc, rfl⟩ := List.mem_map.mp hd
        exact xt_cmp (c_inLS (xv 7 hx) (xv 2 (hf3.mono g4.f)))
      · intro s' H0' C cl fp
        obtain ⟨x, rfl, hx⟩ := hvs.one
        obtain ⟨c, hc, rfl⟩ := List.mem_map.mp hd
        exact xv 7 hx
      · rw [filt_map PyData.str dstr dstr_str (fun s => decide (s ∈ fo)) PyData.str]
        unfold strsD exposedL
        congr 2
        refine List.filter_congr fun s _ => ?_
        exact decide_eq_decide.mpr (hall s).symm
end
end K01
end
section
set_option Elab.async false
set_option linter.all false
set_option maxRecDepth 100000
set_option maxHeartbeats 4000000
namespace K01
open PySem L2 Evl R
theorem dRow_d2 (r : Row) : r.d = .tuple [.str r.sv, .str r.se, .tuple (r.ch.map .str), .int r.co] := rfl
noncomputable def isNeeded (rs : List Row) (ss : List (List Str)) (r : Row) : Bool := ss.any fun s => decide (r.se ∈ exposedL rs s)
noncomputable def neededL' (rs : List Row) (ss : List (List Str)) (xs : List Row) : List (Str × Str) := (xs.filter (isNeeded rs ss)).map Row.key
noncomputable def neededL (rs : List Row) (ss : List (List Str)) : List (Str × Str) := (rs.filter (isNeeded rs ss)).map Row.key
def dseen : PyData → List Str
  | .tuple ds => ds.map dstr
  | _ => []
theorem dseen_d (s : List Str) : dseen (seenD s) = s := by
  show (s.map PyData.str).map dstr = s
  rw [List.map_map]
  exact List.map_id' s
/-- the suspicions -/
structure Seens (ss : List (List Str)) : Prop where
  len : ss.length ≤ 50
  sl : ∀ s ∈ ss, s.length ≤ 50
  ok : ∀ s ∈ ss, ∀ x ∈ s, PyData.strOk x = true
section
variable {P : Program} {w : World} {K : PySem.W.Frag} {mg : Str → Option Value} {base : Heap}
/-! _law_needed -/
abbrev sNeed : Stmt := top 57
abbrev nNeed : List Str := ["_law_rows", "_law_suspicions", "_law_found", "_law_row", "_law_seen"]
theorem scNeed : FnScope nNeed ["_law_rows", "_law_suspicions"] (defScope sNeed) := ⟨rfl, rfl, rfl, by decide +kernel, rfl, by decide +kernel, by decide +kernel⟩
def pNeed : List V → Hp → TyP → Prop := fun vs F T => ∃ v u rs ss, vs = [v, u] ∧ Ds F v (rowsD rs) ∧ Ds F u (.list (ss.map seenD)) ∧ Names rs ∧ Seens ss ∧ T = dt (.list ((neededL rs ss).map pairD))
theorem ok_need (CX : Cal P w K mg base "_law_exposed" 2 ["_law_rows", "_law_seen"] (spD pExp)) (B : Bn mg) {f : Addr} {fd : FuncData} (Fn : Fun K "_law_needed" "_law_needed" sNeed f fd) : FnOk P w K mg base CX0 3 f fd ["_law_rows", "_law_suspicions"] (spD pNeed) := by
  refine Fn.ok scNeed (fun vs H Q E h => ?_) (fun cdv A outer s H vs Q E hr h => ⟨_, wSs_ok, ?_⟩)
  · obtain ⟨F, T, _, ⟨v, u, rs, ss, rfl, _⟩, _⟩ := h
    rfl
  obtain ⟨F, T, s0, ⟨v, u, rs, ss, rfl, hv, hu, hN, hS, rfl⟩, kq⟩ := h
  have g0 := Grow.start s0
  refine ss_cons (s_setM (i := 2) (ds := []) scNeed.nd rfl (xm_lst (ds := []) xa_nil) g0 fun l xs F1 H1 g1 h0l hF1 hH1 hx => ?_)
  cases hx
  refine ss_cons (s_for (asg := fun σ vs => σ.set 3 vs.head?) (gx := gName 3) (esf := fun d => [d]) rfl PassesOwn.never (xi_lst (ds := rs.map Row.d) (xv 0 (hv.mono g1.f))) (pg_name (i := 3) scNeed.nd rfl (.inr rfl)) (fun d _ => tgt_name) g1
    (fun i σ F' H' => ∃ (t : Option V), σ = [some v, some u, some (.ref l), t, none] ∧ F' l = none ∧ ∃ ws, H' l = some (.lst ws) ∧ DsAll F' ws ((neededL' rs ss (rs.take i)).map pairD)) ?_ ⟨_, rfl, hF1, [], hH1, .nil⟩ ?_ ?_)
  · rintro i σ' F' H' F'' H'' ⟨t, rfl, h1, ws, h2, h3⟩ g
    exact ⟨t, rfl, g.n _ _ h1 h2, ws, g.h _ _ (by simp) h2, h3.mono g.f⟩
  · rintro i d vs σ' F' H' hd e1 gg ⟨t, rfl, hF', ws, hH', hws⟩ hvs
    obtain ⟨x, rfl, hx⟩ := hvs.one
    rw [List.getElem?_map] at hd
    obtain ⟨r, hri, rfl⟩ := Option.map_eq_some_iff.mp hd
    have hrm : r ∈ rs := List.mem_of_getElem? hri
    have hwl : ws.length ≤ 50 := by
      rw [hws.length, List.length_map]
      unfold neededL'
      rw [List.length_map]
      refine Nat.le_trans (List.length_filter_le _ _) (Nat.le_trans ?_ hN.len)
      rw [List.length_take]; omega
    have hx' : Ds F' x (.tuple [.str r.sv, .str r.se, .tuple (r.ch.map .str), .int r.co]) := hx
    have hnx : neededL' rs ss (rs.take (i + 1)) = neededL' rs ss (rs.take i) ++ (if isNeeded rs ss r = true then [r.key] else []) := by
      unfold neededL'
      rw [List.take_succ, hri, List.filter_append, List.map_append]
      congr 1
      show List.map Row.key (List.filter (isNeeded rs ss) [r]) = _
      by_cases q : isNeeded rs ss r = true
      · rw [if_pos q, List.filter_cons, if_pos q]; rfl
      · rw [if_neg q, List.filter_cons, if_neg q]; rfl
    refine ss_cons (s_if (u := isNeeded rs ss r) (XT.eq (xt_val (xd_any (bs := ss.map fun s => decide (r.se ∈ exposedL rs s)) rfl B (XM.xd (xm_lc (own := [("_law_seen", 4)]) (gx := gName 4) (asg := fun σ vs => σ.set 4 vs.head?) (esf := fun d => [d]) (ds := ss.map seenD) (gm := fun d => .bool (decide (r.se ∈ exposedL rs (dseen d)))) ⟨rfl, scNeed.nd, blkOk_by (N := nNeed) (sc := defScope sNeed) (by decide +kernel), fun _ _ _ _ _ => pg_name (i := 4) scNeed.nd rfl (.inl rfl), fun _ => rfl⟩ (xi_lst (xv 1 (hu.mono (g1.f.trans e1)))) (fun d _ => tgt_name) ?_ (fun _ => rfl) (fun d vs F2 H2 hd g2 hvs => ?_))) ?_)) ?_) gg (fun hb F2 H2 g2 => ?_) (fun hb F2 H2 g2 => ?_))
    · rw [List.length_map]
      have := hS.len
      omega
    · intro s' H0' C cl fp
      obtain ⟨y, rfl, hy⟩ := hvs.one
      obtain ⟨sn, hsn, rfl⟩ := List.mem_map.mp hd
      rw [dseen_d]
      refine xd_cmp (c_inLS (xd_ixT (xv 3 (hx'.mono g2.f)) xd_int rfl) (xc CX hr (by decide) (xa_cons mono_dt (xv 0 (hv.mono (g1.f.trans (e1.trans g2.f)))) (xa_cons mono_dt (xv 4 hy) xa_nil)) ?_))
      rintro vs F3 e ht
      obtain ⟨v1, v2, rfl, h1, h2⟩ := ht.two
      exact ⟨_, _, rs, sn, rfl, h1, h2, hN, hS.sl sn hsn, hS.ok sn hsn, rfl⟩
    · rw [map_map' seenD dseen dseen_d (fun s => PyData.bool (decide (r.se ∈ exposedL rs s))), List.map_map]; rfl
    · unfold isNeeded
      rw [List.any_map]; rfl
    · have hF2 := g2.n _ _ hF' hH'
      have hH2 := g2.h _ _ (by simp) hH'
      refine ss_cons (s_append (l := l) (i := 2) (T := dt (pairD r.key)) rfl rfl hF2 h0l hH2 (by omega) (xd_tup (ds := [.str r.sv, .str r.se]) (xa_cons mono_dt (xd_ixT (xv 3 (hx'.mono g2.f)) xd_int rfl) (xa_cons mono_dt (xd_ixT (xv 3 (hx'.mono g2.f)) xd_int rfl) xa_nil))) (gg.trans g2) fun v F3 H3 g3 hv hF3 => ss_nil (ss_nil ?_))
      refine ⟨F3, g2.f.trans g3.f, ((gg.trans g2).trans g3).put h0l hF3, _, rfl, hF3, _, upd_same, ?_⟩
      rw [hnx, if_pos hb, List.map_append]
      exact (hws.mono (g2.f.trans g3.f)).append (.cons hv .nil)
    · refine ss_nil (ss_nil ⟨F2, g2.f, gg.trans g2, _, rfl, g2.n _ _ hF' hH', ws, g2.h _ _ (by simp) hH', ?_⟩)
      rw [hnx, if_neg (by rw [hb]; decide), List.append_nil]
      exact hws.mono g2.f
  · rintro σ' F' H' e1 gg ⟨t, rfl, hF', ws, hH', hws⟩
    rw [List.length_map, List.take_length] at hws
    exact ss_cons (s_retM (i := 2) gg h0l hF' hH' hws (fun F3 g3 h3 => kq _ F3 H' g3 h3) rfl rfl)
/-! _law_is_exposure -/
end
end K01
end
section
set_option Elab.async false
set_option linter.all false
set_option maxRecDepth 100000
set_option maxHeartbeats 4000000
namespace K01
open PySem L2 Evl R
/-- a row whose message can be read -/
def reads (known : List Str) (r : Row) : Bool := !r.ch.isEmpty && r.ch.all fun c => decide (c ∈ known)
def readAll : List Str → List Row → Bool
  | _, [] => true
  | known, r :: rs => reads known r && readAll (known ++ [r.se]) rs
def endsIn (seen : List Str) (secret : Str) (some : List Row) : Bool := match some.getLast? with
  | .none => decide (secret ∈ seen)
  | .some r => decide (r.se = secret)
def isExp (seen : List Str) (secret : Str) (some : List Row) : Bool := readAll seen some && endsIn seen secret some
theorem readAll_take (seen : List Str) : ∀ (some : List Row) (i : Nat) (r : Row), some[i]? = .some r → readAll seen (some.take i) = true → (readAll seen (some.take (i + 1)) = reads (seen ++ (some.take i).map (·.se)) r)
  | [], _, _, h, _ => by simp at h
  | x :: xs, 0, r, h, _ => by
    have : x = r := by simpa using h
    subst this
    simp [readAll]
  | x :: xs, i + 1, r, h, h2 => by
    have h' : xs[i]? = .some r := by simpa using h
    rw [List.take_succ_cons] at h2 ⊢
    unfold readAll at h2 ⊢
    rw [Bool.and_eq_true] at h2
    rw [h2.1, Bool.true_and, readAll_take (seen ++ [x.se]) xs i r h' h2.2]
    simp
theorem readAll_false (seen : List Str) : ∀ (some : List Row) (i : Nat), readAll seen (some.take i) = false → readAll seen some = false
  | [], i, h => by simpa using h
  | x :: xs, 0, h => by simp [readAll] at h
  | x :: xs, i + 1, h => by
    rw [List.take_succ_cons] at h
    unfold readAll at h ⊢
    rw [Bool.and_eq_false_iff] at h ⊢
    rcases h with h | h
    · exact .inl h
    · exact .inr (readAll_false _ xs i h)
end K01
end
section
set_option Elab.async false
set_option linter.all false
set_option maxRecDepth 100000
set_option maxHeartbeats 4000000
namespace K01
open PySem L2 Evl R
def drows : PyData → List Row
  | .list ds => ds.map dRow
  | _ => []
theorem drows_d (rs : List Row) : drows (rowsD rs) = rs := by
  show (rs.map Row.d).map dRow = rs
  rw [List.map_map]
  have : dRow ∘ Row.d = id := funext dRow_d
  rw [this, List.map_id]
def ext1 (rs : List Row) (seen : List Str) (sm : List Row) : List (List Row) := (rs.filter fun r => !decide (r.se ∈ seen ++ sm.map (·.se))).map fun r => sm ++ [r]
def ext (rs : List Row) (seen : List Str) (L : List (List Row)) : List (List Row) := L.flatMap (ext1 rs seen)
def short (rs : List Row) (seen : List Str) (secret : Str) : Nat → List (List Row) → Option (List Row)
  | 0, _ => none
  | n + 1, L => match L.find? (isExp seen secret) with
    | some l => some l
    | none => short rs seen secret n (ext rs seen L)
def resD : Option (List Row) → PyData
  | none => .none
  | some l => .list ((l.map Row.key).map pairD)
/-- the lists of a turn -/
structure Lists (rs : List Row) (k : Nat) (L : List (List Row)) : Prop where
  len : L.length ≤ 7 ^ k
  sub : ∀ sm ∈ L, sm.length = k ∧ ∀ r ∈ sm, r ∈ rs
theorem ext1_len {rs : List Row} (h : rs.length ≤ 7) (seen : List Str) (sm : List Row) : (ext1 rs seen sm).length ≤ 7 := by
  unfold ext1
  rw [List.length_map]
  exact Nat.le_trans (List.length_filter_le _ _) h
theorem ext_len {rs : List Row} (h : rs.length ≤ 7) (seen : List Str) : ∀ L : List (List Row), (ext rs seen L).length ≤ 7 * L.length
  | [] => by simp [ext]
  | sm :: L => by
    have h1 := ext1_len h seen sm
    have h2 := ext_len h seen L
    unfold ext at h2 ⊢
    rw [List.flatMap_cons, List.length_append, List.length_cons]
    omega
theorem Lists.ext {rs : List Row} {k : Nat} {L : List (List Row)} (h : Lists rs k L) (hr : rs.length ≤ 7) (seen : List Str) : Lists rs (k + 1) (ext rs seen L) where
  len := by
    have h1 := ext_len hr seen L
    have h2 := h.len
    rw [Nat.pow_succ]
    omega
  sub := fun sm hsm => by
    obtain ⟨s0, hs0, h2⟩ := List.mem_flatMap.mp hsm
    obtain ⟨r, hr2, rfl⟩ := List.mem_map.mp h2
    obtain ⟨h3, h4⟩ := h.sub s0 hs0
    refine ⟨by rw [List.length_append, h3]; rfl, fun x hx => ?_⟩
    rcases List.mem_append.mp hx with q | q
    · exact h4 x q
    · rw [List.mem_singleton.mp q]; exact (List.mem_filter.mp hr2).1
theorem Names.sub {rs sm : List Row} (h : Names rs) (hl : sm.length ≤ 50) (hs : ∀ r ∈ sm, r ∈ rs) : Names sm :=
  ⟨hl, fun r hr => h.sv r (hs r hr), fun r hr => h.se r (hs r hr), fun r hr => h.ch r (hs r hr), fun r hr => h.chl r (hs r hr)⟩
theorem find_take {α : Type} (p : α → Bool) : ∀ (L : List α) (i : Nat) (x : α), L[i]? = some x → (∀ y ∈ L.take i, p y = false) → p x = true → L.find? p = some x
  | [], _, _, h, _, _ => by simp at h
  | y :: L, 0, x, h, _, hp => by
    have : y = x := by simpa using h
    subst this
    rw [List.find?_cons, hp]
  | y :: L, i + 1, x, h, hn, hp => by
    rw [List.find?_cons, hn y (by simp)]
    exact find_take p L i x (by simpa using h) (fun z hz => hn z (by rw [List.take_succ_cons]; exact List.mem_cons_of_mem _ hz)) hp
end K01
end
section
set_option Elab.async false
set_option linter.all false
set_option maxRecDepth 100000
set_option maxHeartbeats 4000000
namespace R
open PySem L2 Evl
section
variable {q : Option Addr} {X : Cx} {σ : L2.St} {F H F0 H0 : Hp} {a b c e : Expr} {es : List Expr} {pos p p2 : Pos} {x y : Str} {d d' : PyData} {ds : List PyData} {T : TyP} {D : Ends}
/-- a module's number or text -/
theorem xd_globI {i : Int} {t : Tok} (hm : X.mg x = some (.int i t)) (hg : Gl X x := by rfl) (hd : (x == ("__debug__" : Str)) = false := by decide) : XD q X (.Name x pos) σ F H (.int i) := x_c (pe_glob (v := .int i) hg hm ⟨t, rfl⟩ hd) fun _ => .int i
theorem xd_globS {i : Str} {t : Tok} (hm : X.mg x = some (.str i t)) (hg : Gl X x := by rfl) (hd : (x == ("__debug__" : Str)) = false := by decide) : XD q X (.Name x pos) σ F H (.str i) := x_c (pe_glob (v := .str i) hg hm ⟨t, rfl⟩ hd) fun _ => .str i
/-! ### isinstance -/
def tyName : PyData → String
  | .none => "NoneType"
  | .bool _ => "bool"
  | .int _ => "int"
  | .str _ => "str"
  | .list _ => "list"
  | .tuple _ => "tuple"
  | .dict _ => "dict"
theorem ds_ty {K : PySem.W.Frag} {v : V} (h : Ds F v d) (e : Ex F H) : TyX K H v (.type (tyName d)) := by
  cases h with
  | non => exact .base .non
  | bl b => exact .base (.bl b)
  | int i => exact .base (.int i)
  | str s => exact .base (.str s)
  | lst h _ => exact .base (.lst (e _ _ h))
  | tup h _ => exact .base (.tup (e _ _ h))
/-- isinstance(e, T), T a built-in type -/
theorem xd_isi {T : String} {r : Bool} (B : Bn X.mg) (ha : XD q X a σ F H d) (hk : kitB (tyName d) T = some r) (hb : PE X b (tC (.ty T))) (hg : Gl X "isinstance" := by rfl)
    (he : starEach [a, b] X.env = (false, eval a X.env) :: starEach [b] X.env := by rfl) (he2 : starEach [b] X.env = [(false, eval b X.env)] := by rfl) (hpl : (backTo pos (starEach [b] X.env)).any (·.1) = false := by rfl) : XD q X (.Call (.Name "isinstance" p) [a, b] [] pos) σ F H (.bool r) :=
  x_callB call_isi B.isinstance (by decide +kernel) (xa_cons mono_dt ha (xa_cons mono_is (x_c (T := is (.ty T)) hb fun _ => rfl) xa_nil he2) he) (fun vs F1 H1 g h Q k => by
    obtain ⟨v, w, rfl, hv, rfl⟩ := h.two
    exact ⟨v, .ty T, _, _, r, rfl, .ty T, ds_ty hv g.s, kit_ty hk, k _ F1 H1 g.end (.bl r)⟩) hg (he := he) (hpl := hpl)
theorem pe_tyN {n : String} (hm : X.mg x = none) (hv : bootBuiltins x = some (.type n)) (hg : Gl X x := by rfl) (hn : x ≠ "__name__" := by decide) (hd : (x == ("__debug__" : Str)) = false := by decide) : PE X (.Name x pos) (tC (.ty n)) := pe_bltn hg hm hv rfl hn hd
/-! ### a <= b <= c -/
theorem xt_chain {op op' : CmpOp} {f g' : Int → Int → Bool} {i j k : Int} (ho : OpR X (compareOp op) (rI0 fun i j => .bl (f i j))) (ho' : OpR X (compareOp op') (rI0 fun i j => .bl (g' i j))) (ha : XD q X a σ F H (.int i)) (hb : XD q X b σ F H (.int j)) (hc : XD q X c σ F H (.int k))
    (hm : lastMarks [op, op'] [b, c] = false := by with_unfolding_all rfl) : XT q X (.Compare a [op, op'] [b, c] pos) σ F H (f i j && g' j k) := fun F1 H1 g Q kq =>
  wT_of (pt_chain ho ho' wE_ok wE_ok wE_ok hm) (ha F1 H1 g _ fun v F2 H2 g2 hv => hb F2 H2 (g.trans g2) _ fun w F3 H3 g3 hw => by
    rw [ds_int hv, ds_int hw]
    refine ⟨i, j, rfl, rfl, _, rfl, ?_⟩
    cases e : f i j with
    | false =>
      rw [e, Bool.false_and] at kq
      exact ⟨_, rfl, kq F3 H3 (g2.trans g3)⟩
    | true =>
      refine hc F3 H3 (g.trans (g2.trans g3)) _ fun z F4 H4 g4 hz => ?_
      rw [ds_int hz]
      rw [e, Bool.true_and] at kq
      exact ⟨j, k, rfl, rfl, _, rfl, kq F4 H4 ((g2.trans g3).trans g4)⟩)
theorem xd_chain {op op' : CmpOp} {f g' : Int → Int → Bool} {i j k : Int} (ho : OpR X (compareOp op) (rI0 fun i j => .bl (f i j))) (ho' : OpR X (compareOp op') (rI0 fun i j => .bl (g' i j))) (ha : XD q X a σ F H (.int i)) (hb : XD q X b σ F H (.int j)) (hc : XD q X c σ F H (.int k))
    (hm : lastMarks [op, op'] [b, c] = false := by with_unfolding_all rfl) : XD q X (.Compare a [op, op'] [b, c] pos) σ F H (.bool (f i j && g' j k)) := fun F1 H1 g Q kq =>
  wE_of (pe_chain ho ho' wE_ok wE_ok wE_ok hm) (ha F1 H1 g _ fun v F2 H2 g2 hv => hb F2 H2 (g.trans g2) _ fun w F3 H3 g3 hw => by
    rw [ds_int hv, ds_int hw]
    refine ⟨i, j, rfl, rfl, _, rfl, ?_⟩
    cases e : f i j with
    | false =>
      rw [e, Bool.false_and] at kq
      exact kq _ F3 H3 (g2.trans g3) (.bl _)
    | true =>
      refine hc F3 H3 (g.trans (g2.trans g3)) _ fun z F4 H4 g4 hz => ?_
      rw [ds_int hz]
      rw [e, Bool.true_and] at kq
      exact ⟨j, k, rfl, rfl, kq _ F4 H4 ((g2.trans g3).trans g4) (.bl _)⟩)
/-! ### a text's signs -/
theorem xi_str {tg : Expr} {s : Str} (h : XD q X a σ F H (.str s)) : XI q X tg a σ F H (s.cps.toList.map fun c => .str ⟨#[c]⟩) := fun F1 H1 g R r =>
  wI_of (pi_str wE_ok) (h F1 H1 g _ fun v F2 H2 g2 hv => by
    rw [ds_str hv]
    refine ⟨s, rfl, r _ F2 H2 g2 ⟨fun i H hi _ => ?_, fun H _ => ?_, fun i H x H' F' hi e1 e2 y => ?_⟩⟩
    · show i < s.cps.size
      simpa using hi
    · show s.cps.size ≤ _
      simp
    · obtain ⟨rfl, c, hc, rfl⟩ := y
      refine ⟨F', .str ⟨#[c]⟩, Grow.start e2, ?_, .str _⟩
      rw [List.getElem?_map, Array.getElem?_toList, hc]; rfl)
/-- a raise that is never come to -/
theorem s_never {st : Stmt} (h : False) : wS X st D σ H := h.elim
/-- a, b = a tuple -/
theorem s_unp2 {i j : Nat} {pt px py : Pos} {kt : Nat} (hc : X.calm = true) (hN : X.N.Nodup) (hi : X.N[i]? = some x) (hj : X.N[j]? = some y) (ha : XD q X a σ F H (.tuple [d, d'])) (g0 : Grow q F0 H0 F H)
    (k : ∀ v w F2 H2, Grow q F H F2 H2 → Ds F2 v d → Ds F2 w d' → D.nx ((σ.set i (some v)).set j (some w)) H2)
    (hx : Loc X.env.scope x := by first | exact Or.inl rfl | exact Or.inr rfl) (hy : Loc X.env.scope y := by first | exact Or.inl rfl | exact Or.inr rfl)
    (hs : swapsWithSole [.Tuple [.Name x px, .Name y py] kt pt] a pos.line X.env = pure false := by rfl) (hw : swappedStores [.Tuple [.Name x px, .Name y py] kt pt] a X.env = pure none := by rfl)
    (hf : X.fn x = true ∨ X.env.scope.names.lookup x = some .local := by first | exact .inl rfl | exact .inr rfl) (hf2 : X.fn y = true ∨ X.env.scope.names.lookup y = some .local := by first | exact .inl rfl | exact .inr rfl) :
    wS X (.Assign [.Tuple [.Name x px, .Name y py] kt pt] a pos) D σ H :=
  wS_of (ps_asg wE_ok (pg_tup hc (pgs_cons (pg_name hN hi hx hf) (pgs_cons (pg_name hN hj hy hf2) pgs_nil))) hs hw)
    (ha F H g0.end _ fun v F2 H2 g2 hv => by
      obtain ⟨t, xs, rfl, h1, h2⟩ := ds_tup hv
      obtain ⟨v1, v2, rfl, h3, h4⟩ := h2.two
      exact ⟨t, _, rfl, SqT.of (g2.s _ _ h1), rfl, v1, [v2], rfl, v2, [], rfl, rfl, k v1 v2 F2 H2 g2 h3 h4⟩)
end
end R
end
section
set_option Elab.async false
set_option linter.all false
set_option maxRecDepth 100000
set_option maxHeartbeats 4000000
namespace K01
open PySem L2 Evl R
def letters : Str := "abcdefghijklmnopqrstuvwxyz"
def isNm (s : Str) : Bool := (decide (1 ≤ s.length) && decide (s.length ≤ 8)) && s.cps.toList.all fun c => decide (c ∈ letters.cps.toList)
/-- the module's constants -/
structure Cst (mg : Str → Option Value) : Prop where
  letters : ∃ t, mg "LETTERS" = some (.str letters t)
  name : ∃ t, mg "LONGEST_NAME" = some (.int 8 t)
  uses : ∃ t, mg "MOST_USES" = some (.int 12 t)
  secrets : ∃ t, mg "MOST_SECRETS" = some (.int 6 t)
  chan : ∃ t, mg "LONGEST_CHANNEL" = some (.int 3 t)
  least : ∃ t, mg "LEAST_COST" = some (.int 1 t)
  most : ∃ t, mg "MOST_COST" = some (.int 9 t)
  susp : ∃ t, mg "MOST_SUSPICIONS" = some (.int 3 t)
section
variable {P : Program} {w : World} {K : PySem.W.Frag} {mg : Str → Option Value} {base : Heap}
/-! is_name -/
abbrev sNm : Stmt := top 15
abbrev nNm : List Str := ["value", "letter"]
theorem scNm : FnScope nNm ["value"] (defScope sNm) := ⟨rfl, rfl, rfl, by decide +kernel, rfl, by decide +kernel, by decide +kernel⟩
def pNm : List V → Hp → TyP → Prop := fun vs F T => ∃ s : Str, vs = [.str s] ∧ s.length ≤ 1000 ∧ T = dt (.bool (isNm s))
theorem ok_nm (C : Cst mg) (B : Bn mg) {f : Addr} {fd : FuncData} (Fn : Fun K "is_name" "is_name" sNm f fd) : FnOk P w K mg base CX0 1 f fd ["value"] (spD pNm) := by
  refine Fn.ok scNm (fun vs H Q E h => ?_) (fun cdv A outer s H vs Q E hr h => ⟨_, wSs_ok, ?_⟩)
  · obtain ⟨F, T, _, ⟨s, rfl, _⟩, _⟩ := h
    rfl
  obtain ⟨F, T, s0, ⟨s, rfl, hl, rfl⟩, kq⟩ := h
  have g0 := Grow.start s0
  obtain ⟨t1, c1⟩ := C.letters
  obtain ⟨t2, c2⟩ := C.name
  refine ss_cons (s_if (u := !(decide (1 ≤ s.length) && decide (s.length ≤ 8))) (XT.eq (XW.xt (xw_or (xt_not (xt_val (xd_isi (r := true) B (xv 0 (.str s)) (show kitB "str" "str" = some true by decide +kernel) (pe_tyN B.str (by decide +kernel))))) fun _ => xw_or1 (xt_not (xt_chain (f := fun i j => decide (i ≤ j)) (g' := fun i j => decide (i ≤ j)) op_le op_le xd_int (xd_lenS B (xv 0 (.str s)) (by omega)) (xd_globI c2))))) ?_) g0 (fun hb F2 H2 g2 => ?_) (fun hb F2 H2 g2 => ss_nil ?_))
  · rw [show decide ((1 : Int) ≤ s.length) = decide (1 ≤ s.length) from decide_eq_decide.mpr (by omega), show decide ((s.length : Int) ≤ 8) = decide (s.length ≤ 8) from decide_eq_decide.mpr (by omega)]
    rfl
  · refine ss_cons (s_ret xd_bl g2 fun v F3 H3 g3 hv => kq v F3 H3 (g2.trans g3) ?_)
    have : isNm s = false := by
      unfold isNm
      rw [show (decide (1 ≤ s.length) && decide (s.length ≤ 8)) = false from (Bool.not_eq_true' _).mp hb, Bool.false_and]
    rw [this]; exact hv
  · refine ss_cons (s_ret (xd_all (bs := s.cps.toList.map fun c => decide (c ∈ letters.cps.toList)) rfl B (XM.xd (xm_lc (own := [("letter", 1)]) (gx := gName 1) (asg := fun σ vs => σ.set 1 vs.head?) (esf := fun d => [d]) (ds := s.cps.toList.map fun c => .str ⟨#[c]⟩) (gm := fun d => .bool (decide ((dstr d).cps.toList.headD 0 ∈ letters.cps.toList))) ⟨rfl, scNm.nd, blkOk_by (N := nNm) (sc := defScope sNm) (by decide +kernel), fun _ _ _ _ _ => pg_name (i := 1) scNm.nd rfl (.inl rfl), fun _ => rfl⟩ (xi_str (xv 0 (.str s))) (fun d _ => tgt_name) ?_ (fun _ => rfl) (fun d vs F4 H4 hd g4 hvs => ?_))) ?_) g2 fun v F3 H3 g3 hv => kq v F3 H3 (g2.trans g3) ?_)
    · rw [List.length_map, Array.length_toList]
      have : s.cps.size = s.length := rfl
      omega
    · intro s' H0' C cl fp
      obtain ⟨y, rfl, hy⟩ := hvs.one
      obtain ⟨c, hc, rfl⟩ := List.mem_map.mp hd
      exact xd_cmp (c_inS (xv 1 hy) (xd_globS c1))
    · rw [List.map_map, List.map_map]; rfl
    · have : isNm s = (s.cps.toList.map fun c => decide (c ∈ letters.cps.toList)).all id := by
        unfold isNm
        rw [show (decide (1 ≤ s.length) && decide (s.length ≤ 8)) = true from (Bool.not_eq_false' _).mp hb, Bool.true_and, List.all_map]; rfl
      rw [this]; exact hv
/-! _is_pair -/
abbrev sPr : Stmt := top 16
theorem scPr : FnScope ["value"] ["value"] (defScope sPr) := ⟨rfl, rfl, rfl, by decide +kernel, rfl, by decide +kernel, by decide +kernel⟩
def pPr : List V → Hp → TyP → Prop := fun vs F T => ∃ (v : V) (ds : List PyData), vs = [v] ∧ Ds F v (.tuple ds) ∧ T = dt (.bool (decide (ds.length = 2)))
theorem ok_pr (B : Bn mg) {f : Addr} {fd : FuncData} (Fn : Fun K "_is_pair" "_is_pair" sPr f fd) : FnOk P w K mg base CX0 1 f fd ["value"] (spD pPr) := by
  refine Fn.ok scPr (fun vs H Q E h => ?_) (fun cdv A outer s H vs Q E hr h => ⟨_, wSs_ok, ?_⟩)
  · obtain ⟨F, T, _, ⟨v, ds, rfl, _⟩, _⟩ := h
    rfl
  obtain ⟨F, T, s0, ⟨v, ds, rfl, hv, rfl⟩, kq⟩ := h
  have g0 := Grow.start s0
  refine ss_cons (s_ret (XD.eq (xd_and (u := true) (v := decide ((ds.length : Int) = 2)) (xd_isi (r := true) B (xv 0 hv) (show kitB "tuple" "tuple" = some true by decide +kernel) (pe_tyN B.tuple (by decide +kernel))) fun _ => xd_one (xd_cmp (c_eqI (xd_lenT B (xv 0 hv)) xd_int))) ?_) g0 kq)
  rw [Bool.true_and]
  congr 1
  exact decide_eq_decide.mpr (by omega)
/-! _is_pair_of_names -/
abbrev sPn : Stmt := top 17
theorem scPn : FnScope ["value"] ["value"] (defScope sPn) := ⟨rfl, rfl, rfl, by decide +kernel, rfl, by decide +kernel, by decide +kernel⟩
def pPn : List V → Hp → TyP → Prop := fun vs F T => ∃ (v : V) (p : Str × Str), vs = [v] ∧ Ds F v (pairD p) ∧ p.1.length ≤ 1000 ∧ p.2.length ≤ 1000 ∧ T = dt (.bool (isNm p.1 && isNm p.2))
theorem ok_pn (CN : Cal P w K mg base "is_name" 1 ["value"] (spD pNm)) (CP : Cal P w K mg base "_is_pair" 1 ["value"] (spD pPr)) {f : Addr} {fd : FuncData} (Fn : Fun K "_is_pair_of_names" "_is_pair_of_names" sPn f fd) : FnOk P w K mg base CX0 2 f fd ["value"] (spD pPn) := by
  refine Fn.ok scPn (fun vs H Q E h => ?_) (fun cdv A outer s H vs Q E hr h => ⟨_, wSs_ok, ?_⟩)
  · obtain ⟨F, T, _, ⟨v, ds, rfl, _⟩, _⟩ := h
    rfl
  obtain ⟨F, T, s0, ⟨v, ⟨a, b⟩, rfl, hv, h1, h2, rfl⟩, kq⟩ := h
  have g0 := Grow.start s0
  have hv' : Ds F v (.tuple [.str a, .str b]) := hv
  refine ss_cons (s_ret (XD.eq (xd_and (u := true) (v := isNm a && isNm b) (xc CP hr (by decide) (xa_cons mono_dt (xv 0 hv') xa_nil) ?_) fun _ => xd_and (xc CN hr (by decide) (xa_cons mono_dt (xd_ixT (xv 0 hv') xd_int rfl) xa_nil) ?_) fun _ => xd_one (xc CN hr (by decide) (xa_cons mono_dt (xd_ixT (xv 0 hv') xd_int rfl) xa_nil) ?_)) ?_) g0 kq)
  · rintro vs F1 e ht
    obtain ⟨v1, rfl, h3⟩ := ht.one
    exact ⟨v1, _, rfl, h3, rfl⟩
  · rintro vs F1 e ht
    obtain ⟨v1, rfl, h3⟩ := ht.one
    exact ⟨a, by rw [ds_str h3], h1, rfl⟩
  · rintro vs F1 e ht
    obtain ⟨v1, rfl, h3⟩ := ht.one
    exact ⟨b, by rw [ds_str h3], h2, rfl⟩
  · rw [Bool.true_and]
/-! _is_cost -/
abbrev sCo : Stmt := top 19
theorem scCo : FnScope ["value"] ["value"] (defScope sCo) := ⟨rfl, rfl, rfl, by decide +kernel, rfl, by decide +kernel, by decide +kernel⟩
def pCo : List V → Hp → TyP → Prop := fun vs F T => ∃ n : Int, vs = [.int n] ∧ T = dt (.bool (decide (1 ≤ n) && decide (n ≤ 9)))
theorem ok_co (C : Cst mg) (B : Bn mg) {f : Addr} {fd : FuncData} (Fn : Fun K "_is_cost" "_is_cost" sCo f fd) : FnOk P w K mg base CX0 1 f fd ["value"] (spD pCo) := by
  refine Fn.ok scCo (fun vs H Q E h => ?_) (fun cdv A outer s H vs Q E hr h => ⟨_, wSs_ok, ?_⟩)
  · obtain ⟨F, T, _, ⟨v, rfl, _⟩, _⟩ := h
    rfl
  obtain ⟨F, T, s0, ⟨n, rfl, rfl⟩, kq⟩ := h
  have g0 := Grow.start s0
  obtain ⟨t1, c1⟩ := C.least
  obtain ⟨t2, c2⟩ := C.most
  refine ss_cons (s_skip (XW.xt (xw_or (u := false) (v := false) (xt_val (xd_isi (r := false) B (xv 0 (.int n)) (show kitB "int" "bool" = some false by decide +kernel) (pe_tyN B.bool (by decide +kernel)))) fun _ => xw_or1 (xt_not (u := true) (xt_val (xd_isi (r := true) B (xv 0 (.int n)) (show kitB "int" "int" = some true by decide +kernel) (pe_tyN B.int (by decide +kernel))))))) g0 fun F2 H2 g2 => ?_)
  exact ss_cons (s_ret (xd_chain (f := fun i j => decide (i ≤ j)) (g' := fun i j => decide (i ≤ j)) op_le op_le (xd_globI c1) (xv 0 (.int n)) (xd_globI c2)) g2 fun v F3 H3 g3 hv => kq v F3 H3 (g2.trans g3) hv)
end
end K01
end
section
set_option Elab.async false
set_option linter.all false
set_option maxRecDepth 100000
set_option maxHeartbeats 4000000
namespace K01
open PySem L2 Evl R
theorem cut_take {α : Type} (xs : List α) (i : Nat) : cutL xs none (some (i : Int)) = xs.take i := by
  unfold cutL
  rw [HT.sIx_none, HT.sIx_nat, List.drop_zero, Nat.sub_zero]
  by_cases h : i ≤ xs.length
  · rw [Nat.min_eq_left h]
  · rw [Nat.min_eq_right (by omega), List.take_length, List.take_of_length_le (by omega)]
theorem pair_lay {p : Str × Str} (h1 : PyData.strOk p.1 = true) (h2 : PyData.strOk p.2 = true) : (pairD p).canLay0 = true := by simp [pairD, PyData.canLay0, PyData.canLayAll0, h1, h2]
theorem pair_dep (p : Str × Str) : (pairD p).depth ≤ 60 := by simp [pairD, PyData.depth, PyData.depthAll]
theorem pair_shaped {p : Str × Str} (h1 : PyData.strOk p.1 = true) (h2 : PyData.strOk p.2 = true) : SeqAt.shaped (pairD p) = true := by
  have := pair_dep p
  show ((pairD p).canLay0 && decide ((pairD p).depth ≤ 64)) = true
  rw [Bool.and_eq_true]
  exact ⟨pair_lay h1 h2, decide_eq_true (by omega)⟩
theorem pairs_any {ps : List (Str × Str)} {p : Str × Str} (hp : p ∈ ps) (h1 : PyData.strOk p.1 = true) (h2 : PyData.strOk p.2 = true) : ((ps.map pairD).any fun z => PyData.eqv z (pairD p)) = true :=
  List.any_eq_true.mpr ⟨pairD p, List.mem_map_of_mem hp, SeqAt.eqv_refl _ (pair_lay h1 h2)⟩
/-- a use that may stand in a world, beside the others -/
structure RowOk (us : List (Str × Str)) (r : Row) : Prop where
  nsv : isNm r.sv = true
  nse : isNm r.se = true
  lsv : r.sv.length ≤ 1000
  lse : r.se.length ≤ 1000
  osv : PyData.strOk r.sv = true
  ose : PyData.strOk r.se = true
  chl : r.ch.length ≤ 3
  chn : r.ch.Nodup
  ch : ∀ c ∈ r.ch, isNm c = true ∧ c.length ≤ 1000 ∧ PyData.strOk c = true ∧ (r.sv, c) ∈ us ∧ c ≠ r.se
  co : 1 ≤ r.co ∧ r.co ≤ 9
structure UsesOk (us : List (Str × Str)) : Prop where
  len : us.length ≤ 50
  o1 : ∀ p ∈ us, PyData.strOk p.1 = true
  o2 : ∀ p ∈ us, PyData.strOk p.2 = true
theorem UsesOk.shaped {us : List (Str × Str)} (h : UsesOk us) : SeqAt.shaped (.list (us.map pairD)) = true := shaped_lst (fun p hp => pair_lay (h.o1 p hp) (h.o2 p hp)) (fun p _ => pair_dep p)
section
variable {P : Program} {w : World} {K : PySem.W.Frag} {mg : Str → Option Value} {base : Heap}
/-! _is_channel -/
abbrev sCh : Stmt := top 18
theorem scCh : FnScope ["use", "channel", "uses", "service", "secret", "place", "other"] ["use", "channel", "uses"] (defScope sCh) := ⟨rfl, rfl, rfl, by decide +kernel, rfl, by decide +kernel, by decide +kernel⟩
def pCh : List V → Hp → TyP → Prop := fun vs F T => ∃ (v u z : V) (us : List (Str × Str)) (r : Row), vs = [v, u, z] ∧ Ds F v (pairD r.key) ∧ Ds F u (.tuple (r.ch.map .str)) ∧ Ds F z (.list (us.map pairD)) ∧ RowOk us r ∧ UsesOk us ∧ T = dt (.bool true)
theorem ok_ch (CN : Cal P w K mg base "is_name" 1 ["value"] (spD pNm)) (C : Cst mg) (B : Bn mg) {f : Addr} {fd : FuncData} (Fn : Fun K "_is_channel" "_is_channel" sCh f fd) : FnOk P w K mg base CX0 2 f fd ["use", "channel", "uses"] (spD pCh) := by
  refine Fn.ok scCh (fun vs H Q E h => ?_) (fun cdv A outer s H vs Q E hr h => ⟨_, wSs_ok, ?_⟩)
  · obtain ⟨F, T, _, ⟨v, u, z, us, r, rfl, _⟩, _⟩ := h
    rfl
  obtain ⟨F, T, s0, ⟨v, u, z, us, r, rfl, hv, hu, hz, hR, hU, rfl⟩, kq⟩ := h
  have g0 := Grow.start s0
  obtain ⟨t1, c1⟩ := C.chan
  have hv' : Ds F v (.tuple [.str r.sv, .str r.se]) := hv
  refine ss_cons (s_skip (XW.xt (xw_or (u := false) (v := false) (xt_not (u := true) (xt_val (xd_isi (r := true) B (xv 1 hu) (show kitB "tuple" "tuple" = some true by decide +kernel) (pe_tyN B.tuple (by decide +kernel))))) fun _ => xw_or1 (xt_cmp (XCm.eq (c_gt (xd_lenT B (xv 1 hu)) (xd_globI c1)) ?_)))) g0 fun F1 H1 g1 => ?_)
  · refine decide_eq_false ?_
    rw [List.length_map]
    have := hR.chl
    omega
  refine ss_cons (s_unp2 (i := 3) (j := 4) rfl scCh.nd rfl rfl (xv 0 (hv'.mono g1.f)) g1 fun v1 v2 F2 H2 g2 h1 h2 => ?_)
  cases h1
  cases h2
  have gg2 := g1.trans g2
  refine ss_cons (s_for (asg := fun σ vs => (σ.set 5 vs[0]?).set 6 vs[1]?) (gx := gTup K 2 (gCons (gName 5) (gCons (gName 6) gNil))) (esf := fun d => match d with | .tuple es => es | _ => []) rfl PassesOwn.never (xi_enumT (ds := r.ch.map .str) B (xv 1 (hu.mono gg2.f))) (pg_tup rfl (pgs_cons (pg_name (i := 5) scCh.nd rfl (.inl rfl)) (pgs_cons (pg_name (i := 6) scCh.nd rfl (.inl rfl)) pgs_nil))) (fun d hd => ?_) gg2
    (fun i σ F' H' => ∃ (t o : Option V), σ = [some v, some u, some z, some (.str r.sv), some (.str r.se), t, o]) ?_ ⟨_, _, rfl⟩ ?_ ?_)
  · obtain ⟨⟨d1, j⟩, hm, rfl⟩ := List.mem_map.mp hd
    exact tgt_tup2
  · rintro i σ' F' H' F'' H'' h _
    exact h
  · rintro i d vs σ' F' H' hd e1 gg ⟨t, o, rfl⟩ hvs
    rw [List.getElem?_map] at hd
    obtain ⟨⟨d1, j⟩, hm, rfl⟩ := Option.map_eq_some_iff.mp hd
    rw [List.getElem?_zipIdx] at hm
    obtain ⟨d2, hd2, he⟩ := Option.map_eq_some_iff.mp hm
    cases he
    rw [List.getElem?_map] at hd2
    obtain ⟨c, hc, rfl⟩ := Option.map_eq_some_iff.mp hd2
    have hcm : c ∈ r.ch := List.mem_of_getElem? hc
    obtain ⟨cn, cl, co, cu, cs⟩ := hR.ch c hcm
    obtain ⟨x, y, rfl, hx, hy⟩ := hvs.two
    cases hx
    cases hy
    refine ss_cons (s_skip (XW.xt (xw_or (u := false) (v := false) (xt_not (u := true) (xt_val (xc CN hr (by decide) (xa_cons mono_dt (xv 6 (.str c)) xa_nil) ?_))) fun _ => xw_or1 (xt_cmp (XCm.eq (c_niD hr.u65 (xd_tup (ds := [.str r.sv, .str c]) (xa_cons mono_dt (xv 3 (.str r.sv)) (xa_cons mono_dt (xv 6 (.str c)) xa_nil))) (xv 2 (hz.mono (gg2.f.trans e1))) (pair_shaped (p := (r.sv, c)) hR.osv co) hU.shaped) ?_)))) gg fun F3 H3 g3 => ?_)
    · rintro vs F3 e ht
      obtain ⟨v1, rfl, h3⟩ := ht.one
      exact ⟨c, by rw [ds_str h3], cl, by rw [cn]⟩
    · have := pairs_any cu hR.osv co
      show (!(us.map pairD).any fun z => PyData.eqv z (pairD (r.sv, c))) = false
      rw [this]; rfl
    refine ss_cons (s_skip (XW.xt (xw_or (u := false) (v := false) (xt_cmp (XCm.eq (c_eqS (xv 6 (.str c)) (xv 4 (.str r.se))) (decide_eq_false cs))) fun _ => xw_or1 (xt_cmp (XCm.eq (c_inTS (ss := r.ch.take i) (xv 6 (.str c)) (XP.imp (x_slT (ds := r.ch.map .str) (xv 1 (hu.mono (gg2.f.trans (e1.trans g3.f)))) .no (.yes (R1 := fun z => z = ((0 + i : Nat) : Int)) (xvz 5))) ?_)) ?_)))) (gg.trans g3) fun F4 H4 g4 => ss_nil ?_)
    · rintro v F ⟨i', j', rfl, ⟨k, rfl, rfl⟩, h⟩
      rw [Nat.zero_add, cut_take, ← List.map_take] at h
      exact h
    · refine decide_eq_false fun hm => ?_
      have hnd := hR.chn
      rw [← List.take_append_drop i r.ch] at hnd
      have h2 : c ∈ r.ch.drop i := by
        refine List.mem_of_getElem? (i := 0) ?_
        rw [List.getElem?_drop]
        exact hc
      exact (List.nodup_append.mp hnd).2.2 c hm c h2 rfl
    · exact ⟨F4, g3.f.trans g4.f, (gg.trans g3).trans g4, _, _, rfl⟩
  · rintro σ' F' H' e1 gg ⟨t, o, rfl⟩
    exact ss_cons (s_ret xd_bl gg fun v F3 H3 g3 hv => kq v F3 H3 (gg.trans g3) hv)
/-! _fits -/
abbrev sFi : Stmt := top 20
theorem scFi : FnScope ["use", "value", "uses"] ["use", "value", "uses"] (defScope sFi) := ⟨rfl, rfl, rfl, by decide +kernel, rfl, by decide +kernel, by decide +kernel⟩
def valD (r : Row) : PyData := .tuple [.tuple (r.ch.map .str), .int r.co]
def pFi : List V → Hp → TyP → Prop := fun vs F T => ∃ (v u z : V) (us : List (Str × Str)) (r : Row), vs = [v, u, z] ∧ Ds F v (pairD r.key) ∧ Ds F u (valD r) ∧ Ds F z (.list (us.map pairD)) ∧ RowOk us r ∧ UsesOk us ∧ T = dt (.bool true)
theorem ok_fi (CP : Cal P w K mg base "_is_pair" 1 ["value"] (spD pPr)) (CC : Cal P w K mg base "_is_channel" 2 ["use", "channel", "uses"] (spD pCh)) (CO : Cal P w K mg base "_is_cost" 1 ["value"] (spD pCo)) {f : Addr} {fd : FuncData} (Fn : Fun K "_fits" "_fits" sFi f fd) : FnOk P w K mg base CX0 3 f fd ["use", "value", "uses"] (spD pFi) := by
  refine Fn.ok scFi (fun vs H Q E h => ?_) (fun cdv A outer s H vs Q E hr h => ⟨_, wSs_ok, ?_⟩)
  · obtain ⟨F, T, _, ⟨v, u, z, us, r, rfl, _⟩, _⟩ := h
    rfl
  obtain ⟨F, T, s0, ⟨v, u, z, us, r, rfl, hv, hu, hz, hR, hU, rfl⟩, kq⟩ := h
  have g0 := Grow.start s0
  have hu' : Ds F u (.tuple [.tuple (r.ch.map .str), .int r.co]) := hu
  refine ss_cons (s_ret (xd_and (u := true) (v := true) (xc CP hr (by decide) (xa_cons mono_dt (xv 1 hu') xa_nil) ?_) fun _ => xd_and (u := true) (v := true) (xc CC hr (by decide) (xa_cons mono_dt (xv 0 hv) (xa_cons mono_dt (xd_ixT (xv 1 hu') xd_int rfl) (xa_cons mono_dt (xv 2 hz) xa_nil))) ?_) fun _ => xd_one (xc CO hr (by decide) (xa_cons mono_dt (xd_ixT (xv 1 hu') xd_int rfl) xa_nil) ?_)) g0 kq)
  · rintro vs F1 e ht
    obtain ⟨v1, rfl, h3⟩ := ht.one
    exact ⟨v1, _, rfl, h3, rfl⟩
  · rintro vs F1 e ht
    obtain ⟨v1, v2, v3, rfl, h1, h2, h3⟩ := ht.three
    exact ⟨v1, v2, v3, us, r, rfl, h1, h2, h3, hR, hU, rfl⟩
  · rintro vs F1 e ht
    obtain ⟨v1, rfl, h3⟩ := ht.one
    refine ⟨r.co, by rw [ds_int h3], ?_⟩
    rw [decide_eq_true hR.co.1, decide_eq_true hR.co.2]; rfl
end
end K01
end
section
set_option Elab.async false
set_option linter.all false
set_option maxRecDepth 100000
set_option maxHeartbeats 4000000
/-! len(set(list of texts)), any length: the number of different ones -/
namespace R
open PySem PySem.Spec L2 PyProof.Rows Evl
def addS (f : List Str) (s : Str) : List Str := f ++ (if s ∈ f then [] else [s])
def diff (ss : List Str) : List Str := ss.foldl addS []
theorem addS_mem (f : List Str) (s k : Str) : decide (k ∈ addS f s) = (decide (k ∈ f) || decide (k = s)) := by
  unfold addS
  by_cases h : s ∈ f
  · rw [if_pos h, List.append_nil]
    by_cases e : k = s
    · subst e; simp [h]
    · simp [e]
  · rw [if_neg h]; simp [List.mem_append]
theorem addS_len (f : List Str) (s : Str) : (addS f s).length = if decide (s ∈ f) = true then f.length else f.length + 1 := by
  unfold addS
  by_cases h : s ∈ f <;> simp [h]
theorem diff_len (ss : List Str) : ∀ f : List Str, (ss.foldl addS f).length ≤ f.length + ss.length := by
  induction ss with
  | nil => intro f; simp
  | cons s ss ih =>
    intro f
    refine Nat.le_trans (ih _) ?_
    rw [addS_len, List.length_cons]
    split <;> omega
section
variable {prog : Program} {w : World} {A : Around} {R : Result → Shared → Prop} {I : Addr} {fp wr : List Addr} {G : Array GenState → Array GenState → Prop} {n : Nat} {P : Nat → Value → Prop} {St : Nat → Shared → Prop}
theorem loopTx (W : WalksS prog w A.in1 I fp wr G n P St) (S : Addr) (hSf : S ∉ fp) (xs : List Str) (hsz : xs.length = n) (hn1 : n + 1 < scanBound)
    (hval : ∀ i v, P i v → ∃ t, v = .str (xs.getD i Str.empty) t) :
    ∀ (left i : Nat) (s : Shared), i + left = n → St i s → s.heap.SetOf (PySem.strKind prog w) S (fun k => decide (k ∈ diff (xs.take i))) (diff (xs.take i)).length →
      (∀ s', Moved (S :: wr) G s s' → s'.heap.SetOf (PySem.strKind prog w) S (fun k => decide (k ∈ diff xs)) (diff xs).length → R (.ok (.ret .none)) s') →
      codeAny (model prog w) A (.builtin "set.update.loop" ⟨[.ref S, .ref I], []⟩) R s := by
  have hSw : S ∉ wr := fun z => hSf (W.sub _ z)
  have up : ∀ b ∈ wr, b ∈ S :: wr := fun b z => .tail _ z
  intro left
  induction left with
  | zero =>
    intro i s hk hst hS hR
    obtain rfl : i = n := by omega
    have hall : xs.take i = xs := by rw [← hsz, List.take_length]
    rw [hall] at hS
    refine codeAny_builtin PyProof.Rows.F.entry_set_update_loop (show wpAny _ _ _ _ _ s from ?_)
    rw [Around.under_plainId PyProof.Rows.F.plain_set_update_loop _]
    refine (wpAny_bind (W.done s _ _ hst fun s' hm => ?_) : wpAny _ A.in1 (pyNext (.ref I) >>= _) _ _ s)
    obtain ⟨o, es, ep, t, ho, more⟩ := hS
    show wpAny _ A.in1 (ret Value.none) _ _ s'
    exact wpAny_pure (hR s' (hm.mono up) ⟨o, es, ep, t, hm.heap S _ hSw ho, more⟩)
  | succ left ih =>
    intro i s hk hst hS hR
    have hlt : i < n := by omega
    refine codeAny_builtin PyProof.Rows.F.entry_set_update_loop (show wpAny _ _ _ _ _ s from ?_)
    rw [Around.under_plainId PyProof.Rows.F.plain_set_update_loop _]
    refine (wpAny_bind (W.item i s _ _ hlt hst fun v s' hP hst' hm => ?_) : wpAny _ A.in1 (pyNext (.ref I) >>= _) _ _ s)
    obtain ⟨t, rfl⟩ := hval i v hP
    have hx : xs[i]? = some (xs.getD i Str.empty) := by
      rw [List.getD_eq_getElem?_getD, List.getElem?_eq_getElem (by omega)]; rfl
    have hd1 : diff (xs.take (i + 1)) = addS (diff (xs.take i)) (xs.getD i Str.empty) := foldl_take addS [] hx
    have hlen : (diff (xs.take i)).length ≤ i := by
      have := diff_len (xs.take i) []
      rw [List.length_take] at this
      exact Nat.le_trans this (by simp; omega)
    obtain ⟨o, es, ep, tb, ho, more⟩ := hS
    have now : s'.heap.SetOf (PySem.strKind prog w) S (fun k => decide (k ∈ diff (xs.take i))) (diff (xs.take i)).length := ⟨o, es, ep, tb, hm.heap S _ hSw ho, more⟩
    refine (wpAny_bind (wpAny_holding ?_) : wpAny _ A.in1 (holding [Value.str (xs.getD i Str.empty) t] (setAdd S (.str (xs.getD i Str.empty) t)) >>= _) _ _ s')
    unfold setAdd
    refine wpAny_holding (wpAny_bind ((PySem.strKind prog w).pyHash (k := xs.getD i Str.empty) (strKind_is _ _ _ _) ?_))
    refine wpAny_setAddHashed_of (knd := PySem.strKind prog w) (s := { s' with toks := s'.toks + 1 }) (strKind_is _ _ _ _) rfl now (by omega) fun h' sb new => ?_
    have next : h'.SetOf (PySem.strKind prog w) S (fun k => decide (k ∈ diff (xs.take (i + 1)))) (diff (xs.take (i + 1))).length := by
      rw [hd1]
      exact SetOf_congr new (fun k => (addS_mem _ _ k).symm) (addS_len _ _).symm
    have fr : St (i + 1) { s' with heap := h', toks := s'.toks + 1 } := W.frame _ s' _ _ hst' (Nat.le_succ _) fun b hb o e => (sb.2 b fun z => hSf (z ▸ hb)).trans e
    refine wpAny_pure ⟨plainId_quiet PyProof.Rows.F.plain_set_update_loop _, ih (i + 1) _ (by omega) fr next fun s2 hm2 hS2 => hR s2 ?_ hS2⟩
    exact Moved.trans W.gtrans ((hm.mono up).then_heap (Nat.le_succ _) fun b o hb e => (sb.2 b fun z => hb (z ▸ .head _)).trans e) hm2
end
section
variable {prog : Program} {w : World} {A : Around} {E : Value → Shared → Prop} {s : Shared}
set_option maxHeartbeats 3200000 in
theorem call_setTx {l : Addr} {items : Array Value} {xs : List Str} {Q : Value → Shared → Prop}
    (hh : A.handled = none) (hl : s.heap.IsList l items) (hi : PyProof.Rows.StrsAre items.toList xs) (hn : xs.length = items.size) (hb : xs.length + 1 < scanBound)
    (h : ∀ (h' : Heap) (tk : Nat), h'.SetOf (PySem.strKind prog w) s.heap.objs.size (fun k => decide (k ∈ diff xs)) (diff xs).length →
      (∀ b o, b < s.heap.objs.size → s.heap.get? b = some o → h'.get? b = some o) → Q (.ref s.heap.objs.size) { s with heap := h', toks := tk }) :
    wpAny (model prog w) A (call (.type "set") [.ref l]) Q E s := by
  obtain ⟨c, tl, hmro⟩ := PySem.F.called_set.mro
  have a1 := PySem.F.called_set.made
  have a2 := PySem.F.called_set.sub
  have a3 := PySem.F.called_set.notType
  have a4 := PySem.F.called_set.canCreate
  have a5 := PySem.F.typeCall_set_1 (.ref l)
  refine wpAny_call (codeAny_of_tree (show wpAny _ _ (callAny (.type "set") _) _ _ _ from ?_))
  refine wpAny_pure ⟨Code.quiet_builtin _ (by decide +kernel), codeAny_builtin PySem.F.entry_type_call ?_⟩
  rw [Around.under_plain (weight_type_call_type "set" [.ref l] []) rfl]
  repeat (any_goals (first | assumption | wp_step))
  refine codeAny_mono (PySem.code_set_new_1 (.ref l) (E := E) (Q₁ := fun obj s₁ => ∃ led : Bool, obj = .ref s.heap.objs.size ∧ s₁ = { s with heap := s.heap.push { cls := .type "set", dict := none, data := .set #[] 0 (.fresh 0 0 led) } }) fun led => ⟨led, rfl, rfl⟩) fun r s₁ hr => ?_
  cases r with
  | error e => exact hr
  | ok fl =>
    cases fl with
    | next => exact hr.elim
    | brk => exact hr.elim
    | cont => exact hr.elim
    | ret obj =>
      obtain ⟨led, rfl, rfl⟩ := hr
      have b1 : (s.heap.push { cls := .type "set", dict := none, data := .set #[] 0 (.fresh 0 0 led) }).get? s.heap.objs.size = some { cls := .type "set", dict := none, data := .set #[] 0 (.fresh 0 0 led) } := Heap.get?_push_size _ rfl
      have b2 : Shared.TypeIs { s with heap := s.heap.push { cls := .type "set", dict := none, data := .set #[] 0 (.fresh 0 0 led) } } (.ref s.heap.objs.size) "set" := ⟨_, b1, rfl⟩
      have b3 := PySem.F.called_set.init.lookup
      have b4 := PySem.F.called_set.init.bind (.ref s.heap.objs.size)
      repeat (any_goals (first | assumption | wp_step))
      refine codeAny_mono (codeAny_call_builtin (R := wants (fun r s₂ => r = .none ∧ ∃ h' tk, s₂ = { s with heap := h', toks := tk } ∧
          h'.SetOf (PySem.strKind prog w) s.heap.objs.size (fun k => decide (k ∈ diff xs)) (diff xs).length ∧
          (∀ b o, b < s.heap.objs.size → s.heap.get? b = some o → h'.get? b = some o)) E) PySem.F.called_set.init.plain PySem.F.entry_set_init (PySem.check_set_init_1 b2 ?_)) fun r₂ s₂ hr₂ => ?_
      · obtain ⟨⟨oc, od, odata, osl⟩, hol, hcl, nl, hdl⟩ := hl
        replace hcl : oc = .type "list" := hcl
        replace hdl : odata = .seq items nl := hdl
        subst hcl hdl
        have d1 : (s.heap.push { cls := .type "set", dict := none, data := .set #[] 0 (.fresh 0 0 led) }).get? l = some { cls := .type "list", dict := od, data := .seq items nl, slots := osl } := Heap.get?_push_of_some _ hol
        have d2 := PySem.F.sub_list_set
        have d3 := PySem.F.sub_list_frozenset
        have d4 : (Value.type "list" == Value.type "dict") = false := by decide
        have d5 : (s.heap.push { cls := .type "set", dict := none, data := .set #[] 0 (.fresh 0 0 led) }).IsList l items := ⟨_, d1, rfl, nl, rfl⟩
        have llt : l < s.heap.objs.size := Heap.lt_size hol
        unfold Builtin.«set.__init__» noKeywords Builtin.Frozenset.updateFrom
        generalize hPI : pyIter = PI
        wp_walk
        subst hPI
        refine wpAny_pyIter_list d5 ?_
        refine wpAny_bind (wpAny_runValue ?_)
        have e1 : l ≠ (s.heap.push { cls := .type "set", dict := none, data := .set #[] 0 (.fresh 0 0 led) }).objs.size := by rw [Heap.size_push]; exact Nat.ne_of_lt (Nat.lt_succ_of_lt llt)
        have e2 : s.heap.objs.size ∉ [(s.heap.push { cls := .type "set", dict := none, data := .set #[] 0 (.fresh 0 0 led) }).objs.size, l] := fun hm => by
          rw [Heap.size_push] at hm
          rcases List.mem_cons.mp hm with z | z
          · exact absurd z (Nat.ne_of_lt (Nat.lt_succ_self _))
          · exact absurd (List.mem_singleton.mp z) (Nat.ne_of_gt llt)
        have e3 : ∀ (i : Nat) (v : Value), items[i]? = some v → ∃ t, v = .str (xs.getD i Str.empty) t := fun i v hv => SS.strs_at hi i v (by rw [Array.getElem?_toList]; exact hv)
        refine loopTx ((Walks.list (show A.in1.in1.in1.handled = none by simp [hh]) _ l e1 items).toS) s.heap.objs.size e2 xs hn (by omega) e3 items.size 0 _ (by omega) ⟨⟨_, Heap.get?_push_size _ rfl, rfl, rfl⟩, d5.push _⟩ ?x1 ?x2
        case x1 =>
          have f1 := (PyProof.Rows.setObjOf_fresh (knd := PySem.strKind prog w) led).setOf (h := (s.heap.push { cls := .type "set", dict := none, data := .set #[] 0 (.fresh 0 0 led) }).push { cls := .type "list_iterator", data := .fields #[.ref l, .int 0 0] }) (a := s.heap.objs.size) (Heap.get?_push_of_some _ b1) (by unfold scanBound; omega)
          exact SetOf_congr f1 (fun _ => rfl) rfl
        case x2 =>
          rintro ⟨h', g', d', tk', os'⟩ hm hS'
          obtain rfl : g' = s.gens := hm.gens
          obtain rfl : d' = s.drawn := hm.drawn
          obtain rfl : os' = s.os := hm.os
          show wpAny _ _ _ _ _ _
          refine wpAny_pure ?_
          show wpAny _ _ (ret Value.none) _ _ _
          refine wpAny_pure ⟨rfl, h', tk', rfl, hS', fun b o hb e => ?_⟩
          refine hm.heap b o (fun hmem => ?_) (Heap.get?_push_of_some _ (Heap.get?_push_of_some _ e))
          rw [Heap.size_push] at hmem
          rcases List.mem_cons.mp hmem with z | z
          · exact absurd z (Nat.ne_of_lt hb)
          · exact absurd (List.mem_singleton.mp z) (Nat.ne_of_lt (Nat.lt_succ_of_lt hb))
      · cases r₂ with
        | error e => exact hr₂
        | ok fl₂ =>
          cases fl₂ with
          | next => exact hr₂.elim
          | brk => exact hr₂.elim
          | cont => exact hr₂.elim
          | ret r =>
            obtain ⟨rfl, h', tk, rfl, hS', hk'⟩ := hr₂
            repeat (any_goals (first | assumption | wp_step))
            exact h _ _ hS' hk'
end
section
variable {q : Option Addr} {X : Cx} {σ : L2.St} {F H : Hp} {a : Expr} {pos p p2 pos2 : Pos} {ss : List Str}
theorem xd_lenSet (B : Bn X.mg) (hc : X.calm = true) (ha : XD q X a σ F H (.list (ss.map .str))) (hl : ss.length ≤ 1000) (hg : Gl X "len" := by rfl) (hg2 : Gl X "set" := by rfl) (na : starEach [a] X.env = (false, eval a X.env) :: starEach [] X.env := by rfl) :
    XD q X (.Call (.Name "len" p) [.Call (.Name "set" p2) [a] [] pos2] [] pos) σ F H (.int (diff ss).length) := fun F1 H1 g Q kq => ⟨fun pins s I => by
  refine Call_ (ld_blt I hg B.len boot_len (PyProof.Rows.callWith_builtin1 (PyProof.Rows.args_cons ?_ rfl) rfl rfl))
  refine Call_ (ld_blt I hg2 B.set boot_set (PyProof.Rows.callWith_type1 (PyProof.Rows.args_cons ?_ na) na rfl))
  refine thn ((ha F1 H1 g (fun v H2 => ∃ F2, Grow q F1 H1 F2 H2 ∧ Ds F2 v (.list (ss.map .str))) fun v F2 H2 g2 hv => ⟨F2, g2, hv⟩).run pins s I) fun v s1 ⟨x, H2, I1, r1, F2, g2, hv⟩ => PyProof.Rows.args_nil ?_
  obtain ⟨l, xs, rfl, h1, h2⟩ := ds_lst hv
  rw [h2.strs] at h1
  cases r1
  obtain ⟨its, r, pl, hz⟩ := I1.list (SqL.of (g2.s _ _ h1))
  have hlen : ss.length = its.toArray.size := by rw [List.size_toArray, ← r.length, List.length_map]
  have hd : (diff ss).length ≤ ss.length := Nat.le_trans (diff_len ss []) (by simp)
  refine call_setTx (I1.ok.hd hc) pl.isList (by simpa using strsAre_of r) hlen (by unfold scanBound; omega) fun h' tk hS hk => PyProof.Rows.args_nil ?_
  obtain ⟨o, es, ep, t, ho, hex, hdd, _, _, _, hf, hn⟩ := hS
  have I2 : Inv X pins σ H2 { s1 with heap := h', toks := tk } := I1.kept fun b o e => hk b o (Heap.lt_size e) e
  exact call_len_set ho hex hdd hf (by rw [hn]; omega) ⟨.int (diff ss).length, H2, I2.tok _, ⟨_, by rw [hn]⟩, kq _ F2 H2 g2 (.int _)⟩⟩
end
end R
end
section
set_option Elab.async false
set_option linter.all false
set_option maxRecDepth 100000
set_option maxHeartbeats 4000000
namespace K01
open PySem L2 Evl R
def itemD (r : Row) : PyData := .tuple [pairD r.key, valD r]
def dItem : PyData → Row
  | .tuple [.tuple [.str a, .str b], .tuple [.tuple ch, .int co]] => ⟨a, b, ch.map dstr, co⟩
  | _ => ⟨Str.empty, Str.empty, [], 0⟩
theorem dItem_d (r : Row) : dItem (itemD r) = r := dRow_d r
/-- rows that form a world -/
structure WorldOk (rs : List Row) : Prop where
  ne : rs ≠ []
  len : rs.length ≤ 12
  rows : ∀ r ∈ rs, RowOk (rs.map Row.key) r
  uses : UsesOk (rs.map Row.key)
  nd : (rs.map Row.key).Nodup
  six : (diff (rs.map (·.se))).length ≤ 6
section
variable {P : Program} {w : World} {K : PySem.W.Frag} {mg : Str → Option Value} {base : Heap}
/-! _check_rows -/
abbrev sCk : Stmt := top 21
abbrev nCk : List Str := ["rows", "uses", "use", "value", "row"]
theorem scCk : FnScope nCk ["rows"] (defScope sCk) := ⟨rfl, rfl, rfl, by decide +kernel, rfl, by decide +kernel, by decide +kernel⟩
def pCk : List V → Hp → TyP → Prop := fun vs F T => ∃ (v : V) (rs : List Row), vs = [v] ∧ Ds F v (.list (rs.map itemD)) ∧ WorldOk rs ∧ T = dt .none
theorem ok_ck (CP : Cal P w K mg base "_is_pair_of_names" 2 ["value"] (spD pPn)) (CF : Cal P w K mg base "_fits" 3 ["use", "value", "uses"] (spD pFi)) (C : Cst mg) (B : Bn mg) {f : Addr} {fd : FuncData} (Fn : Fun K "_check_rows" "_check_rows" sCk f fd) : FnOk P w K mg base CX0 4 f fd ["rows"] (spD pCk) := by
  refine Fn.ok scCk (fun vs H Q E h => ?_) (fun cdv A outer s H vs Q E hr h => ⟨_, wSs_ok, ?_⟩)
  · obtain ⟨F, T, _, ⟨v, rs, rfl, _⟩, _⟩ := h
    rfl
  obtain ⟨F, T, s0, ⟨v, rs, rfl, hv, hW, rfl⟩, kq⟩ := h
  have g0 := Grow.start s0
  obtain ⟨t1, c1⟩ := C.uses
  obtain ⟨t2, c2⟩ := C.secrets
  have hlen := hW.len
  have hpos : 0 < rs.length := List.length_pos_iff.mpr hW.ne
  refine ss_cons (s_skip (XT.eq (xt_not (xt_chain (f := fun i j => decide (i ≤ j)) (g' := fun i j => decide (i ≤ j)) op_le op_le xd_int (xd_lenL B (xv 0 hv)) (xd_globI c1))) ?_) g0 fun F1 H1 g1 => ?_)
  · rw [List.length_map, decide_eq_true (by omega : (1 : Int) ≤ rs.length), decide_eq_true (by omega : (rs.length : Int) ≤ 12)]; rfl
  refine ss_cons (s_lcAll (i := 1) (ds := rs.map itemD) (own := [("row", 4)]) (gx := gName 4) (asg := fun σ vs => σ.set 4 vs.head?) (esf := fun d => [d]) (gm := fun d => pairD (dItem d).key) rfl rfl (sw_true rfl rfl rfl (by decide +kernel)) g1 (fun l ws F2 H2 g2 hno hF2 hH2 hws => ?_)
    ⟨rfl, scCk.nd, blkOk_by (N := nCk) (sc := defScope sCk) (by decide +kernel), fun _ _ _ _ _ => pg_name (i := 4) scCk.nd rfl (.inl rfl), fun _ => rfl⟩ (xi_lst (xv 0 (hv.mono g1.f))) (fun d _ => tgt_name) (by rw [List.length_map]; omega) (fun _ => rfl) (fun d vs F2 H2 hd g2 hvs => ?_))
  · rw [map_map' itemD dItem dItem_d (fun r => pairD r.key)] at hws
    obtain ⟨gf, hdu⟩ := (g1.trans g2).freeze (g1.fresh hno) hF2 hH2 hws
    have hdu' : Ds (upd F2 l (.lst ws)) (.ref l) (.list ((rs.map Row.key).map pairD)) := by rw [List.map_map]; exact hdu
    have hv2 := hv.mono (g1.f.trans (g2.f.trans (Ex.new (o := .lst ws) hF2)))
    refine ss_cons (s_for (asg := fun σ vs => σ.set 2 vs.head?) (gx := gName 2) (esf := fun d => [d]) rfl PassesOwn.never (xi_lst (xv 1 hdu')) (pg_name (i := 2) scCk.nd rfl (.inl rfl)) (fun d _ => tgt_name) gf
      (fun i σ F' H' => ∃ (t : Option V), σ = [some v, some (.ref l), t, none, none]) ?_ ⟨_, rfl⟩ ?_ ?_)
    · rintro i σ' F' H' F'' H'' h _
      exact h
    · rintro i d vs σ' F' H' hd e1 gg ⟨t, rfl⟩ hvs
      obtain ⟨x, rfl, hx⟩ := hvs.one
      obtain ⟨p, hp, rfl⟩ := List.mem_map.mp (List.mem_of_getElem? hd)
      obtain ⟨r, hrm, rfl⟩ := List.mem_map.mp hp
      have hR := hW.rows r hrm
      refine ss_cons (s_skip (xt_not (u := true) (xt_val (xc CP hr (by decide) (xa_cons mono_dt (xv 2 hx) xa_nil) ?_))) gg fun F3 H3 g3 => ss_nil ⟨F3, g3.f, gg.trans g3, _, rfl⟩)
      rintro vs F3 e ht
      obtain ⟨v1, rfl, h3⟩ := ht.one
      refine ⟨v1, r.key, rfl, h3, hR.lsv, hR.lse, ?_⟩
      rw [show isNm r.key.1 = true from hR.nsv, show isNm r.key.2 = true from hR.nse]; rfl
    · rintro σ' F3 H3 e3 gg ⟨t, rfl⟩
      have hdu3 := hdu'.mono e3
      refine ss_cons (s_skip (xt_cmp (XCm.eq (c_gt (xd_lenSet (ss := rs.map (·.se)) B rfl (XD.eq (XM.xd (xm_lc (own := [("use", 2)]) (gx := gName 2) (asg := fun σ vs => σ.set 2 vs.head?) (esf := fun d => [d]) (ds := (rs.map Row.key).map pairD) (gm := fun d => .str (dsnd d)) ⟨rfl, scCk.nd, blkOk_by (N := nCk) (sc := defScope sCk) (by decide +kernel), fun _ _ _ _ _ => pg_name (i := 2) scCk.nd rfl (.inl rfl), fun _ => rfl⟩ (xi_lst (xv 1 hdu3)) (fun d _ => tgt_name) ?_ (fun _ => rfl) (fun d vs F4 H4 hd g4 hvs => ?_))) ?_) ?_) (xd_globI c2)) ?_)) gg fun F4 H4 g4 => ?_)
      · rw [List.length_map, List.length_map]; omega
      · intro s' H0' C' cl fp
        obtain ⟨y, rfl, hy⟩ := hvs.one
        obtain ⟨p, hp, rfl⟩ := List.mem_map.mp hd
        exact xd_ixT (ds := [.str p.1, .str p.2]) (xv 2 hy) xd_int rfl
      · rw [List.map_map, List.map_map, List.map_map]; rfl
      · rw [List.length_map]; omega
      · have := hW.six
        exact decide_eq_false (by omega)
      have gg4 := gg.trans g4
      refine ss_cons (s_for (asg := fun σ vs => (σ.set 2 vs[0]?).set 3 vs[1]?) (gx := gTup K 2 (gCons (gName 2) (gCons (gName 3) gNil))) (esf := fun d => match d with | .tuple es => es | _ => []) rfl PassesOwn.never (xi_lst (ds := rs.map itemD) (xv 0 (hv2.mono (e3.trans g4.f)))) (pg_tup rfl (pgs_cons (pg_name (i := 2) scCk.nd rfl (.inl rfl)) (pgs_cons (pg_name (i := 3) scCk.nd rfl (.inl rfl)) pgs_nil))) (fun d hd => ?_) gg4
        (fun i σ F' H' => ∃ (t o : Option V), σ = [some v, some (.ref l), t, o, none]) ?_ ⟨_, _, rfl⟩ ?_ ?_)
      · obtain ⟨r, _, rfl⟩ := List.mem_map.mp hd
        exact tgt_tup2
      · rintro i σ' F' H' F'' H'' h _
        exact h
      · rintro i d vs σ' F' H' hd e1 gg5 ⟨t, o, rfl⟩ hvs
        obtain ⟨r, hrm, rfl⟩ := List.mem_map.mp (List.mem_of_getElem? hd)
        obtain ⟨x, y, rfl, hx, hy⟩ := hvs.two
        refine ss_cons (s_skip (xt_not (u := true) (xt_val (xc CF hr (by decide) (xa_cons mono_dt (xv 2 hx) (xa_cons mono_dt (xv 3 hy) (xa_cons mono_dt (xv 1 (hdu3.mono (g4.f.trans e1))) xa_nil))) ?_))) gg5 fun F6 H6 g6 => ss_nil ⟨F6, g6.f, gg5.trans g6, _, _, rfl⟩)
        rintro vs F6 e ht
        obtain ⟨v1, v2, v3, rfl, h1, h2, h3⟩ := ht.three
        exact ⟨v1, v2, v3, rs.map Row.key, r, rfl, h1, h2, h3, hW.rows r hrm, hW.uses, rfl⟩
      · rintro σ' F5 H5 e5 gg5 ⟨t, o, rfl⟩
        exact ss_nil (kq _ F5 H5 gg5 .non)
  · intro s' H0' C' cl fp
    obtain ⟨y, rfl, hy⟩ := hvs.one
    obtain ⟨r, _, rfl⟩ := List.mem_map.mp hd
    rw [dItem_d]
    exact xd_ixT (ds := [pairD r.key, valD r]) (xv 4 hy) xd_int rfl
end
end K01
end
section
set_option Elab.async false
set_option linter.all false
set_option maxRecDepth 100000
set_option maxHeartbeats 4000000
/-! R: dicts with tuple keys. The walk of a comprehension's block follows the library's rule for a dict comprehension; here d[k] = v is any store that DPut knows. -/
namespace R
open PySem PySem.Spec L2 PyProof.Rows Evl
/-- a block's store -/
theorem dset {X : Cx} {pins : List (Addr × Obj)} {σ : L2.St} {H H' : Hp} {s : Shared} {E : Value → Shared → Prop} {D : Addr} {y z : V} {u r : Value} {Q : Unit → Shared → Prop} (hu : X.A.units + 1 < cLine) (I : Inv X pins σ H s) (g : DPut H D y z H') (ry : RelV y u) (rz : RelV z r)
    (h : ∀ s', Inv X pins σ H' s' → Q () s') : wpAny (model X.prog X.w) X.A (dictSet D u r) Q E s := by
  rcases g with ⟨kvs, k, e, rfl, l, rfl⟩ | ⟨kvs, k, b, e, rfl, eb, l, rfl⟩
  · exact d_dictSet I e l ry rz h
  · cases (show u = Value.ref b from ry)
    obtain ⟨z1, hd, xs, rel, dd⟩ := dt_of I.hok e
    have n1 : xs.length ≤ sizeLine := (Paired.length rel) ▸ z1
    have n2 : (putK kvs k z).length ≤ sizeLine := Nat.le_trans (length_putK kvs k z) (by omega)
    refine wpAny_dictSet_heap (show X.A.units < cLine by omega) (key_of I.hok eb) dd (fun h' dd' hs => h _ ?_) n1
    obtain ⟨ob, es, ep, q1, q2, q3, q4, _, q5⟩ := dd'
    exact d_write I (by rw [e]; trivial) hs ⟨ob, q1⟩ ⟨n2, hd, _, (rel.put k eb rz).keeps fun c ys ec => (upd_ne (ne_of ec e fun z => nomatch z)).trans ec, ob, es, ep, q1, q2, q3, q4, q5⟩

section
variable {X : Cx}
/-- {k: v for tg in iter} as a dict with tuple keys -/
def tDt (wi : TI) (g : TG) (tk tv : TE) (own : List Nat) : TE := fun σ H Q => wi σ H fun J H1 => ∀ D, H1 D = none → ∃ W : Nat → Nat → Hp → Prop, (∃ m, W 0 m (upd H1 D (.dT []))) ∧
  ∀ i m H, W i m H → (J.stop i H ∧ Q (.ref D) H) ∨ (J.go i H ∧ ∃ Nx : Hp → Prop, (∀ H', Nx H' → ∃ m', m' < m ∧ W (i + 1) m' H') ∧
    ∀ x H', J.yld i H x H' → g x (wipe σ own) H' fun σ2 H2 => wipe σ2 own = wipe σ own ∧ tk σ2 H2 fun y H3 => tv σ2 H3 fun z H4 => ∃ H5, DPut H4 D y z H5 ∧ Nx H5)
theorem dt_core {pins : List (Addr × Obj)} {s0 : Shared} {σ : L2.St} {Ha : Hp} {Q : VK} {kx vx tg iter : Expr} {scope : Scope} {own : List (Str × Nat)} {pos pos' : Pos} {wi : TI} {g : TG} {tk tv : TE} {use : Option (Value → Sem Unit)} {Qf : Value → Shared → Prop} (hu : X.A.units + 1 < cLine)
    (hc : X.calm = true) (hN : X.N.Nodup) (J0 : Inv X pins σ Ha s0) (hi : PI X tg iter wi) (ok : BlkOk X.N X.env.scope scope own) (hg : InB X scope fun Y => PG Y tg g) (hk : InB X scope fun Y => PE Y kx tk) (he : InB X scope fun Y => PE Y vx tv)
    (hs : ∀ x, foldedSetIterable iter X.env x = pure x) (h : tDt wi g tk tv (own.map (·.2)) σ Ha Q)
    (back : ∀ D C s' m H', Inv X pins σ H' s' → Q (.ref D) H' → s'.heap.Ns C m → FpOk X pins H' C → compPost (model X.prog X.w) X.A X.xe use Qf (.ref D) C (.ok .next) s') :
    wpAny (model X.prog X.w) X.A (comprehension (.DictComp kx vx [⟨tg, iter, [], 0⟩] scope pos) scope X.env pos' newDict false (eval iter X.env) use) Qf X.xe s0 := by
  have cells : ∀ y ∈ scope.names, y.2 = .free → ∃ c, X.env.cells.lookup y.1 = some c := fun y hy e => (ok.free y hy e).elim (fun k => J0.ok.has _ (.inl k)) fun k => J0.ok.has _ (.inr k)
  refine wpAny_comprehension_free (use := use) rfl hs (closure_ok cells) ok.kind (fun y hy e => (ok.uniq y hy).trans (congrArg some e)) ?_
  refine thn (hi.run pins s0 σ Ha _ J0 h) fun _ sa pa => thn pa fun itv sb pb => ?_
  obtain ⟨it, fp, tn, J, Hb, rfl, Jb, T, stb, fpb, q⟩ := pb
  refine wpAny_newObj_type (newEnv_comp ?_)
  generalize hD : sb.heap.objs.size = D
  have freeD : Hb D = none := Jb.hok.fresh (Nat.le_of_eq hD)
  obtain ⟨W, ⟨m0, w0⟩, step⟩ := q D freeD
  have Jc : Inv X pins σ (upd Hb D (.dT [])) { sb with heap := sb.heap.push { cls := .type "dict", data := .dict #[] } } :=
    Jb.laid (t' := sb.toks) (fun b o e => Heap.get?_push_of_some _ e) (Nat.le_of_eq hD) (hD ▸ dt_empty sb.heap Jb.big)
  have below : ∀ b ∈ fp, b < D := fun b hb => by
    obtain ⟨o, e, _⟩ := T.obj _ _ stb b hb
    exact hD ▸ Heap.lt_size e
  generalize hsc : ({ sb with heap := sb.heap.push { cls := .type "dict", data := .dict #[] } } : Shared) = sc at Jc ⊢
  have hpc : sc.heap = sb.heap.push { cls := .type "dict", data := .dict #[] } := by rw [← hsc]
  generalize hHc : upd Hb D (.dT []) = Hc at Jc w0
  have fpc : ∀ b ∈ fp, FpOk X pins Hc b ∧ b < sc.heap.objs.size := fun b hb => by
    have lt := below b hb
    refine ⟨⟨?_, (fpb b hb).2⟩, by rw [hpc, Heap.size_push, hD]; exact Nat.lt_succ_of_lt lt⟩
    rw [← hHc, upd_ne (Nat.ne_of_lt lt)]
    exact (fpb b hb).1
  have stc : tn 0 sc.heap := T.keep _ _ _ stb fun b _ o e => by rw [hpc]; exact Heap.get?_push_of_some _ e
  have Jd := block_start Jc ok hN fpc
  have pg := hg sc Hc sc.heap.objs.size (cellsFrom (sc.heap.objs.size + 1) scope.names (cloFrom X.env.cells scope.names [])) fp
  have pk := hk sc Hc sc.heap.objs.size (cellsFrom (sc.heap.objs.size + 1) scope.names (cloFrom X.env.cells scope.names [])) fp
  have pe := he sc Hc sc.heap.objs.size (cellsFrom (sc.heap.objs.size + 1) scope.names (cloFrom X.env.cells scope.names [])) fp
  show codeAny _ _ (.compStart (.DictComp kx vx [⟨tg, iter, [], 0⟩] scope pos) 0 (.ref it) (.ref D) (compEnvC scope (cellsFrom (sc.heap.objs.size + 1) scope.names (cloFrom X.env.cells scope.names [])) sc.heap.objs.size X.env)) (compPost (model X.prog X.w) X.A X.xe use Qf (.ref D) sc.heap.objs.size) { sc with heap := pushCells (sc.heap.push { cls := .type "dict", data := .dict #[] }) scope.names }
  generalize hce : compEnvC scope (cellsFrom (sc.heap.objs.size + 1) scope.names (cloFrom X.env.cells scope.names [])) sc.heap.objs.size X.env = ce at Jd pg pk pe ⊢
  have loc : ce.locals = sc.heap.objs.size := by rw [← hce]; rfl
  generalize hsd : ({ sc with heap := pushCells (sc.heap.push { cls := .type "dict", data := .dict #[] }) scope.names } : Shared) = sd at Jd ⊢
  have std : tn 0 sd.heap := T.keep _ _ _ stc fun b _ o e => by rw [← hsd]; exact pushCells_keeps _ _ _ _ (Heap.get?_push_of_some _ e)
  have still : ∀ {σ' : L2.St} {H' : Hp} {s' : Shared}, Inv (X.blk sc Hc scope ce fp) [] σ' H' s' → (∀ b ∈ fp, H' b = none) → ∀ b ∈ fp, FpOk (X.blk sc Hc scope ce fp) [] H' b := fun {σ' H' s'} K hn b hb =>
    ⟨hn b hb, (K.ok.exf b hb).1, K.ok.exfs b hb, .inl hb, fun x c e => (K.ok.exf b hb).2 x c e, fun p hp => by simp at hp⟩
  have main : codeAny (model X.prog X.w) X.A (.compLoop (.DictComp kx vx [⟨tg, iter, [], 0⟩] scope pos) 0 (.ref it) (.ref D) ce) (compPost (model X.prog X.w) X.A X.xe use Qf (.ref D) sc.heap.objs.size) sd := by
    refine compLoop_anyD (fun n s' => ∃ i H', Inv (X.blk sc Hc scope ce fp) [] (wipe σ (own.map (·.2))) H' s' ∧ tn i s'.heap ∧ (∀ b ∈ fp, H' b = none) ∧ W i n H') ?_ m0 ⟨0, Hc, Jd, std, fun b hb => (fpc b hb).1.1, w0⟩
    rintro n se ⟨i, He, Je, ste, ne, we⟩
    rcases step i n He we with ⟨stop, fin⟩ | ⟨go, Nx, after, turn⟩
    · refine thnF (T.done (X.blk sc Hc scope ce fp) rfl rfl rfl hc i [] se _ He (fun _ _ => False) Je (still Je ne) ste stop) fun r sf ⟨hr, Jf⟩ => ?_
      subst hr
      have Jg : Inv X pins σ He sf := Jc.call' (ch := fp) Jf.os Jf.base Jf.hok Jf.bare fun b hb => by
        obtain ⟨_, a1, _, a3, a4, a5⟩ := (fpc b hb).1
        exact ⟨a3, a1, a4, a5⟩
      have nC : He ce.locals = none := Jf.free
      obtain ⟨m, hn, _⟩ := Jf.loc
      have hn' : sf.heap.Ns ce.locals m := hn
      rw [loc] at nC hn'
      exact back D _ sf m He Jg fin hn' (Jc.fpOk (Nat.le_refl _) nC)
    · refine thnF (T.item (X.blk sc Hc scope ce fp) rfl rfl rfl hc i [] se _ He (fun _ _ => False) Je (still Je ne) ste go) fun r sf ⟨u, hr, pf⟩ => ?_
      subst hr
      refine thnF pf fun _ sg ⟨x, Hg, Jg, rg, yg, stg, ng⟩ => ?_
      refine thnF (pg.run _ sg _ Hg x u _ (Jg.pinned (still Jg ng) (T.obj _ _ stg)) rg (turn x Hg yg)) fun _ sh ⟨σh, Hh, Jh, wh, qh⟩ => ?_
      refine thnF ((pts_nil (X := X.blk sc Hc scope ce fp)).run _ sh σh Hh (fun b H => b = true ∧ H = Hh) Jh ⟨rfl, rfl⟩) fun b si ⟨Hi, Ji, eb, eH⟩ => ?_
      subst eb eH
      simp only [if_true]
      refine thnF (pk.run _ si σh _ _ Ji qh) fun z sj ⟨yk, Hj, Jj, rj, qj⟩ => thnF (pe.run _ sj σh Hj _ Jj qj) fun z2 sk ⟨yv, Hk, Jk, rk, Hl, put, nx⟩ => ?_
      refine dset (X := X.blk sc Hc scope ce fp) hu Jk put rj rk fun sl Jl => ?_
      obtain ⟨m', lt, w'⟩ := after Hl nx
      have pin : ∀ b ∈ fp, ∀ o, sg.heap.get? b = some o → sl.heap.get? b = some o ∧ Hl b = none := fun b hb o e => by
        have z := Jl.pin (b, o) (List.mem_append_right _ (List.mem_append_right _ (mem_pinsAt hb e)))
        exact ⟨z.1, z.2.1⟩
      refine ⟨m', lt, i + 1, Hl, (Jl.unpinned (pins := [])).weak (by rw [← wh, wipe_length]) (fun j v e => (wipe_some (wh ▸ e)).1), T.keep _ _ _ stg fun b hb o e => (pin b hb o e).1, fun b hb => ?_, w'⟩
      obtain ⟨o, e, _⟩ := T.obj _ _ stg b hb
      exact (pin b hb o e).2
  exact codeAny_compStart_dict main (T.self X.A 0 _ _ _ std main)
end
end R
end
section
set_option Elab.async false
set_option linter.all false
set_option maxRecDepth 100000
set_option maxHeartbeats 4000000
namespace R
open PySem L2 Evl
abbrev KD := List (List Key × PyData)
def kD : Key → PyData
  | .inl i => .int i
  | .inr x => .str x
def keyD (k : List Key) : PyData := .tuple (k.map kD)
theorem ds_kD {F : Hp} {v : V} {k : Key} (h : Ds F v (kD k)) : v = kV k := by
  cases k with
  | inl i => exact ds_int h
  | inr x => exact ds_str h
theorem ds_kDs {F : Hp} : ∀ {k : List Key} {vs : List V}, DsAll F vs (k.map kD) → vs = k.map kV
  | [], _, h => by cases h; rfl
  | k :: ks, _, h => by
    cases h with
    | cons h t => rw [ds_kD h, ds_kDs t]; rfl
theorem kD_ds {F : Hp} (k : Key) : Ds F (kV k) (kD k) := by
  cases k with
  | inl i => exact .int i
  | inr x => exact .str x
theorem kDs_ds {F : Hp} : ∀ k : List Key, DsAll F (k.map kV) (k.map kD)
  | [] => .nil
  | k :: ks => .cons (kD_ds k) (kDs_ds ks)
theorem ds_key {F : Hp} {v : V} {k : List Key} (h : Ds F v (keyD k)) : ∃ b, v = .ref b ∧ F b = some (.tup (k.map kV)) := by
  obtain ⟨b, vs, rfl, h1, h2⟩ := ds_tup h
  exact ⟨b, rfl, by rw [h1, ds_kDs h2]⟩
theorem key_ds {F : Hp} {b : Addr} {k : List Key} (h : F b = some (.tup (k.map kV))) : Ds F (.ref b) (keyD k) := .tup h (kDs_ds k)
/-- a dict's content is this data -/
structure DTs (F : Hp) (kvs : List (List Key × V)) (ps : KD) : Prop where
  keys : kvs.map (·.1) = ps.map (·.1)
  vals : DsAll F (kvs.map (·.2)) (ps.map (·.2))
theorem DTs.nil {F : Hp} : DTs F [] [] := ⟨rfl, .nil⟩
theorem DTs.mono {F F' : Hp} {kvs : List (List Key × V)} {ps : KD} (e : Ex F F') (h : DTs F kvs ps) : DTs F' kvs ps := ⟨h.keys, h.vals.mono e⟩
theorem DTs.len {F : Hp} {kvs : List (List Key × V)} {ps : KD} (h : DTs F kvs ps) : kvs.length = ps.length := by
  have := congrArg List.length h.keys
  simpa using this
theorem DTs.snoc {F : Hp} {kvs : List (List Key × V)} {ps : KD} {k : List Key} {v : V} {d : PyData} (h : DTs F kvs ps) (hv : Ds F v d) : DTs F (kvs ++ [(k, v)]) (ps ++ [(k, d)]) :=
  ⟨by rw [List.map_append, List.map_append, h.keys]; rfl, by rw [List.map_append, List.map_append]; exact h.vals.append (.cons hv .nil)⟩
theorem valV_out {k : List Key} : ∀ {kvs : List (List Key × V)}, k ∉ kvs.map (·.1) → valV kvs k = none
  | [], _ => rfl
  | p :: r, h => by
    rw [List.map_cons, List.mem_cons, not_or] at h
    rw [valV_neg (fun e => h.1 e.symm)]
    exact valV_out h.2
/-- what a data dict holds -/
def valD (ps : KD) (k : List Key) : Option PyData := (ps.find? fun p => decide (p.1 = k)).map (·.2)
theorem DTs.val {F : Hp} : ∀ {kvs : List (List Key × V)} {ps : KD} {k : List Key}, kvs.map (·.1) = ps.map (·.1) → DsAll F (kvs.map (·.2)) (ps.map (·.2)) → (valV kvs k = none ∧ valD ps k = none) ∨ ∃ v d, valV kvs k = some v ∧ valD ps k = some d ∧ Ds F v d
  | [], [], _, _, _ => .inl ⟨rfl, rfl⟩
  | [], _ :: _, _, h, _ => by simp at h
  | _ :: _, [], _, h, _ => by simp at h
  | p :: r, p' :: r', k, h, hv => by
    rw [List.map_cons, List.map_cons] at h hv
    injection h with h1 h2
    cases hv with
    | cons hv ht =>
      by_cases e : p.1 = k
      · exact .inr ⟨p.2, p'.2, valV_pos e, by simp [valD, List.find?_cons, ← h1, e], hv⟩
      · have e' : ¬ p'.1 = k := h1 ▸ e
        have : valD (p' :: r') k = valD r' k := by simp [valD, List.find?_cons, e']
        rw [valV_neg e, this]
        exact DTs.val h2 ht
theorem DTs.has {F : Hp} {kvs : List (List Key × V)} {ps : KD} (h : DTs F kvs ps) (k : List Key) : (valV kvs k).isSome = (valD ps k).isSome := by
  rcases DTs.val (k := k) h.keys h.vals with ⟨a, b⟩ | ⟨v, d, a, b, _⟩ <;> rw [a, b] <;> rfl
theorem DTs.get {F : Hp} {kvs : List (List Key × V)} {ps : KD} {k : List Key} {d : PyData} (h : DTs F kvs ps) (e : valD ps k = some d) : ∃ v, valV kvs k = some v ∧ Ds F v d := by
  rcases DTs.val (k := k) h.keys h.vals with ⟨a, b⟩ | ⟨v, d', a, b, c⟩
  · rw [e] at b; cases b
  · rw [e] at b; cases b; exact ⟨v, a, c⟩
theorem valD_out {ps : KD} {k : List Key} (h : k ∉ ps.map (·.1)) : valD ps k = none := by
  unfold valD
  rw [List.find?_eq_none.mpr (fun p hp => by
    have : p.1 ≠ k := fun e => h (e ▸ List.mem_map_of_mem hp)
    simp [this])]
  rfl
def hasD (ps : KD) (k : List Key) : Bool := ps.any fun p => decide (p.1 = k)
theorem hasD_iff {ps : KD} {k : List Key} : hasD ps k = true ↔ k ∈ ps.map (·.1) := by
  unfold hasD
  rw [List.any_eq_true, List.mem_map]
  exact ⟨fun ⟨p, hp, e⟩ => ⟨p, hp, of_decide_eq_true e⟩, fun ⟨p, hp, e⟩ => ⟨p, hp, decide_eq_true e⟩⟩
theorem valD_has (ps : KD) (k : List Key) : (valD ps k).isSome = hasD ps k := by
  unfold valD
  rw [Option.isSome_map, Bool.eq_iff_iff, List.find?_isSome, hasD, List.any_eq_true]

section
variable {q : Option Addr} {X : Cx} {σ : L2.St} {F H F0 H0 : Hp} {kx vx tg iter a b e : Expr} {scope : Scope} {own : List (Str × Nat)} {gx : TG} {asg : L2.St → List V → L2.St} {esf : PyData → List PyData} {ds : List PyData} {kf : PyData → List Key} {vf : PyData → PyData} {pos p p2 : Pos} {D : Ends} {x y : Str}
/-- e gives a new dict with tuple keys -/
def XMT (q : Option Addr) (X : Cx) (e : Expr) (σ : L2.St) (F H : Hp) (ps : KD) : Prop := ∀ F1 H1, Grow q F H F1 H1 → ∀ Q : VK, (∀ l kvs F2 H2, Grow q F1 H1 F2 H2 → H1 l = none → F2 l = none → H2 l = some (.dT kvs) → DTs F2 kvs ps → Q (.ref l) H2) → wE X e σ H1 Q
theorem XMT.eq {ps ps' : KD} (h : XMT q X e σ F H ps) (e' : ps = ps') : XMT q X e σ F H ps' := e' ▸ h
/-- a dict that may change stays it -/
theorem Grow.putT {l : Addr} {o : HO} (g : Grow q F0 H0 F H) (h0 : H0 l = none) (hf : F l = none) : Grow q F0 H0 F (upd H l o) := g.put h0 hf
theorem dtD {J : It} {F2 H2 : Hp} {te tk : TE} {vs : List Nat} {Q : VK} (g2 : Grow q F0 H0 F2 H2) (w : WalkD J F2 ds) (hl : ds.length ≤ 100000) (hnd : (ds.map kf).Nodup)
    (hb : ∀ d x F' H', d ∈ ds → Grow q F2 H2 F' H' → Ds F' x d → ∀ R : L2.St → Hp → Prop, (∀ σ2, wipe σ2 vs = wipe σ vs → (∀ F3 H3, Grow q F' H' F3 H3 → ∀ Q : VK, (∀ v F4 H4, Grow q F3 H3 F4 H4 → Ds F4 v (keyD (kf d)) → Q v H4) → tk σ2 H3 Q) →
        (∀ F3 H3, Grow q F' H' F3 H3 → ∀ Q : VK, (∀ v F4 H4, Grow q F3 H3 F4 H4 → Ds F4 v (vf d) → Q v H4) → te σ2 H3 Q) → R σ2 H') → gx x (wipe σ vs) H' R)
    (kq : ∀ l kvs F3 H3, Grow q F2 H2 F3 H3 → H2 l = none → F3 l = none → H3 l = some (.dT kvs) → DTs F3 kvs (ds.map fun d => (kf d, vf d)) → Q (.ref l) H3) :
    ∀ D, H2 D = none → ∃ W : Nat → Nat → Hp → Prop, (∃ m, W 0 m (upd H2 D (.dT []))) ∧ ∀ i m H, W i m H →
      (J.stop i H ∧ Q (.ref D) H) ∨ (J.go i H ∧ ∃ Nx : Hp → Prop, (∀ H', Nx H' → ∃ m', m' < m ∧ W (i + 1) m' H') ∧ ∀ x H', J.yld i H x H' → gx x (wipe σ vs) H' fun σ2 H2 => wipe σ2 vs = wipe σ vs ∧
        tk σ2 H2 fun y H3 => te σ2 H3 fun z H4 => ∃ H5, DPut H4 D y z H5 ∧ Nx H5) := by
  intro D hD
  let Pv : Nat → Hp → Prop := fun i H' => ∃ F' kvs, Grow q F2 H2 F' H' ∧ F' D = none ∧ H' D = some (.dT kvs) ∧ DTs F' kvs ((ds.take i).map fun d => (kf d, vf d))
  refine ⟨fun i m H => m = ds.length - i ∧ i ≤ ds.length ∧ Pv i H, ⟨ds.length, by simp, Nat.zero_le _, F2, [], g2.mut hD, fresh_back g2.s hD, upd_same, by simpa using DTs.nil⟩, ?_⟩
  rintro i m H ⟨rfl, hi, F', kvs, gw, hFD, hHD, hacc⟩
  by_cases hlt : i < ds.length
  · refine .inr ⟨w.goes i H hlt (gw.f.trans gw.s), Pv (i + 1), fun H' p' => ⟨ds.length - (i + 1), by omega, rfl, hlt, p'⟩, fun x H' y => ?_⟩
    obtain ⟨F'', d, g3, hd, hx⟩ := w.yields i H x H' F' hlt gw.f gw.s y
    have hmem : d ∈ ds := List.mem_of_getElem? hd
    have hqD : q ≠ some D := g2.a1.ne hD
    have g4 := gw.trans (g3.weak gw.a1)
    have hF''D : F'' D = none := g3.nT D _ hFD hHD
    have hH'D := g3.h D _ (by simp) hHD
    refine hb d x F'' H' hmem g4 hx _ fun σ2 hw hk he => ⟨hw, hk F'' H' g4.end _ fun y F3 H3 g5 hy => he F3 H3 g5 _ fun z F4 H4 g6 hz => ?_⟩
    have hF4D : F4 D = none := g6.nT D _ (g5.nT D _ hF''D hH'D) (g5.h D _ hqD hH'D)
    have hH4D := g6.h D _ hqD (g5.h D _ hqD hH'D)
    have gg := (g4.trans g5).trans g6
    obtain ⟨b, rfl, hkey⟩ := ds_key (hy.mono g6.f)
    have hts : ((ds.take (i + 1)).map fun d => (kf d, vf d)) = ((ds.take i).map fun d => (kf d, vf d)) ++ [(kf d, vf d)] := by
      rw [List.take_add_one, hd]; simp
    have hnew : kf d ∉ kvs.map (·.1) := by
      rw [hacc.keys, List.map_map]
      intro hm
      obtain ⟨d', hd', e⟩ := List.mem_map.mp hm
      obtain ⟨j, hj⟩ := List.mem_iff_getElem?.mp hd'
      have hji : j < i := by
        have := (List.getElem?_eq_some_iff.mp hj).1
        rw [List.length_take] at this; omega
      rw [List.getElem?_take_of_lt hji] at hj
      have e1 : (ds.map kf)[j]? = some (kf d) := by rw [List.getElem?_map, hj]; exact congrArg some e
      have e2 : (ds.map kf)[i]? = some (kf d) := by rw [List.getElem?_map, hd]; rfl
      have := (List.getElem?_inj (List.getElem?_eq_some_iff.mp e1).1 hnd).mp (e1.trans e2.symm)
      omega
    have hlen : kvs.length < sizeLine := by
      rw [hacc.len, List.length_map]
      exact sz_lt (by rw [List.length_take]; omega)
    refine ⟨_, DPut.t hH4D (g6.s b _ hkey |> fun h => h) hlen, F4, kvs ++ [(kf d, z)], ?_, hF4D, ?_, ?_⟩
    · exact gg.put hD hF4D
    · rw [upd_same, putK_new z (valV_out hnew)]
    · rw [hts]
      exact (hacc.mono (g3.f.trans (g5.f.trans g6.f))).snoc hz
  · have e : i = ds.length := by omega
    subst e
    rw [List.take_length] at hacc
    exact .inl ⟨w.stops H (gw.f.trans gw.s), kq D kvs F' H gw hD hFD hHD hacc⟩
theorem dtAll (L : LcOk X tg scope own iter gx) (hi : XI q X tg iter σ F H ds) (hT : ∀ d, d ∈ ds → Tgt gx asg d (esf d)) (hl : ds.length ≤ 100000) (hnd : (ds.map kf).Nodup) (hw : ∀ vs, wipe (asg (wipe σ (own.map (·.2))) vs) (own.map (·.2)) = wipe σ (own.map (·.2)))
    (hk : ∀ d vs F1 H1, d ∈ ds → Grow q F H F1 H1 → DsAll F1 vs (esf d) → InB X scope fun Y => XD q Y kx (asg (wipe σ (own.map (·.2))) vs) F1 H1 (keyD (kf d)))
    (he : ∀ d vs F1 H1, d ∈ ds → Grow q F H F1 H1 → DsAll F1 vs (esf d) → InB X scope fun Y => XD q Y vx (asg (wipe σ (own.map (·.2))) vs) F1 H1 (vf d)) :
    ∀ F1 H1, Grow q F H F1 H1 → ∀ Q : VK, (∀ l kvs F2 H2, Grow q F1 H1 F2 H2 → H1 l = none → F2 l = none → H2 l = some (.dT kvs) → DTs F2 kvs (ds.map fun d => (kf d, vf d)) → Q (.ref l) H2) →
      tDt (wI X tg iter) gx (uE X scope kx) (uE X scope vx) (own.map (·.2)) σ H1 Q := fun F1 H1 g Q kq => by
  refine hi F1 H1 g _ fun J F2 H2 g2 w => dtD (kf := kf) (vf := vf) g2 w hl hnd (fun d x F' H' hd gw hx R r => hT d hd F' H' x _ _ gw.s hx fun vs hvs => ?_) fun l kvs F3 H3 g3 h1 h2 h3 h4 => kq l kvs F3 H3 (g2.trans g3) (g2.fresh h1) h2 h3 h4
  refine r _ (hw vs) (fun F3 H3 g3 Q q s H0 C cl fp => ?_) fun F3 H3 g3 Q q s H0 C cl fp => ?_
  · exact hk d vs F' H' hd (g.trans (g2.trans gw)) hvs s H0 C cl fp F3 H3 g3 Q q
  · exact he d vs F' H' hd (g.trans (g2.trans gw)) hvs s H0 C cl fp F3 H3 g3 Q q
theorem xm_dt (hu : X.A.units + 1 < cLine) (L : LcOk X tg scope own iter gx) (hi : XI q X tg iter σ F H ds) (hT : ∀ d, d ∈ ds → Tgt gx asg d (esf d)) (hl : ds.length ≤ 100000) (hnd : (ds.map kf).Nodup) (hw : ∀ vs, wipe (asg (wipe σ (own.map (·.2))) vs) (own.map (·.2)) = wipe σ (own.map (·.2)))
    (hk : ∀ d vs F1 H1, d ∈ ds → Grow q F H F1 H1 → DsAll F1 vs (esf d) → InB X scope fun Y => XD q Y kx (asg (wipe σ (own.map (·.2))) vs) F1 H1 (keyD (kf d)))
    (he : ∀ d vs F1 H1, d ∈ ds → Grow q F H F1 H1 → DsAll F1 vs (esf d) → InB X scope fun Y => XD q Y vx (asg (wipe σ (own.map (·.2))) vs) F1 H1 (vf d)) :
    XMT q X (.DictComp kx vx [⟨tg, iter, [], 0⟩] scope pos) σ F H (ds.map fun d => (kf d, vf d)) := fun F1 H1 g Q kq => ⟨fun pins s I => by
  rw [arm_eval_DictComp]
  refine dt_core hu L.calm L.nd I wI_ok L.ok L.tg (fun s H C cl fp => ⟨fun pins s' σ' H' Q I h => (h s H C cl fp).run pins s' I⟩) (fun s H C cl fp => ⟨fun pins s' σ' H' Q I h => (h s H C cl fp).run pins s' I⟩) L.hs (dtAll L hi hT hl hnd hw hk he F1 H1 g Q kq) fun D C s' m H' I' q hn f => ⟨m, hn, fun h'' sb => ?_⟩
  obtain ⟨f0, f1, _, f3, f4, f5⟩ := f
  exact ⟨.ref D, H', I'.turned (t' := s'.toks) (fun b o hb e => (sb.2 b hb).trans e) f0 f1 f3 f4 f5, rfl, q⟩⟩
/-- y = {..} -/
theorem s_dt {i : Nat} {py spos : Pos} (hu : X.A.units + 1 < cLine) (hy : X.N[i]? = some y) (hyl : X.env.scope.names.lookup y = some .local) (hsw : swapsWith (.DictComp kx vx [⟨tg, iter, [], 0⟩] scope pos) (some (.Name y py)) spos.line X.env = pure true) (g0 : Grow q F0 H0 F H)
    (k : ∀ l kvs F2 H2, Grow q F H F2 H2 → H l = none → F2 l = none → H2 l = some (.dT kvs) → DTs F2 kvs (ds.map fun d => (kf d, vf d)) → D.nx (σ.set i (some (.ref l))) H2)
    (L : LcOk X tg scope own iter gx) (hi : XI q X tg iter σ F H ds) (hT : ∀ d, d ∈ ds → Tgt gx asg d (esf d)) (hl : ds.length ≤ 100000) (hnd : (ds.map kf).Nodup) (hw : ∀ vs, wipe (asg (wipe σ (own.map (·.2))) vs) (own.map (·.2)) = wipe σ (own.map (·.2)))
    (hk : ∀ d vs F1 H1, d ∈ ds → Grow q F H F1 H1 → DsAll F1 vs (esf d) → InB X scope fun Y => XD q Y kx (asg (wipe σ (own.map (·.2))) vs) F1 H1 (keyD (kf d)))
    (he : ∀ d vs F1 H1, d ∈ ds → Grow q F H F1 H1 → DsAll F1 vs (esf d) → InB X scope fun Y => XD q Y vx (asg (wipe σ (own.map (·.2))) vs) F1 H1 (vf d)) :
    wS X (.Assign [.Name y py] (.DictComp kx vx [⟨tg, iter, [], 0⟩] scope pos) spos) D σ H := ⟨fun pins s I => by
  rw [exec_Assign_Name_used _ _ _ _ hsw]
  refine wpAny_bind (wpAny_standAt (wpAny_bind ?_))
  show wpAny _ X.A (do let _ ← comprehension (.DictComp kx vx [⟨tg, iter, [], 0⟩] scope pos) scope X.env (firstIterPos [⟨tg, iter, [], 0⟩] pos) newDict false (eval iter X.env) (some (assign (.Name y py) X.env))) _ _ s
  refine wpAny_bind (thn (dt_core (Q := fun v H' => ∃ l, v = .ref l ∧ D.nx (σ.set i (some v)) H') (Qf := fun _ s' => SP X pins D .next s') hu L.calm L.nd I wI_ok L.ok L.tg (fun s H C cl fp => ⟨fun pins s' σ' H' Q I h => (h s H C cl fp).run pins s' I⟩) (fun s H C cl fp => ⟨fun pins s' σ' H' Q I h => (h s H C cl fp).run pins s' I⟩) L.hs
    (dtAll L hi hT hl hnd hw hk he F H g0.end _ fun l kvs F2 H2 g2 h1 h2 h3 h4 => ⟨l, rfl, k l kvs F2 H2 g2 h1 h2 h3 h4⟩) fun D' C s' m H' I' ⟨l, el, q⟩ hn f => ?_) fun _ s' hq => wpAny_pure (wpAny_pure hq))
  show wpAny _ _ (assign (.Name y py) X.env (.ref D')) _ _ _
  refine wpAny_assign_Name (store_ok2 (v := V.ref D') I' L.nd hy (.inl hyl) rfl (fun s2 I2 pa => ?_) (.inr hyl))
  obtain ⟨a, sb, ha⟩ := pa
  obtain ⟨f0, f1, _, f3, f4, f5⟩ := f
  have hne : C ≠ a := ha.elim (fun z => z ▸ f1) fun z e => f4 y a z e.symm
  exact ⟨m, hn.sameBut sb hne, fun h3 sb3 => ⟨_, H', I2.turned (t' := s2.toks) (fun b o hb e => (sb3.2 b hb).trans e) f0 f1 f3 f4 f5, q⟩⟩⟩
end
end R
end
section
set_option Elab.async false
set_option linter.all false
set_option maxRecDepth 100000
set_option maxHeartbeats 4000000
namespace R
open PySem PySem.Spec L2 PyProof.Rows Evl
section
variable {prog : Program} {w : World} {A : Around} {E : Value → Shared → Prop} {s : Shared} {r d : Addr} {es : Array DictEntry} {ep : Nat}
/-- list(d.items()), raw: as the library's rule for keys without tuples, over DT.extI -/
theorem listItems {Q : Value → Shared → Prop} (hh : A.handled = none) (vw : s.heap.IsItemsView r d) (raw : DT.Raw s.heap d es ep) (hn : es.size ≤ sizeLine)
    (fin : ∀ h' tk acc c as, (∀ b o, s.heap.get? b = some o → h'.get? b = some o) → h'.get? s.heap.objs.size = some { cls := .type "list", dict := none, data := .seq acc c, slots := #[] } → as.length = es.size → DT.Made es s.heap.objs.size h' as → acc.toList = as.map Value.ref →
      Q (.ref s.heap.objs.size) { s with heap := h', toks := tk }) : wpAny (model prog w) A (call (.type "list") [.ref r]) Q E s := by
  have rl : r < s.heap.objs.size := by obtain ⟨_, ho, _⟩ := vw; exact Heap.lt_size ho
  have dl : d < s.heap.objs.size := raw.lt
  refine callType_codes (Q₁ := fun ob s1 => ob = .ref s.heap.objs.size ∧ s1 = { s with heap := s.heap.push { cls := .type "list", data := .seq #[] } }) F.called_list (F.typeCall_list_1 _) F.entry_list_init (code_list_new _ ⟨rfl, rfl⟩) ?_
  rintro ob s1 ⟨rfl, rfl⟩
  generalize hh1 : s.heap.push { cls := .type "list", data := .seq #[] } = h1
  have hS : h1.get? s.heap.objs.size = some { cls := .type "list", data := .seq #[] } := hh1 ▸ Heap.get?_push_size _ rfl
  have k1 : ∀ b o, s.heap.get? b = some o → h1.get? b = some o := fun b o e => hh1 ▸ Heap.get?_push_of_some _ e
  refine ⟨⟨_, hS, rfl⟩, F.args_list_init_2 _ _, ?_⟩
  show wpAny _ _ (Builtin.List.listItems (.ref s.heap.objs.size) >>= fun old => Builtin.List.listUpdate (.ref s.heap.objs.size) (fun _ => #[]) >>= fun _ => letGo old.toList.reverse >>= fun _ => Builtin.List.listExtendWith (.ref s.heap.objs.size) (.ref r) .none) _ _ { s with heap := h1 }
  refine wpAny_bind (show wpAny _ _ (Builtin.List.listItems _) _ _ _ from ?_)
  unfold Builtin.List.listItems
  refine wpAny_bind (wpAny_seqItems hS rfl (wpAny_pure ?_))
  refine wpAny_bind (show wpAny _ _ (updateSeq s.heap.objs.size (fun _ => #[])) _ _ _ from wpAny_updateSeq hS rfl ?_)
  refine wpAny_bind (wpAny_letGo ?_)
  have hS2 := Heap.get?_update_self (Obj.mapSeq (fun _ => (#[] : Array Value))) hS rfl
  have k2 : ∀ b o, b ≠ s.heap.objs.size → h1.get? b = some o → (h1.update s.heap.objs.size (Obj.mapSeq (fun _ => (#[] : Array Value)))).get? b = some o := fun b o hb e => (Heap.get?_update_other _ _ (Ne.symm hb)).trans e
  have k3 : ∀ b o, s.heap.get? b = some o → (h1.update s.heap.objs.size (Obj.mapSeq (fun _ => (#[] : Array Value)))).get? b = some o := fun b o e => k2 b o (Nat.ne_of_lt (Heap.lt_size e)) (k1 b o e)
  refine DT.extI (A := A.in1) hh (let ⟨o, ho, x⟩ := vw; ⟨o, k3 r o ho, x⟩) (raw.at' fun o e => k3 d o e) _ (Nat.ne_of_gt rl) (Nat.ne_of_lt dl) .none _ hS2 (fun h' tk acc c as hk hS' hl hG hacc => ?_) hn
  exact ⟨rfl, fin h' tk acc c as (fun b o e => hk b o (Nat.ne_of_lt (Heap.lt_size e)) (k3 b o e)) hS' hl (hG.low (Nat.le_of_lt (Heap.lt_size hS2))) hacc⟩
end
section
variable {X : Cx}
/-- list(d.items()) of a dict with tuple keys -/
def rListI : List V → Hp → VK → Prop := fun vs H Q => ∃ (p a : Addr) (kvs : List (List Key × V)), vs = [.ref p] ∧ H p = some (DX.itemsO p a) ∧ H a = some (.dT kvs) ∧ kvs.length ≤ 100000 ∧
  ∀ (H' : Hp) (l : Addr) (ts bs : List Addr), Ex H H' → H l = none → H' l = some (.lst (ts.map V.ref)) → IsKeys H kvs bs → ts.length = kvs.length → bs.length = kvs.length →
    (∀ (i : Nat) t b kv, ts[i]? = some t → bs[i]? = some b → kvs[i]? = some kv → H t = none ∧ t ≠ l ∧ H' t = some (.tup [.ref b, kv.2])) → Q (.ref l) H'
theorem cr_listI (hc : X.calm = true) : CallR X (.type "list") rListI := by
  intro pins s σ H xs us Q I r h
  obtain ⟨p, a, kvs, rfl, hp, ha, hle, q⟩ := h
  obtain rfl := Vals.ref1 r
  have view : s.heap.IsItemsView p a := (show ObjOk X.prog X.w H s.heap p (DX.itemsO p a) from I.hok p _ hp).1
  obtain ⟨z, hd, xs', rel, o, es, ep, ho, hx, hdat, hes, his, hn⟩ := dt_of I.hok ha
  have l1 : kvs.length = xs'.length := Paired.length rel
  have l2 : es.size = xs'.length := size_of_entries hes
  refine listItems (es := es) (ep := ep) (I.ok.hd hc) view ⟨o, ho, hx, hdat⟩ (by rw [sizeLine_eq]; omega) fun h' tk acc c as kp eL hl hG hacc => ?_
  have nd : as.Nodup := hG.rise.imp fun h => Nat.ne_of_lt h
  have I1 : Inv X pins σ H { s with heap := h', toks := tk } := I.kept (t' := tk) kp
  have n0 : H s.heap.objs.size = none := I.hok.fresh (Nat.le_refl _)
  have vr : Vals (as.map V.ref) acc.toList := hacc ▸ vals_refs as
  have I2 : Inv X pins σ (upd H s.heap.objs.size (.lst (as.map V.ref))) { s with heap := h', toks := tk } :=
    I1.take (h' := h') (t' := tk) (fun b ob _ e => e) (I.fpOk (Nat.le_refl _) n0) ⟨by rw [List.length_map, sizeLine_eq]; omega, acc.toList, c, vr, by rw [Array.toArray_toList]; exact eL⟩
  have pr : ∀ (j : Nat) (t : Addr), as[j]? = some t → ∃ (kv : List Key × V) (b : Addr) (u : Value), kvs[j]? = some kv ∧ xs'[j]? = some (kv.1, b, u) ∧ RelV kv.2 u ∧ h'.get? t = some { cls := .type "tuple", data := .seq #[Value.ref b, u] } := by
    intro j t hj
    obtain ⟨en, he, hg⟩ := hG.pairs j t hj
    rw [entry_at hes j] at he
    cases hxj : xs'[j]? with
    | none => rw [hxj] at he; cases he
    | some x =>
      rw [hxj] at he
      have een : entryOfKey (tupleKind (mixKind X.prog X.w)) x = en := Option.some.inj he
      obtain ⟨kv, hkv, r1, r2, r3⟩ := DX.pget rel hxj
      refine ⟨kv, x.2.1, x.2.2, hkv, by rw [r1], r3, ?_⟩
      rw [hg, ← een]
      rfl
  obtain ⟨H2, I3, g, qt⟩ := DX.takeT (P := fun t vs => ∃ (j : Nat) (kv : List Key × V) (b : Addr) (u : Value), as[j]? = some t ∧ kvs[j]? = some kv ∧ xs'[j]? = some (kv.1, b, u) ∧ vs = [.ref b, kv.2]) I as _ I2 nd fun t ht => by
    obtain ⟨j, hj⟩ := List.mem_iff_getElem?.mp ht
    obtain ⟨kv, b, u, h1, h2, h3, h4⟩ := pr j t hj
    have lt := hG.above t ht
    exact ⟨Nat.le_of_lt lt, (upd_ne (Nat.ne_of_gt lt)).trans (I.hok.fresh (Nat.le_of_lt lt)), [.ref b, kv.2], ⟨j, kv, b, u, hj, h1, h2, rfl⟩, fun H3 => ⟨by rw [sizeLine_eq]; show 2 ≤ 16777216; omega, [Value.ref b, u], .cons rfl (.cons h3 .nil), ⟨_, h4, rfl, 0, rfl⟩⟩⟩
  have gr : ∀ b o, H b = some o → H2 b = some o := fun b o e => g b o ((upd_ne (ne_of_none e n0)).trans e)
  refine ⟨.ref s.heap.objs.size, H2, I3, rfl, q H2 _ as (xs'.map fun x => x.2.1) gr n0 (g _ _ upd_same) (isKeys_of rel) (by omega) (by rw [List.length_map]; omega) fun i t b kv ht hb hkv => ?_⟩
  have htm := List.mem_of_getElem? ht
  have lt := hG.above t htm
  refine ⟨I.hok.fresh (Nat.le_of_lt lt), Nat.ne_of_gt lt, ?_⟩
  obtain ⟨vs, ⟨j, kv', b', u, j1, j2, j3, ev⟩, hH⟩ := qt t htm
  have eij : i = j := (List.getElem?_inj (List.getElem?_eq_some_iff.mp ht).1 nd).mp (ht.trans j1.symm)
  subst eij
  rw [List.getElem?_map, j3] at hb
  cases hb
  rw [hkv] at j2
  cases j2
  rw [hH, ev]
end
end R
end
section
set_option Elab.async false
set_option linter.all false
set_option maxRecDepth 100000
set_option maxHeartbeats 4000000
namespace R
open PySem PySem.Spec L2 Evl
theorem DsAll.of_get {F : Hp} : ∀ {vs : List V} {ds : List PyData}, vs.length = ds.length → (∀ (i : Nat) v d, vs[i]? = some v → ds[i]? = some d → Ds F v d) → DsAll F vs ds
  | [], [], _, _ => .nil
  | [], _ :: _, h, _ => by simp at h
  | _ :: _, [], h, _ => by simp at h
  | v :: vs, d :: ds, h, k => .cons (k 0 v d rfl rfl) (DsAll.of_get (by simpa using h) fun i x y h1 h2 => k (i + 1) x y (by simpa using h1) (by simpa using h2))
/-- more of the heap is known to be still -/
def learn (F H : Hp) (S : List Addr) : Hp := fun a => match F a with
  | some o => some o
  | none => if a ∈ S then H a else none
theorem learn_ex {F H : Hp} {S : List Addr} : Ex F (learn F H S) := fun a o h => by unfold learn; rw [h]
theorem learn_at {F H : Hp} {S : List Addr} {a : Addr} {o : HO} (e : Ex F H) (h : H a = some o) (ha : a ∈ S) : learn F H S a = some o := by
  unfold learn
  cases q : F a with
  | some u => rw [e a u q] at h; exact h
  | none => simp [ha, h]
theorem learn_out {F H : Hp} {S : List Addr} {a : Addr} (h : F a = none) (ha : a ∉ S) : learn F H S a = none := by
  unfold learn
  rw [h]; simp [ha]
theorem Grow.learn {q : Option Addr} {F H F2 H2 H' : Hp} (g : Grow q F H F2 H2) (S : List Addr) (e : Ex H2 H') (hS : ∀ a ∈ S, H2 a = none ∨ ∃ xs, H2 a = some (.tup xs)) : Grow q F2 H2 (R.learn F2 H' S) H' := by
  refine ⟨learn_ex, fun a o _ h => e a o h, fun a o h => ⟨o, e a o h⟩, fun a o h => ?_, fun a o h1 h2 hm => ?_, g.a1, fun a ea => ?_⟩
  · unfold R.learn at h
    cases q : F2 a with
    | some u => rw [q] at h; cases h; exact e a o (g.s a o q)
    | none =>
      rw [q] at h
      by_cases ha : a ∈ S
      · simpa [ha] using h
      · simp [ha] at h
  · refine learn_out h1 fun ha => ?_
    rcases hS a ha with h | ⟨xs, h⟩
    · rw [h2] at h; cases h
    · rw [h2] at h; cases h; exact hm
  · obtain ⟨ns, h, r⟩ := g.a1 a ea
    exact ⟨ns, e a _ h, r⟩
theorem Alive.neT {q : Option Addr} {H : Hp} {a : Addr} {kvs : List (List Key × V)} (al : Alive q H) (h : H a = some (.dT kvs)) : q ≠ some a := fun e => by
  obtain ⟨ns, h', _⟩ := al a e
  rw [h] at h'; cases h'
section
variable {q : Option Addr} {X : Cx} {σ : L2.St} {F H F0 H0 : Hp} {a b e : Expr} {kvs : List (List Key × V)} {ps : KD} {d l : Addr} {k : List Key} {dv : PyData} {pos p p2 : Pos} {D : Ends} {x y : Str}
theorem xm_items {apos cpos : Pos} (hc : X.calm = true) (B : Bn X.mg) (ha : XP q X a σ F H (is (.ref d))) (hd : H d = some (.dT kvs)) (hD : DTs F kvs ps) (hl : ps.length ≤ 100000) (hg : Gl X "list" := by rfl)
    (hbase : attributeBase a "items" X.env (eval a X.env) = eval a X.env := by rfl) (hline : (apos.endLine == cpos.line) = true := by rfl)
    (he : starEach [.Call (.Attribute a "items" apos) [] [] cpos] X.env = [(false, eval (.Call (.Attribute a "items" apos) [] [] cpos) X.env)] := by rfl) :
    XM q X (.Call (.Name "list" p) [.Call (.Attribute a "items" apos) [] [] cpos] [] pos) σ F H (ps.map fun x => .tuple [keyD x.1, x.2]) := fun F1 H1 g Q kq => by
  refine wE_of (pe_callTy (cr_listI hc) hg B.list (by decide +kernel) (pa_cons (pe_bm0 PySem.F.plainAttrs_dict PySem.F.slot_dict_items PySem.F.type_dict_items DX.mt_itemsT wE_ok hbase hline) pa_nil he) (he := he)) ?_
  refine ha F1 H1 g _ fun v F2 H2 g2 hv => ?_
  subst hv
  have hd2 : H2 d = some (.dT kvs) := (g.trans g2).h d _ (g.a0.neT hd) hd
  refine ⟨.inr (.inr (.inl ⟨rfl, .inr ⟨kvs, hd2⟩⟩)), d, kvs, rfl, rfl, hd2, fun w hw => ?_⟩
  have hd3 : (upd H2 w (DX.itemsO w d)) d = some (.dT kvs) := (upd_ne (ne_of_none hd2 hw)).trans hd2
  refine ⟨w, d, kvs, rfl, upd_same, hd3, by rw [hD.len]; omega, fun H' l ts bs ex hnl hll hk l1 l2 each => ?_⟩
  have gw : Grow q F2 H2 F2 (upd H2 w (DX.itemsO w d)) := g2.mut hw
  have hkey : ∀ (i : Nat) b kv, bs[i]? = some b → kvs[i]? = some kv → (upd H2 w (DX.itemsO w d)) b = some (.tup (kv.1.map kV)) := by
    clear each l1 l2 hd3 hd2 hd hD
    induction hk with
    | nil => intro i b kv h; simp at h
    | @cons p b ps bs h t ih =>
      intro i b' kv h1 h2
      cases i with
      | zero => simp at h1 h2; subst h1; subst h2; exact h
      | succ i => simp at h1 h2; exact ih i b' kv h1 h2
  have hpart : ∀ (i : Nat) t, ts[i]? = some t → ∃ b kv, bs[i]? = some b ∧ kvs[i]? = some kv := fun i t h => by
    have := (List.getElem?_eq_some_iff.mp h).1
    exact ⟨bs[i], kvs[i], List.getElem?_eq_getElem (by omega), List.getElem?_eq_getElem (by omega)⟩
  have hS : ∀ a ∈ ts ++ bs, (upd H2 w (DX.itemsO w d)) a = none ∨ ∃ xs, (upd H2 w (DX.itemsO w d)) a = some (.tup xs) := fun a ha => by
    rcases List.mem_append.mp ha with ha | ha
    · obtain ⟨i, hi⟩ := List.mem_iff_getElem?.mp ha
      obtain ⟨b, kv, h1, h2⟩ := hpart i a hi
      exact .inl (each i a b kv hi h1 h2).1
    · obtain ⟨i, hi⟩ := List.mem_iff_getElem?.mp ha
      have := (List.getElem?_eq_some_iff.mp hi).1
      exact .inr ⟨_, hkey i a _ hi (List.getElem?_eq_getElem (by omega))⟩
  have gl := gw.learn (ts ++ bs) ex hS
  have hlS : l ∉ ts ++ bs := fun h => by
    rcases List.mem_append.mp h with h | h
    · obtain ⟨i, hi⟩ := List.mem_iff_getElem?.mp h
      obtain ⟨b, kv, h1, h2⟩ := hpart i l hi
      exact (each i l b kv hi h1 h2).2.1 rfl
    · obtain ⟨i, hi⟩ := List.mem_iff_getElem?.mp h
      have := (List.getElem?_eq_some_iff.mp hi).1
      have := hkey i l _ hi (List.getElem?_eq_getElem (by omega))
      rw [hnl] at this; cases this
  have hnl2 : H2 l = none := by
    cases q : H2 l with
    | none => rfl
    | some u => rw [(upd_ne (ne_of_none q hw)).trans q] at hnl; cases hnl
  refine kq l _ _ H' ((g2.trans gw).trans gl) (g2.fresh hnl2) (learn_out (fresh_back g2.s hnl2) hlS) hll ?_
  have hlen := hD.len
  refine DsAll.of_get (by rw [List.length_map, List.length_map]; omega) fun i v dd h1 h2 => ?_
  rw [List.getElem?_map] at h1 h2
  obtain ⟨t, ht, rfl⟩ := Option.map_eq_some_iff.mp h1
  obtain ⟨pp, hp, rfl⟩ := Option.map_eq_some_iff.mp h2
  obtain ⟨b, kv, hb, hkv⟩ := hpart i t ht
  obtain ⟨_, _, htup⟩ := each i t b kv ht hb hkv
  have e1 : kv.1 = pp.1 := by
    have := congrArg (·[i]?) hD.keys
    simp only [List.getElem?_map, hkv, hp, Option.map_some] at this
    exact Option.some.inj this
  have hval : Ds F kv.2 pp.2 := by
    obtain ⟨dd, hdd, h⟩ := hD.vals.get (i := i) (v := kv.2) (by rw [List.getElem?_map, hkv]; rfl)
    rw [List.getElem?_map, hp] at hdd
    cases hdd
    exact h
  have mem1 : t ∈ ts ++ bs := List.mem_append_left _ (List.mem_of_getElem? ht)
  have mem2 : b ∈ ts ++ bs := List.mem_append_right _ (List.mem_of_getElem? hb)
  have eF : Ex F2 H' := fun a o h => ex a o ((upd_ne (ne_of_none (g2.s a o h) hw)).trans (g2.s a o h))
  refine .tup (learn_at eF htup mem1) (.cons ?_ (.cons (hval.mono ((g.f.trans g2.f).trans learn_ex)) .nil))
  exact key_ds (learn_at eF (ex _ _ (e1 ▸ hkey i b kv hb hkv)) mem2)
theorem op_inT (hu : X.A.units + 1 < cLine) : OpR X (compareOp .In) (fun y x H Q => ∃ a o, x = .ref a ∧ DGet H a y o ∧ Q (.bl o.isSome) H) := by
  rintro pins s σ H y x u v Q I ry rx ⟨a, o, rfl, g, kq⟩
  cases rx
  exact d_in hu I g ry fun s' I' => ⟨.bl o.isSome, H, I', rfl, kq⟩
theorem op_niT (hu : X.A.units + 1 < cLine) : OpR X (compareOp .NotIn) (fun y x H Q => ∃ a o, x = .ref a ∧ DGet H a y o ∧ Q (.bl (!o.isSome)) H) := by
  rintro pins s σ H y x u v Q I ry rx ⟨a, o, rfl, g, kq⟩
  cases rx
  exact d_notIn hu I g ry fun s' I' => ⟨.bl (!o.isSome), H, I', rfl, kq⟩
theorem DTs.at {ps : KD} (hD : DTs F kvs ps) {F1 H1 : Hp} {v : V} (s : Ex F1 H1) (hv : Ds F1 v (keyD k)) (hd : H1 d = some (.dT kvs)) : ∃ o, DGet H1 d v o ∧ o.isSome = hasD ps k := by
  obtain ⟨b, rfl, hb⟩ := ds_key hv
  exact ⟨_, DGet.t hd (s _ _ hb), by rw [hD.has, valD_has]⟩
theorem c_inT (hu : X.A.units + 1 < cLine) (ha : XD q X a σ F H (keyD k)) (hb : XP q X b σ F H (is (.ref d))) (hd : H d = some (.dT kvs)) (hD : DTs F kvs ps) (hm : behindInMarks .In b = false := by rfl) : XCm q X .In a b σ F H (hasD ps k) :=
  x_cmp (op_inT hu) mono_dt ha hb (fun x y F1 H1 g hx hy Q kq => by
    subst hy
    obtain ⟨o, ho, e⟩ := hD.at g.s hx (g.h d _ (g.a0.neT hd) hd)
    exact ⟨d, o, rfl, ho, e ▸ kq F1 H1 g.end⟩) hm
theorem c_niT (hu : X.A.units + 1 < cLine) (ha : XD q X a σ F H (keyD k)) (hb : XP q X b σ F H (is (.ref d))) (hd : H d = some (.dT kvs)) (hD : DTs F kvs ps) (hm : behindInMarks .NotIn b = false := by rfl) : XCm q X .NotIn a b σ F H (!hasD ps k) :=
  x_cmp (op_niT hu) mono_dt ha hb (fun x y F1 H1 g hx hy Q kq => by
    subst hy
    obtain ⟨o, ho, e⟩ := hD.at g.s hx (g.h d _ (g.a0.neT hd) hd)
    exact ⟨d, o, rfl, ho, e ▸ kq F1 H1 g.end⟩) hm
theorem xd_dget (hu : X.A.units + 1 < cLine) (ha : XP q X a σ F H (is (.ref d))) (hb : XD q X b σ F H (keyD k)) (hd : H d = some (.dT kvs)) (hD : DTs F kvs ps) (hv : valD ps k = some dv) (hs : NoSl b := by exact fun _ _ => rfl) : XD q X (.Subscript a b pos) σ F H dv := fun F1 H1 g Q kq =>
  wE_of (pe_dget hu wE_ok wE_ok hs) (ha F1 H1 g _ fun v F2 H2 g2 ev => hb F2 H2 (g.trans g2) _ fun y F3 H3 g3 hy => by
    subst ev
    have gg := g.trans (g2.trans g3)
    obtain ⟨b, rfl, hb'⟩ := ds_key hy
    obtain ⟨v, e1, e2⟩ := hD.get hv
    exact ⟨d, v, rfl, e1 ▸ DGet.t (gg.h d _ (g.a0.neT hd) hd) (g3.s _ _ hb'), kq v F3 H3 (g2.trans g3) (e2.mono gg.f)⟩)
theorem xm_d0 : XMT q X (.Dict [] [] pos) σ F H [] := fun F1 H1 g Q kq => wE_of pe_dnewT fun l hl => kq l [] F1 _ (g.mut hl) hl (fresh_back g.s hl) upd_same .nil
theorem s_setMT {i : Nat} {p' : Pos} (hN : X.N.Nodup) (hi : X.N[i]? = some x) (h : XMT q X e σ F H ps) (g0 : Grow q F0 H0 F H) (kn : ∀ l kvs F2 H2, Grow q F H F2 H2 → H l = none → F2 l = none → H2 l = some (.dT kvs) → DTs F2 kvs ps → D.nx (σ.set i (some (.ref l))) H2)
    (hx : Loc X.env.scope x := by first | exact Or.inl rfl | exact Or.inr rfl) (hs : swapsWith e (some (.Name x p')) pos.line X.env = pure false := by rfl) (hf : X.fn x = true ∨ X.env.scope.names.lookup x = some .local := by first | exact .inl rfl | exact .inr rfl) :
    wS X (.Assign [.Name x p'] e pos) D σ H := wS_of (ps_set hN hi hx wE_ok hs hf) (h F H g0.end _ fun l kvs F2 H2 g h1 h2 h3 h4 => kn l kvs F2 H2 g h1 h2 h3 h4)
/-- x[key] = value, a new key -/
theorem s_dput {i : Nat} {p' : Pos} {value : Expr} {T : TyP} (hu : X.A.units + 1 < cLine) (hN : X.N[i]? = some x) (hσ : σ[i]? = some (some (.ref l))) (hf : F l = none) (h0 : H0 l = none) (hH : H l = some (.dT kvs)) (hz : kvs.length < 100000) (mo : Mono T) (hv : XP q X value σ F H T) (hk : XD q X b σ F H (keyD k))
    (hnew : k ∉ kvs.map (·.1)) (g0 : Grow q F0 H0 F H) (kn : ∀ v F2 H2, Grow q F H F2 H2 → Grow q F0 H0 F2 (upd H2 l (.dT (kvs ++ [(k, v)]))) → T v F2 → F2 l = none → D.nx σ (upd H2 l (.dT (kvs ++ [(k, v)]))))
    (hvis : Vis X.env.scope x := by first | exact Or.inl rfl | exact Or.inr (Or.inl rfl) | exact Or.inr (Or.inr rfl)) (hs : swapsWith value (some (.Subscript (.Name x p) b p')) pos.line X.env = pure false := by rfl)
    (hdb : (x == ("__debug__" : Str)) = false := by decide) (hcd : (x == ("__classdict__" : Str)) = false := by decide) : wS X (.Assign [.Subscript (.Name x p) b p'] value pos) D σ H :=
  wS_of (ps_dput hu (pe_var hN hvis hdb hcd) wE_ok wE_ok hs) (hv F H g0.end _ fun v F2 H2 g2 ht => ⟨_, hσ, hk F2 H2 g2 _ fun y F3 H3 g3 hy => by
    obtain ⟨b, rfl, hb⟩ := ds_key hy
    have gg := g2.trans g3
    have hF3 : F3 l = none := gg.nT l _ hf hH
    have hH3 := gg.h l _ (g2.a0.neT hH) hH
    refine ⟨l, _, rfl, DPut.t hH3 (g3.s _ _ hb) (sz_lt hz), ?_⟩
    rw [putK_new v (valV_out hnew)]
    exact kn v F3 H3 gg ((g0.trans gg).put h0 hF3) (mo _ _ _ g3.f ht) hF3⟩)
/-- d.clear() -/
theorem mt_clearT : MtR X "dict.clear" (fun x xs H Q => ∃ a kvs, x = .ref a ∧ xs = [] ∧ H a = some (.dT kvs) ∧ Q .non (upd H a (.dT []))) := by
  rintro pins s σ H x xs v us Q I rx rxs ⟨a, kvs, rfl, rfl, ha, kq⟩
  cases rx
  cases rxs
  obtain ⟨z, hd, xs', rel, o, es, ep, ho, hx, hdat, hes, _⟩ := dt_of I.hok ha
  have hlen := size_of_entries hes
  have hl2 := Paired.length rel
  refine call_meetsIn PySem.F.slot_dict_clear ⟨o, ho, hx.1⟩ PySem.F.entry_dict_clear (PySem.F.args_dict_clear_1 _) (PySem.meets_dict_clear_raw a) ⟨es, ep, ⟨o, ho, hx, hdat⟩, by omega, fun h' raw sb => ?_⟩
  obtain ⟨o', ho', hx', hd'⟩ := raw
  exact ⟨.non, upd H a (.dT []), d_write (ob := .dT []) I (by rw [ha]; trivial) sb ⟨o', ho'⟩ ⟨Nat.zero_le _, hd, [], .nil, o', _, _, ho', hx', hd', rfl, List.nodup_nil⟩, rfl, kq⟩
theorem s_clear {i : Nat} {apos cpos : Pos} (hN : X.N[i]? = some x) (hσ : σ[i]? = some (some (.ref l))) (hf : F l = none) (h0 : H0 l = none) (hH : H l = some (.dT kvs)) (g0 : Grow q F0 H0 F H) (kn : Grow q F0 H0 F (upd H l (.dT [])) → D.nx σ (upd H l (.dT [])))
    (hv : Vis X.env.scope x := by first | exact Or.inl rfl | exact Or.inr (Or.inl rfl) | exact Or.inr (Or.inr rfl))
    (hsw : swapsWith (.Call (.Attribute (.Name x p) "clear" apos) [] [] cpos) none pos.line X.env = pure false := by rfl)
    (hbase : attributeBase (.Name x p) "clear" X.env (eval (.Name x p) X.env) = eval (.Name x p) X.env := by rfl) (hline : (apos.endLine == cpos.line) = true := by rfl)
    (hd : (x == ("__debug__" : Str)) = false := by decide) (hcd : (x == ("__classdict__" : Str)) = false := by decide) :
    wS X (.Expr (.Call (.Attribute (.Name x p) "clear" apos) [] [] cpos) pos) D σ H :=
  wS_of (ps_expr (pe_bm0 PySem.F.plainAttrs_dict PySem.F.slot_dict_clear PySem.F.type_dict_clear mt_clearT (pe_var hN hv hd hcd) hbase hline) hsw)
    ⟨_, hσ, .inr (.inr (.inl ⟨rfl, .inr ⟨_, hH⟩⟩)), l, kvs, rfl, rfl, hH, kn (g0.put h0 hf)⟩
end
end R
end
section
set_option Elab.async false
set_option linter.all false
set_option maxRecDepth 100000
set_option maxHeartbeats 4000000
/-! == of two dicts with the same tuple keys and equal values; the walk follows the library's rule for keys without tuples. -/
namespace R
open PySem PySem.Spec L2 PyProof.Rows Evl
section
variable {prog : Program} {w : World} {K : Type} [DecidableEq K] {knd : HeapKind prog w K} {A : Around} {E : Value → Shared → Prop} {s : Shared}
theorem samePairsH {nm : String} {a b : Addr} {ka kb : List (K × Addr × Value)} {Q : Bool → Shared → Prop} (na : (a == sysModules) = false) (nb : (b == sysModules) = false) (hu : knd.room A)
    (da : s.heap.DictOfH knd a ka) (db : s.heap.DictOfH knd b kb) (hlen : ka.length = kb.length) (hits : ∀ (i : Nat) k x v, ka[i]? = some (k, x, v) → ∃ (j : Nat) (y : Addr) (u : Value), kb[j]? = some (k, y, u) ∧ SeqAt.EqP prog w A s v u true)
    (fin : Q true s) : wpAny (model prog w) A (Builtin.Dict.samePairs nm a b) Q E s := by
  obtain ⟨oa, es, ep, ga, _, ta, la, ia, _⟩ := da
  obtain ⟨ob, es', ep', gb, _, tb, lb, ib, ndb⟩ := db
  have za : es.size = ka.length := size_of_entries la
  have zb : es'.size = kb.length := size_of_entries lb
  unfold Builtin.Dict.samePairs Builtin.Dict.showsAll
  rw [if_neg (by rw [na]; exact Bool.false_ne_true), if_neg (by rw [nb]; exact Bool.false_ne_true)]
  refine wpAny_bind (wpAny_pure (wpAny_bind (wpAny_pure (wpAny_bind (wpAny_dictEntries ga ta ?_)))))
  dsimp only
  refine wpAny_bind (wpAny_dictEntries gb tb ?_)
  rw [if_neg (by rw [za, zb, hlen]; simp)]
  refine wpAny_bind (wpAny_dictEpoch ga ta (wpAny_bind ?_))
  rw [Std.Legacy.Range.forIn_eq_forIn_range']
  simp only [Std.Legacy.Range.size, Nat.sub_zero, Nat.add_sub_cancel, Nat.div_one]
  refine wpAny_forIn_list _ (fun rest p s' => s' = s ∧ p = (none, ()) ∧ ∃ i, rest = List.range' i (es.size - i)) _ ?_ ?_ _ _ ⟨rfl, rfl, 0, by simp⟩
  · rintro x rest p s' ⟨rfl, rfl, i, hr⟩
    have hlt : i < es.size := by
      rcases Nat.lt_or_ge i es.size with h | h
      · exact h
      · rw [Nat.sub_eq_zero_of_le h] at hr; simp at hr
    have hcut : es.size - i = (es.size - (i + 1)) + 1 := by omega
    rw [hcut, List.range'_succ] at hr
    injection hr with hx hrest
    subst hx
    have hk : ka[x]? = some (ka[x]'(by omega)) := List.getElem?_eq_getElem _
    generalize ka[x]'(by omega) = kv at hk
    obtain ⟨k, y, v⟩ := kv
    have hen : es[x]? = some ⟨knd.hash k, .ref y, v⟩ := by rw [entry_at la x, hk]; rfl
    obtain ⟨j, y', u, hj, heq⟩ := hits x k y v hk
    have hen' : es'[j]? = some ⟨knd.hash k, .ref y', u⟩ := by rw [entry_at lb j, hj]; rfl
    refine wpAny_bind (wpAny_dictEntries ga ta ?_)
    rw [hen]
    refine wpAny_bind (wpAny_holding (wpAny_bind (wpAny_dictFind_heap hu (ia _ (List.mem_of_getElem? hk)) gb tb lb ib ndb (fun hno => absurd hj (hno j _)) fun j2 p2 hj2 => ?_)))
    have ejj : j2 = j := by
      have e1 : (kb.map (·.1))[j2]? = some k := by rw [List.getElem?_map, hj2]; rfl
      have e2 : (kb.map (·.1))[j]? = some k := by rw [List.getElem?_map, hj]; rfl
      exact (List.getElem?_inj (List.getElem?_eq_some_iff.mp e1).1 ndb).mp (e1.trans e2.symm)
    subst ejj
    refine wpAny_bind (wpAny_dictEntries gb tb ?_)
    rw [hen']
    refine wpAny_holding (heq _ _ ?_)
    show wpAny _ _ (if (!true) = true then _ else _) _ _ _
    rw [if_neg (by decide)]
    refine wpAny_bind (wpAny_dictEpoch ga ta ?_)
    rw [if_neg (by simp)]
    exact wpAny_pure ⟨rfl, rfl, x + 1, hrest⟩
  · rintro p s' ⟨rfl, rfl, i, hr⟩
    exact wpAny_pure fin
theorem eqDictH {a b : Addr} {ka kb : List (K × Addr × Value)} {Q : Value → Shared → Prop} (na : (a == sysModules) = false) (nb : (b == sysModules) = false) (hu : A.units < cLine) (hr : knd.room A.in1)
    (da : s.heap.DictOfH knd a ka) (db : s.heap.DictOfH knd b kb) (hlen : ka.length = kb.length) (hits : ∀ (i : Nat) k x v, ka[i]? = some (k, x, v) → ∃ (j : Nat) (y : Addr) (u : Value), kb[j]? = some (k, y, u) ∧ SeqAt.EqP prog w A.in1 s v u true)
    (fin : Q (.bool true) s) : wpAny (model prog w) A (compareOp .Eq (.ref a) (.ref b)) Q E s := by
  have ya : s.TypeIs (.ref a) "dict" := by obtain ⟨o, _, _, h1, h2, _⟩ := da; exact ⟨o, h1, h2.1⟩
  have yb : s.TypeIs (.ref b) "dict" := by obtain ⟨o, _, _, h1, h2, _⟩ := db; exact ⟨o, h1, h2.1⟩
  refine wpAny_richCompare_same_room (op := .Eq) ya yb F.slot_dict_eq (wpAny_call_entry F.slot_dict_eq ya F.entry_dict_eq ?_ (F.args_dict_eq_2 _ _)) hu
  refine wpAny_bind (m := Builtin.Dict.dictSlotArgs "__eq__" ⟨[.ref a, .ref b], []⟩) ?_
  unfold Builtin.Dict.dictSlotArgs
  refine wpAny_bind (wpAny_notOrdered_dict ya (wpAny_pure (wpAny_bind (wpAny_isInstance (T := "dict") yb F.sub_dict_dict ?_))))
  rw [if_neg (by decide)]
  refine wpAny_bind (wpAny_pure (wpAny_bind (wpAny_pure (wpAny_bind (samePairsH na nb hr da db hlen hits (wpAny_pure ⟨_, rfl, ?_, fin⟩))))))
  exact fun x => nomatch x
end
section
variable {X : Cx} {q : Option Addr} {σ : L2.St} {F H : Hp} {a b : Expr} {d1 d2 : Addr} {k1 k2 : List (List Key × V)} {ps : KD} {pos : Pos}
/-- two dicts of the same data -/
theorem op_eqT (hu : X.A.units + 80 < cLine) : OpR X (compareOp .Eq) (fun x y H Q => ∃ F a b k1 k2 ps, x = .ref a ∧ y = .ref b ∧ Ex F H ∧ H a = some (.dT k1) ∧ H b = some (.dT k2) ∧ DTs F k1 ps ∧ DTs F k2 ps ∧ (∀ p ∈ ps, SeqAt.shaped p.2 = true) ∧ Q (.bl true) H) := by
  rintro pins s σ H x y v u Q I rx ry ⟨F, a, b, k1, k2, ps, rfl, rfl, ex, ha, hb, h1, h2, hsh, kq⟩
  cases rx
  cases ry
  obtain ⟨_, na, xa, ra, da⟩ := dt_of I.hok ha
  obtain ⟨_, nb, xb, rb, db⟩ := dt_of I.hok hb
  have l1 := Paired.length ra
  have l2 := Paired.length rb
  have l3 := h1.len
  have l4 := h2.len
  refine eqDictH na nb (by omega) (show X.A.units + 1 < cLine by omega) da db (by omega) (fun i k x v hi => ?_) ⟨.bl true, H, I, rfl, kq⟩
  have hia : i < xa.length := (List.getElem?_eq_some_iff.mp hi).1
  obtain ⟨p1, e1, m1, _, r1⟩ := DX.pget ra hi
  have hib : xb[i]? = some (xb[i]'(by omega)) := List.getElem?_eq_getElem _
  generalize xb[i]'(by omega) = z at hib
  obtain ⟨kb, yb, ub⟩ := z
  obtain ⟨p2, e2, m2, _, r2⟩ := DX.pget rb hib
  have hp : ps[i]? = some (ps[i]'(by omega)) := List.getElem?_eq_getElem _
  generalize ps[i]'(by omega) = pp at hp
  have c1 : p1.1 = pp.1 := by
    have := congrArg (·[i]?) h1.keys
    simp only [List.getElem?_map, e1, hp, Option.map_some] at this
    exact Option.some.inj this
  have c2 : p2.1 = pp.1 := by
    have := congrArg (·[i]?) h2.keys
    simp only [List.getElem?_map, e2, hp, Option.map_some] at this
    exact Option.some.inj this
  have v1 : Ds F p1.2 pp.2 := by
    obtain ⟨dd, hdd, h⟩ := h1.vals.get (i := i) (v := p1.2) (by rw [List.getElem?_map, e1]; rfl)
    rw [List.getElem?_map, hp] at hdd
    cases hdd; exact h
  have v2 : Ds F p2.2 pp.2 := by
    obtain ⟨dd, hdd, h⟩ := h2.vals.get (i := i) (v := p2.2) (by rw [List.getElem?_map, e2]; rfl)
    rw [List.getElem?_map, hp] at hdd
    cases hdd; exact h
  have ek : kb = k := by
    have a1 : p1.1 = k := m1
    have a2 : p2.1 = kb := m2
    rw [← a1, ← a2, c1, c2]
  subst ek
  refine ⟨i, yb, ub, hib, ?_⟩
  have sh := hsh pp (List.mem_of_getElem? hp)
  obtain ⟨_, rd1⟩ := Dp.reads I pp.2 p1.2 v ((v1.mono ex).dp) r1
  obtain ⟨_, rd2⟩ := Dp.reads I pp.2 p2.2 ub ((v2.mono ex).dp) r2
  have := PySem.W.keq_at (A := X.A) rd1 rd2 sh sh (show X.A.units + 1 + 64 < cLine by omega)
  have lay : pp.2.canLay0 = true := by
    have := sh
    unfold SeqAt.shaped at this
    rw [Bool.and_eq_true] at this
    exact this.1
  rw [SeqAt.eqv_refl _ lay] at this
  exact SeqAt.EqAt.eqP this
theorem c_eqT (hu : X.A.units + 80 < cLine) (ha : XP q X a σ F H (is (.ref d1))) (hb : XP q X b σ F H (is (.ref d2))) (h1 : H d1 = some (.dT k1)) (h2 : H d2 = some (.dT k2)) (e1 : DTs F k1 ps) (e2 : DTs F k2 ps) (hs : ∀ p ∈ ps, SeqAt.shaped p.2 = true)
    (hm : behindInMarks .Eq b = false := by exact nomark _) : XCm q X .Eq a b σ F H true :=
  x_cmp (op_eqT hu) mono_is ha hb (fun x y F1 H1 g hx hy Q kq => by
    subst hx hy
    exact ⟨F1, d1, d2, k1, k2, ps, rfl, rfl, g.s, g.h _ _ (g.a0.neT h1) h1, g.h _ _ (g.a0.neT h2) h2, e1.mono g.f, e2.mono g.f, hs, kq F1 H1 g.end⟩) hm
end
end R
end
section
set_option Elab.async false
set_option linter.all false
set_option maxRecDepth 100000
set_option maxHeartbeats 4000000
/-! R: instances: attributes, methods, properties, making. -/
namespace R
open PySem L2 Evl
theorem Alive.neI {q : Option Addr} {H : Hp} {a C dx : Addr} {fs : List (Str × V)} (al : Alive q H) (h : H a = some (.ins C dx fs)) : q ≠ some a := fun e => by
  obtain ⟨ns, h', _⟩ := al a e
  rw [h] at h'; cases h'
theorem Grow.nI {q : Option Addr} {F H F' H' : Hp} (g : Grow q F H F' H') (l C dx : Addr) (fs : List (Str × V)) (h1 : F l = none) (h2 : H l = some (.ins C dx fs)) : F' l = none := g.n0 l _ h1 h2 True.intro
/-- a method that may be called -/
def MCal (P : Program) (w : World) (K : PySem.W.Frag) (mg : Str → Option Value) (base : Heap) (C : Addr) (m : Str) (kk : Nat) (ps : List Str) (sp : Sp) : Prop :=
  ∃ f fd, FnOk P w K mg base CX0 kk f fd ps sp ∧ Meth K C m f ∧ Binds K fd ps []
def PCal (P : Program) (w : World) (K : PySem.W.Frag) (mg : Str → Option Value) (base : Heap) (C : Addr) (m : Str) (kk : Nat) (ps : List Str) (sp : Sp) : Prop :=
  ∃ p f fd, FnOk P w K mg base CX0 kk f fd ps sp ∧ PropOf K C m p f ∧ Binds K fd ps []
section
variable {q : Option Addr} {X : Cx} {σ : St} {F H F0 H0 : Hp} {e o a b value : Expr} {es : List Expr} {T : TyP} {pos pos' apos p : Pos} {m f x : Str} {ps : List Str} {kk j : Nat} {l C dx : Addr} {fs : List (Str × V)} {v : V} {D : Ends}
theorem x_fld (c : Cls X.K C) (n : NoAttr X.K C f) (ho : XP q X o σ F H (is (.ref l))) (hi : H l = some (.ins C dx fs)) (hl : fs.lookup f = some v) (hT : T v F) (mo : Mono T) (hb : attributeBase o f X.env (eval o X.env) = eval o X.env := by rfl) : XP q X (.Attribute o f pos) σ F H T := fun F1 H1 g Q k =>
  wE_of (pe_fld wE_ok hb) (ho F1 H1 g _ fun u F2 H2 g2 hu => by
    subst hu
    exact ⟨l, C, dx, fs, v, rfl, (g.trans g2).h l _ (g.a0.neI hi) hi, c, n, hl, k v F2 H2 g2 (mo _ _ _ (g.trans g2).f hT)⟩)
/-- x.f = value -/
theorem s_fld (c : Cls X.K C) (n : NoAttr X.K C f) (ho : ∀ F2 H2, Grow q F H F2 H2 → XP q X o σ F2 H2 (is (.ref l))) (hf : F l = none) (h0 : H0 l = none) (hi : H l = some (.ins C dx fs)) (hz : fs.length < 1000) (mo : Mono T) (hv : XP q X value σ F H T) (g0 : Grow q F0 H0 F H)
    (k : ∀ v F2 H2, Grow q F H F2 H2 → Grow q F0 H0 F2 (upd H2 l (.ins C dx (putF f v fs))) → T v F2 → F2 l = none → D.nx σ (upd H2 l (.ins C dx (putF f v fs))))
    (hs : swapsWith value (some (.Attribute o f pos')) pos.line X.env = pure false := by rfl) : wS X (.Assign [.Attribute o f pos'] value pos) D σ H :=
  wS_of (ps_fld wE_ok wE_ok hs) (hv F H g0.end _ fun v F2 H2 g2 ht => ho F2 H2 g2 F2 H2 g2.end _ fun u F3 H3 g3 hu => by
    subst hu
    have gg := g2.trans g3
    have hF3 := gg.nI l C dx fs hf hi
    exact ⟨l, C, dx, fs, rfl, gg.h l _ (g2.a0.neI hi) hi, c, n, hz, k v F3 H3 gg ((g0.trans gg).put h0 hF3) (mo _ _ _ g3.f ht) hF3⟩)
theorem x_meth {P : List V → Hp → TyP → Prop} {Ts : List TyP} {pl : Sem Bool} (M : MCal X.prog X.w X.K X.mg X.base C m kk ps (spD P)) (c : Cls X.K C) (hr : Room j X.A) (hj : kk ≤ j) (ho : XP q X o σ F H (is (.ref l))) (hi : H l = some (.ins C dx fs)) (hm : fs.lookup m = none)
    (ha : XA q X (e :: es) σ F H Ts) (hs : ∀ vs F1, Ex F F1 → AllT Ts vs F1 → P (.ref l :: vs) F1 T) (hst : starEach (e :: es) X.env = (false, eval e X.env) :: starEach es X.env := by rfl) (hpl : (backTo pos (starEach es X.env)).any (·.1) = false := by rfl)
    (ht : eval (.Call (.Attribute o m apos) (e :: es) [] pos) X.env = (do
      let ov ← eval o X.env
      standAt apos.atName
      let (f, first) ← holding [ov] (getMethod ov m pl)
      callWith pos f first (backTo pos (starEach (e :: es) X.env)) (backToKw pos (keywordEach [] X.env))) := by rfl) : XP q X (.Call (.Attribute o m apos) (e :: es) [] pos) σ F H T := fun F1 H1 g Q k => by
  obtain ⟨f, fd, G, hM, hb⟩ := M
  refine wE_of (pe_meth wE_ok c hM G (hr.mono hj) hb .nil pass0 wA_ok hst hpl ht) (ho F1 H1 g _ fun u F2 H2 g2 hu => ?_)
  subst hu
  refine ⟨l, dx, fs, rfl, (g.trans g2).h l _ (g.a0.neI hi) hi, hm, ha F2 H2 (g.trans g2) _ fun vs F3 H3 g3 hvs => ?_⟩
  rw [List.append_nil]
  exact ⟨F3, T, g3.s, hs vs F3 ((g.trans g2).trans g3).f hvs, fun v F4 H4 g4 hT => k v F4 H4 ((g2.trans g3).trans (g4.weak g3.a1)) hT⟩
theorem x_prop {P : List V → Hp → TyP → Prop} (M : PCal X.prog X.w X.K X.mg X.base C m kk ps (spD P)) (c : Cls X.K C) (hr : Room j X.A) (hj : kk + 1 ≤ j) (ho : XP q X o σ F H (is (.ref l))) (hi : H l = some (.ins C dx fs)) (hs : ∀ F1, Ex F F1 → P [.ref l] F1 T)
    (hab : attributeBase o m X.env (eval o X.env) = eval o X.env := by rfl) : XP q X (.Attribute o m pos) σ F H T := fun F1 H1 g Q k => by
  obtain ⟨p, f, fd, G, hM, hb⟩ := M
  refine wE_of (pe_prop wE_ok c hM G (hr.mono hj) hb .nil pass0 hab) (ho F1 H1 g _ fun u F2 H2 g2 hu => ?_)
  subst hu
  have gg := g.trans g2
  exact ⟨l, dx, fs, rfl, gg.h l _ (g.a0.neI hi) hi, F2, T, g2.s, hs F2 gg.f, fun v F3 H3 g3 hT => k v F3 H3 (g2.trans (g3.weak g2.a1)) hT⟩
/-- a property that makes a new list -/
theorem xm_prop {P : List V → Hp → (List PyData → Prop) → Prop} {ds : List PyData} (M : PCal X.prog X.w X.K X.mg X.base C m kk ps (spD fun vs F T => ∃ ds, T = dt (.list ds) ∧ P vs F (fun d => d = ds))) (c : Cls X.K C) (hr : Room j X.A) (hj : kk + 1 ≤ j) (ho : XP q X o σ F H (is (.ref l))) (hi : H l = some (.ins C dx fs)) (hs : ∀ F1, Ex F F1 → P [.ref l] F1 (fun d => d = ds))
    (hab : attributeBase o m X.env (eval o X.env) = eval o X.env := by rfl) : XD q X (.Attribute o m pos) σ F H (.list ds) := x_prop M c hr hj ho hi (fun F1 e => ⟨ds, rfl, hs F1 e⟩) hab
/-- what a making promises -/
def spMake (C : Addr) (P : List V → Hp → Hp → (Addr → Hp → Prop) → Prop) : Sp := fun vs H Q _ => ∃ F a dx Hx ws T, vs = .ref a :: ws ∧ Hx a = none ∧ H = upd Hx a (.ins C dx []) ∧ Hx dx = some (.own a) ∧ Ex F Hx ∧ P ws F Hx T ∧
  ∀ F2 H2 fs, Grow none F Hx F2 H2 → F2 a = none → H2 a = some (.ins C dx fs) → T a (upd F2 a (.ins C dx fs)) → Q .non H2
theorem x_make {P : List V → Hp → Hp → (Addr → Hp → Prop) → Prop} {W : Addr → Hp → Prop} {Ts : List TyP} (hMk : ∃ f fd, FnOk X.prog X.w X.K X.mg X.base CX0 kk f fd ps (spMake C P) ∧ Mk X.K C f ∧ Binds X.K fd ps []) (hm : X.mg x = some (.ref C)) (hr : Room (j + 1) X.A) (hj : kk ≤ j) (ha : XA q X (e :: es) σ F H Ts)
    (hs : ∀ vs F1 H1, Grow q F H F1 H1 → AllT Ts vs F1 → ∀ Hx, Ex H1 Hx → P vs F1 Hx W) (mR : ∀ a F F', Ex F F' → W a F → W a F') (hg : Gl X x := by rfl) (hdb : (x == ("__debug__" : Str)) = false := by decide) (he : starEach (e :: es) X.env = (false, eval e X.env) :: starEach es X.env := by rfl)
    (hpl : (backTo pos (starEach es X.env)).any (·.1) = false := by rfl) : XP q X (.Call (.Name x p) (e :: es) [] pos) σ F H (fun v F => ∃ a, v = .ref a ∧ W a F) := fun F1 H1 g Q k => by
  obtain ⟨f, fd, G, hM, hb⟩ := hMk
  refine wE_of (pe_make hM G (hr.mono (by omega)) hg hm hb .nil pass0 wA_ok hdb he hpl) (ha F1 H1 g _ fun vs F2 H2 g2 hvs y dx hy hdx hne => ?_)
  rw [List.append_nil]
  have g3 : Grow q F2 H2 F2 (upd H2 dx (.own y)) := g2.mut hdx
  have hyx : (upd H2 dx (.own y)) y = none := (upd_ne (Ne.symm hne)).trans hy
  refine ⟨F2, y, dx, upd H2 dx (.own y), vs, W, rfl, hyx, rfl, upd_same, g3.s, hs vs F2 H2 (g.trans g2) hvs _ (Ex.new hdx), fun F4 H4 fs g4 hF hH hR => ⟨rfl, ?_⟩⟩
  have g5 : Grow q F2 H2 F4 H4 := g3.trans (g4.weak g3.a1)
  exact k (.ref y) (upd F4 y (.ins C dx fs)) H4 (g2.trans (frz g5 hy hF hH)) ⟨y, rfl, hR⟩
end
end R
end
section
set_option Elab.async false
set_option linter.all false
set_option maxRecDepth 100000
set_option maxHeartbeats 4000000
/-! list({name: .. for name in names}): each once, by the first -/
namespace R
open PySem L2 Evl
theorem putK_keys (kvs : List (Key × V)) (s : Str) (v : V) (f : List Str) (h : kvs.map (·.1) = f.map Sum.inr) : (putK kvs (.inr s) v).map (·.1) = (addS f s).map Sum.inr := by
  have hany : (kvs.any fun kv => decide (kv.1 = Sum.inr s)) = decide (s ∈ f) := by
    have : (kvs.any fun kv => decide (kv.1 = Sum.inr s)) = ((kvs.map (·.1)).any fun k => decide (k = Sum.inr s)) := by rw [List.any_map]; rfl
    rw [this, h, List.any_map, Bool.eq_iff_iff, List.any_eq_true]
    simp only [Function.comp, decide_eq_true_eq]
    constructor
    · rintro ⟨x, hx, e⟩
      cases e; exact hx
    · intro hs
      exact ⟨s, hs, rfl⟩
  unfold putK addS
  rw [hany]
  by_cases hs : s ∈ f
  · rw [decide_eq_true hs, if_pos rfl, if_pos hs, List.append_nil, List.map_map, ← h]
    refine List.map_congr_left fun kv _ => ?_
    show (if kv.1 = Sum.inr s then (kv.1, v) else kv).1 = kv.1
    split <;> rfl
  · rw [decide_eq_false hs, if_neg (by decide), if_neg hs, List.map_append, h, List.map_append]; rfl
section
variable {q : Option Addr} {X : Cx} {σ : L2.St} {F H F0 H0 : Hp} {kx vx tg iter : Expr} {scope : Scope} {own : List (Str × Nat)} {gx : TG} {asg : L2.St → List V → L2.St} {ss : List Str} {pos p p2 : Pos}
theorem xm_once {T : TyP} (B : Bn X.mg) (L : LcOk X tg scope own iter gx) (hi : XI q X tg iter σ F H (ss.map .str)) (hT : ∀ s : Str, Tgt gx asg (.str s) [.str s]) (hl : ss.length ≤ 1000) (hw : ∀ vs, wipe (asg (wipe σ (own.map (·.2))) vs) (own.map (·.2)) = wipe σ (own.map (·.2)))
    (hk : ∀ (s : Str) vs F1 H1, Grow q F H F1 H1 → DsAll F1 vs [.str s] → InB X scope fun Y => XD q Y kx (asg (wipe σ (own.map (·.2))) vs) F1 H1 (.str s))
    (he : ∀ (s : Str) vs F1 H1, Grow q F H F1 H1 → DsAll F1 vs [.str s] → InB X scope fun Y => XP q Y vx (asg (wipe σ (own.map (·.2))) vs) F1 H1 T)
    (hg : Gl X "list" := by rfl) (hst : starEach [.DictComp kx vx [⟨tg, iter, [], 0⟩] scope p2] X.env = [(false, eval (.DictComp kx vx [⟨tg, iter, [], 0⟩] scope p2) X.env)] := by rfl) :
    XM q X (.Call (.Name "list" p) [.DictComp kx vx [⟨tg, iter, [], 0⟩] scope p2] [] pos) σ F H ((diff ss).map .str) := fun F1 H1 g Q kq => by
  refine wE_of (pe_callTy (call_list_dK L.calm) hg B.list (by decide +kernel) (pa_cons (pe_dc (tk := uE X scope kx) (tv := uE X scope vx) (tt := tYes) L.calm L.nd wI_ok L.ok L.tg (fun s H C cl fp => pts_nil) (fun s H C cl fp => ⟨fun pins s' σ' H' Q I h => (h s H C cl fp).run pins s' I⟩) (fun s H C cl fp => ⟨fun pins s' σ' H' Q I h => (h s H C cl fp).run pins s' I⟩) L.hs) pa_nil hst) (he := hst)) ?_
  refine hi F1 H1 g _ fun J F2 H2 g2 w D hD => ?_
  let Pv : Nat → Hp → Prop := fun i H' => ∃ F' kvs, Grow q F2 H2 F' H' ∧ F' D = none ∧ H' D = some (.dK kvs) ∧ kvs.map (·.1) = (diff (ss.take i)).map Sum.inr
  refine ⟨fun i m H => m = ss.length - i ∧ i ≤ ss.length ∧ Pv i H, ⟨ss.length, by simp, Nat.zero_le _, F2, [], g2.mut hD, fresh_back g2.s hD, upd_same, rfl⟩, ?_⟩
  rintro i m H ⟨rfl, hi', F', kvs, gw, hFD, hHD, hks⟩
  by_cases hlt : i < ss.length
  · refine .inr ⟨w.goes i H (by rw [List.length_map]; exact hlt) (gw.f.trans gw.s), Pv (i + 1), fun H' p' => ⟨ss.length - (i + 1), by omega, rfl, hlt, p'⟩, fun x H' y => ?_⟩
    obtain ⟨F'', d, g3, hd, hx⟩ := w.yields i H x H' F' (by rw [List.length_map]; exact hlt) gw.f gw.s y
    rw [List.getElem?_map] at hd
    obtain ⟨s, hs, rfl⟩ := Option.map_eq_some_iff.mp hd
    have hqD : q ≠ some D := g2.a1.ne hD
    have g4 := gw.trans (g3.weak gw.a1)
    have hF''D : F'' D = none := g3.nK D _ hFD hHD
    have hH'D := g3.h D _ (by simp) hHD
    refine hT s F'' H' x _ _ g4.s hx fun vs hvs => ⟨hw vs, ?_⟩
    simp only [tYes, if_true]
    refine fun s0 H0 C cl fp => hk s vs F'' H' (g.trans (g2.trans g4)) hvs s0 H0 C cl fp F'' H' g4.end _ fun v F3 H3 g5 hv s1 H1' C1 cl1 fp1 => he s vs F'' H' (g.trans (g2.trans g4)) hvs s1 H1' C1 cl1 fp1 F3 H3 g5 _ fun z F4 H4 g6 _ => ?_
    have ev : v = kV (.inr s) := ds_str hv
    have hF4D : F4 D = none := g6.nK D _ (g5.nK D _ hF''D hH'D) (g5.h D _ hqD hH'D)
    have hH4D := g6.h D _ hqD (g5.h D _ hqD hH'D)
    have gg := (g4.trans g5).trans g6
    have hlen : kvs.length ≤ i := by
      have e := congrArg List.length hks
      rw [List.length_map, List.length_map] at e
      rw [e]
      refine Nat.le_trans (diff_len _ []) ?_
      rw [List.length_take]
      simp only [List.length_nil]; omega
    refine ⟨kvs, .inr s, ev, hH4D, sz_lt (by omega), F4, _, gg.put hD hF4D, hF4D, upd_same, ?_⟩
    rw [putK_keys kvs s z _ hks]
    unfold diff
    rw [foldl_take addS [] hs]
  · have e : i = ss.length := by omega
    subst e
    rw [List.take_length] at hks
    refine .inl ⟨w.stops H (gw.f.trans gw.s) |> fun h => by rw [List.length_map] at h; exact h, D, kvs, rfl, hHD, fun l hl' => ?_⟩
    have gl := gw.mut (o := .lst (kvs.map fun kv => kV kv.1)) hl'
    refine kq l _ F' _ ((g2.trans gw).trans gl) (g2.fresh (gw.fresh hl')) (fresh_back gw.s hl') upd_same ?_
    have : (kvs.map fun kv => kV kv.1) = (diff ss).map V.str := by
      have := congrArg (List.map kV) hks
      rw [List.map_map, List.map_map] at this
      exact this
    rw [this]
    exact DsAll.of_strs _
end
end R
end
section
set_option Elab.async false
set_option linter.all false
set_option maxRecDepth 100000
set_option maxHeartbeats 4000000
namespace R
open PySem L2 Evl
section
variable {q : Option Addr} {X : Cx} {σ : St} {F H : Hp} {a b e : Expr} {l : Addr} {kvs : List (List Key × V)} {ps : KD} {pos p : Pos} {x : Str} {v : V}
/-- isinstance(d, dict) -/
theorem xd_isiT {r : Bool} {T : String} (B : Bn X.mg) (ha : XP q X a σ F H (is (.ref l))) (hH : H l = some (.dT kvs)) (hk : kitB "dict" T = some r) (hb : PE X b (tC (.ty T))) (hg : Gl X "isinstance" := by rfl)
    (he : starEach [a, b] X.env = (false, eval a X.env) :: starEach [b] X.env := by rfl) (he2 : starEach [b] X.env = [(false, eval b X.env)] := by rfl) (hpl : (backTo pos (starEach [b] X.env)).any (·.1) = false := by rfl) : XD q X (.Call (.Name "isinstance" p) [a, b] [] pos) σ F H (.bool r) :=
  x_callB call_isi B.isinstance (by decide +kernel) (xa_cons mono_is ha (xa_cons mono_is (x_c (T := is (.ty T)) hb fun _ => rfl) xa_nil he2) he) (fun vs F1 H1 g h Q k => by
    obtain ⟨v, w, rfl, rfl, rfl⟩ := h.two
    exact ⟨.ref l, .ty T, _, _, r, rfl, .ty T, .base (.dT (g.h l _ (g.a0.neT hH) hH)), kit_ty hk, k _ F1 H1 g.end (.bl r)⟩) hg (he := he) (hpl := hpl)
/-- a dict that doesn't change any more -/
def tT (ps : KD) : TyP := fun v F => ∃ a kvs, v = .ref a ∧ F a = some (.dT kvs) ∧ DTs F kvs ps
theorem mono_tT {ps : KD} : Mono (tT ps) := fun v F F' e ⟨a, kvs, h1, h2, h3⟩ => ⟨a, kvs, h1, e _ _ h2, h3.mono e⟩
theorem frzT {F1 H1 F2 H2 : Hp} (g2 : Grow q F1 H1 F2 H2) (h1 : H1 l = none) (hf : F2 l = none) (h2 : H2 l = some (.dT kvs)) (hd : DTs F2 kvs ps) : Grow q F1 H1 (upd F2 l (.dT kvs)) H2 ∧ tT ps (.ref l) (upd F2 l (.dT kvs)) :=
  ⟨frz g2 h1 hf h2, l, kvs, rfl, upd_same, hd.mono (Ex.new hf)⟩
theorem XMT.xp (h : XMT q X e σ F H ps) : XP q X e σ F H (tT ps) := fun F1 H1 g Q k => h F1 H1 g Q fun l kvs F2 H2 g2 h1 hf h2 hd => by
  obtain ⟨g3, ht⟩ := frzT g2 h1 hf h2 hd
  exact k _ _ _ g3 ht
theorem xvi (i : Nat) (hN : X.N[i]? = some x := by rfl) (hs : σ[i]? = some (some v) := by rfl) (hv : Vis X.env.scope x := by first | exact Or.inl rfl | exact Or.inr (Or.inl rfl) | exact Or.inr (Or.inr rfl))
    (hd : (x == ("__debug__" : Str)) = false := by decide) (hcd : (x == ("__classdict__" : Str)) = false := by decide) : XP q X (.Name x pos) σ F H (is v) := x_var hN hs rfl mono_is hv hd hcd
end
end R
open PySem L2 in
theorem _root_.L2.Room.u1 {k : Nat} {A : Around} (r : Room k A) : A.units + 1 < cLine := by have := r.un; omega
open PySem L2 in
theorem _root_.L2.Room.u80 {k : Nat} {A : Around} (r : Room k A) : A.units + 80 < cLine := by have := r.un; omega
namespace K01
open PySem L2 Evl R
abbrev tWld : Stmt := top 23
def Row.kk (r : Row) : List Key := [.inr r.sv, .inr r.se]
theorem kk_d (r : Row) : keyD r.kk = pairD r.key := rfl
def usesD (rs : List Row) : PyData := .list (rs.map fun r => pairD r.key)
def chansD (rs : List Row) : KD := rs.map fun r => (r.kk, .tuple (r.ch.map .str))
def costsD (rs : List Row) : KD := rs.map fun r => (r.kk, .int r.co)
def linesD (rs : List Row) : KD := rs.map fun r => (r.kk, valD r)
def services (rs : List Row) : List Str := diff (rs.map (·.sv))
def secretsD (rs : List Row) : List Str := diff (rs.map (·.se))
theorem kk_nd {rs : List Row} (h : (rs.map Row.key).Nodup) : (rs.map Row.kk).Nodup := by
  have : rs.map Row.kk = (rs.map Row.key).map fun p => [.inr p.1, .inr p.2] := by rw [List.map_map]; rfl
  rw [this]
  refine List.pairwise_map.mpr (h.imp fun {a b} hne e => hne ?_)
  obtain ⟨a1, a2⟩ := a
  obtain ⟨b1, b2⟩ := b
  injection e with e1 e2
  injection e2 with e2 _
  injection e1 with e1
  injection e2 with e2
  exact Prod.ext e1 e2
/-- an instance of World -/
def flds (u c p s t : V) : List (Str × V) := [("_uses", u), ("_channels", c), ("_costs", p), ("_services", s), ("_secrets", t)]
def WorldAt (C : Addr) (rs : List Row) (a : Addr) (F : Hp) : Prop := ∃ (dx : Addr) (u c p s t : V), F a = some (.ins C dx (flds u c p s t)) ∧ Ds F u (usesD rs) ∧ tT (chansD rs) c F ∧ tT (costsD rs) p F ∧ Ds F s (strsD (services rs)) ∧ Ds F t (strsD (secretsD rs))
theorem WorldAt.mono {C : Addr} {rs : List Row} {a : Addr} {F F' : Hp} (e : Ex F F') : WorldAt C rs a F → WorldAt C rs a F' := fun ⟨dx, u, c, p, s, t, h1, h2, h3, h4, h5, h6⟩ =>
  ⟨dx, u, c, p, s, t, e _ _ h1, h2.mono e, mono_tT _ _ _ e h3, mono_tT _ _ _ e h4, h5.mono e, h6.mono e⟩
/-- the class World in the text's heap -/
structure WC (K : PySem.W.Frag) (C : Addr) : Prop where
  cls : Cls K C
  n1 : NoAttr K C "_uses"
  n2 : NoAttr K C "_channels"
  n3 : NoAttr K C "_costs"
  n4 : NoAttr K C "_services"
  n5 : NoAttr K C "_secrets"
section
variable {P : Program} {w : World} {K : PySem.W.Frag} {mg : Str → Option Value} {base : Heap} {C : Addr}
/-! _once_each -/
abbrev sOn : Stmt := top 22
abbrev nOn : List Str := ["names", "name"]
theorem scOn : FnScope nOn ["names"] (defScope sOn) := ⟨rfl, rfl, rfl, by decide +kernel, rfl, by decide +kernel, by decide +kernel⟩
def pOn : List V → Hp → TyP → Prop := fun vs F T => ∃ (v : V) (ss : List Str), vs = [v] ∧ Ds F v (strsD ss) ∧ ss.length ≤ 1000 ∧ T = dt (strsD (diff ss))
theorem ok_on (B : Bn mg) {f : Addr} {fd : FuncData} (Fn : Fun K "_once_each" "_once_each" sOn f fd) : FnOk P w K mg base CX0 1 f fd ["names"] (spD pOn) := by
  refine Fn.ok scOn (fun vs H Q E h => ?_) (fun cdv A outer s H vs Q E hr h => ⟨_, wSs_ok, ?_⟩)
  · obtain ⟨F, T, _, ⟨v, ss, rfl, _⟩, _⟩ := h
    rfl
  obtain ⟨F, T, s0, ⟨v, ss, rfl, hv, hl, rfl⟩, kq⟩ := h
  have g0 := Grow.start s0
  refine ss_cons (s_ret (XM.xd (xm_once (T := dt (.bool true)) (own := [("name", 1)]) (gx := gName 1) (asg := fun σ vs => σ.set 1 vs.head?) B ⟨rfl, scOn.nd, blkOk_by (N := nOn) (sc := defScope sOn) (by decide +kernel), fun _ _ _ _ _ => pg_name (i := 1) scOn.nd rfl (.inl rfl), fun _ => rfl⟩ (xi_lst (xv 0 hv)) (fun s => tgt_name) hl (fun _ => rfl) (fun s vs F1 H1 g1 hvs => ?_) (fun s vs F1 H1 g1 hvs => ?_))) g0 kq)
  · intro s' H0' C' cl fp
    obtain ⟨y, rfl, hy⟩ := hvs.one
    exact xv 1 hy
  · intro s' H0' C' cl fp
    exact xd_bl
/-! World.__init__ -/
abbrev sIn : Stmt := inClass tWld 0
abbrev nIn : List Str := ["self", "uses", "rows", "use", "value"]
theorem scIn : FnScope nIn ["self", "uses"] (defScope sIn) := ⟨rfl, rfl, rfl, by decide +kernel, rfl, by decide +kernel, by decide +kernel⟩
/-- what World(..) promises -/
def pMk (C : Addr) : List V → Hp → Hp → (Addr → Hp → Prop) → Prop := fun ws F Hx T => ∃ (l : Addr) (kvs : List (List Key × V)) (rs : List Row), ws = [.ref l] ∧ Hx l = some (.dT kvs) ∧ DTs F kvs (linesD rs) ∧ WorldOk rs ∧ T = WorldAt C rs
def fl1 (u : V) : List (Str × V) := [("_uses", u)]
def fl2 (u c : V) : List (Str × V) := [("_uses", u), ("_channels", c)]
def fl3 (u c p : V) : List (Str × V) := [("_uses", u), ("_channels", c), ("_costs", p)]
def fl4 (u c p s : V) : List (Str × V) := [("_uses", u), ("_channels", c), ("_costs", p), ("_services", s)]
theorem d12 : ¬ ("_uses" : Str) = "_channels" := by decide +kernel
theorem d13 : ¬ ("_uses" : Str) = "_costs" := by decide +kernel
theorem d14 : ¬ ("_uses" : Str) = "_services" := by decide +kernel
theorem d15 : ¬ ("_uses" : Str) = "_secrets" := by decide +kernel
theorem d23 : ¬ ("_channels" : Str) = "_costs" := by decide +kernel
theorem d24 : ¬ ("_channels" : Str) = "_services" := by decide +kernel
theorem d25 : ¬ ("_channels" : Str) = "_secrets" := by decide +kernel
theorem d34 : ¬ ("_costs" : Str) = "_services" := by decide +kernel
theorem d35 : ¬ ("_costs" : Str) = "_secrets" := by decide +kernel
theorem d45 : ¬ ("_services" : Str) = "_secrets" := by decide +kernel
theorem put2 (u c : V) : putF "_channels" c (fl1 u) = fl2 u c := by simp only [fl1, fl2, putF, if_neg d12]
theorem put3 (u c p : V) : putF "_costs" p (fl2 u c) = fl3 u c p := by simp only [fl3, fl2, putF, if_neg d13, if_neg d23]
theorem put4 (u c p s : V) : putF "_services" s (fl3 u c p) = fl4 u c p s := by simp only [fl3, fl4, putF, if_neg d14, if_neg d24, if_neg d34]
theorem put5 (u c p s t : V) : putF "_secrets" t (fl4 u c p s) = flds u c p s t := by simp only [flds, fl4, putF, if_neg d15, if_neg d25, if_neg d35, if_neg d45]
theorem look1 (u c p : V) : (fl3 u c p).lookup ("_uses" : Str) = some u := by simp [fl3, List.lookup]
theorem look2 (u c p s : V) : (fl4 u c p s).lookup ("_uses" : Str) = some u := by simp [fl4, List.lookup]
theorem ok_in (W : WC K C) (CK : Cal P w K mg base "_check_rows" 4 ["rows"] (spD pCk)) (CO : Cal P w K mg base "_once_each" 1 ["names"] (spD pOn)) (B : Bn mg) {f : Addr} {fd : FuncData} (Fn : Fun K "__init__" "World.__init__" sIn f fd) : FnOk P w K mg base CX0 5 f fd ["self", "uses"] (spMake C (pMk C)) := by
  refine Fn.ok scIn (fun vs H Q E h => ?_) (fun cdv A outer s H vs Q E hr h => ⟨_, wSs_ok, ?_⟩)
  · obtain ⟨F, a, dx, Hx, ws, T, rfl, _, _, _, _, ⟨l, _, _, rfl, _⟩, _⟩ := h
    rfl
  obtain ⟨F, a, dx, Hx, ws, T, rfl, hxa, rfl, hdx, ex, ⟨l, kvs, rs, rfl, hl, hD, hW, rfl⟩, kq⟩ := h
  have hla : l ≠ a := ne_of_none hl hxa
  have sx : Ex F (upd Hx a (.ins C dx [])) := ex.trans (Ex.new hxa)
  have hFa : F a = none := fresh_back ex hxa
  have g0 : Grow none F Hx F (upd Hx a (.ins C dx [])) := (Grow.start ex).mut hxa
  have hl' : (upd Hx a (.ins C dx [])) l = some (.dT kvs) := (upd_ne hla).trans hl
  have hlen := hW.len
  refine ss_cons (s_skip (xt_not (u := true) (xt_val (xd_isiT (r := true) (T := "dict") B (xvi 1) hl' (by decide +kernel) (pe_tyN B.dict (by decide +kernel))))) g0 fun F1 H1 g1 => ?_)
  have gg1 := g0.trans g1
  have hl1 := g1.h l _ (by simp) hl'
  refine ss_cons (s_setM (i := 2) scIn.nd rfl (xm_items rfl B (xvi 1) hl1 (hD.mono g1.f) (by simp [linesD]; omega)) gg1 fun rw rvs F2 H2 g2 hno hF2 hH2 hds => ?_)
  have hds' : DsAll F2 rvs (rs.map itemD) := by
    have e : (linesD rs).map (fun x => PyData.tuple [keyD x.1, x.2]) = rs.map itemD := by
      rw [linesD, List.map_map]; rfl
    rw [e] at hds; exact hds
  obtain ⟨g2', hrd⟩ := g2.freeze hno hF2 hH2 hds'
  generalize hF2' : upd F2 rw (.lst rvs) = F2' at g2' hrd
  have gg2 := gg1.trans g2'
  have ha1 := g1.h a _ (by simp) (upd_same (H := Hx) (a := a) (o := .ins C dx []))
  have ha2 := g2'.h a _ (by simp) ha1
  refine ss_cons (s_expr (T := dt .none) (xc CK hr (by decide) (xa_cons mono_dt (xv 2 hrd) xa_nil) ?_) gg2 fun v F3 H3 g3 hv => ?_)
  · rintro vs F3 e ht
    obtain ⟨v1, rfl, h3⟩ := ht.one
    exact ⟨v1, rs, rfl, h3, hW, rfl⟩
  have gg3 := gg2.trans g3
  have ha3 := g3.h a _ (by simp) ha2
  have hFa3 := gg3.nI a C dx [] hFa |> fun _ => (g1.trans (g2'.trans g3)).nI a C dx [] hFa upd_same
  refine ss_cons (s_fld (T := dt (usesD rs)) W.cls W.n1 (fun _ _ _ => xvi 0) hFa3 hxa ha3 (by decide) mono_dt (XD.eq (XM.xd (xm_lc (own := [("use", 3), ("value", 4)]) (gx := gTup K 2 (gCons (gName 3) (gCons (gName 4) gNil))) (asg := fun σ vs => (σ.set 3 vs[0]?).set 4 vs[1]?) (esf := fun d => match d with | .tuple es => es | _ => []) (ds := rs.map itemD) (gm := fun d => pairD (dItem d).key)
    ⟨rfl, scIn.nd, blkOk_by (N := nIn) (sc := defScope sIn) (by decide +kernel), fun _ _ _ _ _ => pg_tup rfl (pgs_cons (pg_name (i := 3) scIn.nd rfl (.inl rfl)) (pgs_cons (pg_name (i := 4) scIn.nd rfl (.inl rfl)) pgs_nil)), fun _ => rfl⟩ (xi_lst (xv 2 (hrd.mono g3.f))) (fun d hd => ?_) (by rw [List.length_map]; omega) (fun _ => rfl) (fun d vs F4 H4 hd g4 hvs => ?_))) ?_) gg3 fun u F4 H4 g4 gg4 hu hFa4 => ?_)
  · obtain ⟨r, _, rfl⟩ := List.mem_map.mp hd
    exact tgt_tup2
  · intro s' H0' C' cl fp
    obtain ⟨r, _, rfl⟩ := List.mem_map.mp hd
    rw [dItem_d]
    obtain ⟨x, y, rfl, hx, hy⟩ := hvs.two
    exact xd_tupleT (ds := [.str r.sv, .str r.se]) B (xv 3 hx)
  · rw [List.map_map]
    show PyData.list (rs.map fun r => pairD (dItem (itemD r)).key) = usesD rs
    simp only [dItem_d]; rfl
  have hr4 := hrd.mono (g3.f.trans g4.f)
  have tgt : ∀ d ∈ rs.map itemD, Tgt (gTup K 2 (gCons (gName 3) (gCons (gName 4) gNil))) (fun σ vs => (σ.set 3 vs[0]?).set 4 vs[1]?) d (match d with | .tuple es => es | _ => []) := fun d hd => by
    obtain ⟨r, _, rfl⟩ := List.mem_map.mp hd
    exact tgt_tup2
  have knd : ((rs.map itemD).map fun d => (dItem d).kk).Nodup := by
    rw [List.map_map]
    have : (fun d => (dItem d).kk) ∘ itemD = Row.kk := by funext r; simp only [Function.comp, dItem_d]
    rw [this]; exact kk_nd hW.nd
  refine ss_cons (s_fld (T := tT (chansD rs)) W.cls W.n2 (fun _ _ _ => xvi 0) hFa4 hxa (upd_same (o := .ins C dx (fl1 u))) (by simp [fl1]) mono_tT (XMT.xp (XMT.eq (xm_dt (kf := fun d => (dItem d).kk) (vf := fun d => .tuple ((dItem d).ch.map .str)) (own := [("use", 3), ("value", 4)]) (gx := gTup K 2 (gCons (gName 3) (gCons (gName 4) gNil))) (asg := fun σ vs => (σ.set 3 vs[0]?).set 4 vs[1]?) (esf := fun d => match d with | .tuple es => es | _ => []) (ds := rs.map itemD) hr.u1
    ⟨rfl, scIn.nd, blkOk_by (N := nIn) (sc := defScope sIn) (by decide +kernel), fun _ _ _ _ _ => pg_tup rfl (pgs_cons (pg_name (i := 3) scIn.nd rfl (.inl rfl)) (pgs_cons (pg_name (i := 4) scIn.nd rfl (.inl rfl)) pgs_nil)), fun _ => rfl⟩ (xi_lst (xv 2 hr4)) tgt (by rw [List.length_map]; omega) knd (fun _ => rfl) (fun d vs F5 H5 hd g5 hvs => ?_) (fun d vs F5 H5 hd g5 hvs => ?_)) ?_)) gg4 fun c F5 H5 g5 gg5 hc hFa5 => ?_)
  · intro s' H0' C' cl fp
    obtain ⟨r, _, rfl⟩ := List.mem_map.mp hd
    rw [dItem_d]
    obtain ⟨x, y, rfl, hx, hy⟩ := hvs.two
    exact xd_tupleT (ds := [.str r.sv, .str r.se]) B (xv 3 hx)
  · intro s' H0' C' cl fp
    obtain ⟨r, _, rfl⟩ := List.mem_map.mp hd
    rw [dItem_d]
    obtain ⟨x, y, rfl, hx, hy⟩ := hvs.two
    exact xd_tupleT (ds := r.ch.map .str) B (xd_ixT (ds := [.tuple (r.ch.map .str), .int r.co]) (xv 4 hy) xd_int rfl)
  · rw [List.map_map]
    show (rs.map fun r => ((dItem (itemD r)).kk, PyData.tuple ((dItem (itemD r)).ch.map .str))) = chansD rs
    simp only [dItem_d]; rfl
  have hr5 := hr4.mono g5.f
  rw [show putF "_channels" c (fl1 u) = fl2 u c from put2 u c] at gg5 ⊢
  refine ss_cons (s_fld (T := tT (costsD rs)) W.cls W.n3 (fun _ _ _ => xvi 0) hFa5 hxa (upd_same (o := .ins C dx (fl2 u c))) (by simp [fl2]) mono_tT (XMT.xp (XMT.eq (xm_dt (kf := fun d => (dItem d).kk) (vf := fun d => .int (dItem d).co) (own := [("use", 3), ("value", 4)]) (gx := gTup K 2 (gCons (gName 3) (gCons (gName 4) gNil))) (asg := fun σ vs => (σ.set 3 vs[0]?).set 4 vs[1]?) (esf := fun d => match d with | .tuple es => es | _ => []) (ds := rs.map itemD) hr.u1
    ⟨rfl, scIn.nd, blkOk_by (N := nIn) (sc := defScope sIn) (by decide +kernel), fun _ _ _ _ _ => pg_tup rfl (pgs_cons (pg_name (i := 3) scIn.nd rfl (.inl rfl)) (pgs_cons (pg_name (i := 4) scIn.nd rfl (.inl rfl)) pgs_nil)), fun _ => rfl⟩ (xi_lst (xv 2 hr5)) tgt (by rw [List.length_map]; omega) knd (fun _ => rfl) (fun d vs F6 H6 hd g6 hvs => ?_) (fun d vs F6 H6 hd g6 hvs => ?_)) ?_)) gg5 fun p F6 H6 g6 gg6 hp hFa6 => ?_)
  · intro s' H0' C' cl fp
    obtain ⟨r, _, rfl⟩ := List.mem_map.mp hd
    rw [dItem_d]
    obtain ⟨x, y, rfl, hx, hy⟩ := hvs.two
    exact xd_tupleT (ds := [.str r.sv, .str r.se]) B (xv 3 hx)
  · intro s' H0' C' cl fp
    obtain ⟨r, _, rfl⟩ := List.mem_map.mp hd
    rw [dItem_d]
    obtain ⟨x, y, rfl, hx, hy⟩ := hvs.two
    exact xd_ixT (ds := [.tuple (r.ch.map .str), .int r.co]) (xv 4 hy) xd_int rfl
  · rw [List.map_map]
    show (rs.map fun r => ((dItem (itemD r)).kk, PyData.int (dItem (itemD r)).co)) = costsD rs
    simp only [dItem_d]; rfl
  rw [show putF "_costs" p (fl2 u c) = fl3 u c p from put3 u c p] at gg6 ⊢
  have hu6 : Ds F6 u (usesD rs) := Ds.mono (g5.f.trans g6.f) hu
  refine ss_cons (s_fld (T := dt (strsD (services rs))) W.cls W.n4 (fun _ _ _ => xvi 0) hFa6 hxa (upd_same (o := .ins C dx (fl3 u c p))) (by simp [fl3]) mono_dt (xc CO hr (by decide) (xa_cons mono_dt (XD.eq (XM.xd (xm_lc (own := [("use", 3)]) (gx := gName 3) (asg := fun σ vs => σ.set 3 vs.head?) (esf := fun d => [d]) (ds := rs.map fun r => pairD r.key) (gm := fun d => .str (dfst d))
    ⟨rfl, scIn.nd, blkOk_by (N := nIn) (sc := defScope sIn) (by decide +kernel), fun _ _ _ _ _ => pg_name (i := 3) scIn.nd rfl (.inl rfl), fun _ => rfl⟩ (xi_lst (x_fld (T := dt (usesD rs)) W.cls W.n1 (xvi 0) upd_same (look1 u c p) hu6 mono_dt)) (fun d _ => tgt_name) (by rw [List.length_map]; omega) (fun _ => rfl) (fun d vs F7 H7 hd g7 hvs => ?_))) (show PyData.list _ = strsD (rs.map (·.sv)) from ?_)) xa_nil) ?_) gg6 fun sv F7 H7 g7 gg7 hsv hFa7 => ?_)
  · intro s' H0' C' cl fp
    obtain ⟨r, _, rfl⟩ := List.mem_map.mp hd
    obtain ⟨x, rfl, hx⟩ := hvs.one
    exact xd_ixT (ds := [.str r.sv, .str r.se]) (xv 3 hx) xd_int rfl
  · rw [List.map_map, strsD, List.map_map]; rfl
  · rintro vs F7 e ht
    obtain ⟨v1, rfl, h3⟩ := ht.one
    exact ⟨v1, _, rfl, h3, by rw [List.length_map]; omega, rfl⟩
  rw [show putF "_services" sv (fl3 u c p) = fl4 u c p sv from put4 u c p sv] at gg7 ⊢
  have hu7 : Ds F7 u (usesD rs) := Ds.mono g7.f hu6
  refine ss_cons (s_fld (T := dt (strsD (secretsD rs))) W.cls W.n5 (fun _ _ _ => xvi 0) hFa7 hxa (upd_same (o := .ins C dx (fl4 u c p sv))) (by simp [fl4]) mono_dt (xc CO hr (by decide) (xa_cons mono_dt (XD.eq (XM.xd (xm_lc (own := [("use", 3)]) (gx := gName 3) (asg := fun σ vs => σ.set 3 vs.head?) (esf := fun d => [d]) (ds := rs.map fun r => pairD r.key) (gm := fun d => .str (dsnd d))
    ⟨rfl, scIn.nd, blkOk_by (N := nIn) (sc := defScope sIn) (by decide +kernel), fun _ _ _ _ _ => pg_name (i := 3) scIn.nd rfl (.inl rfl), fun _ => rfl⟩ (xi_lst (x_fld (T := dt (usesD rs)) W.cls W.n1 (xvi 0) upd_same (look2 u c p sv) hu7 mono_dt)) (fun d _ => tgt_name) (by rw [List.length_map]; omega) (fun _ => rfl) (fun d vs F8 H8 hd g8 hvs => ?_))) (show PyData.list _ = strsD (rs.map (·.se)) from ?_)) xa_nil) ?_) gg7 fun se F8 H8 g8 gg8 hse hFa8 => ss_nil ?_)
  · intro s' H0' C' cl fp
    obtain ⟨r, _, rfl⟩ := List.mem_map.mp hd
    obtain ⟨x, rfl, hx⟩ := hvs.one
    exact xd_ixT (ds := [.str r.sv, .str r.se]) (xv 3 hx) xd_int rfl
  · rw [List.map_map, strsD, List.map_map]; rfl
  · rintro vs F8 e ht
    obtain ⟨v1, rfl, h3⟩ := ht.one
    exact ⟨v1, _, rfl, h3, by rw [List.length_map]; omega, rfl⟩
  rw [show putF "_secrets" se (fl4 u c p sv) = flds u c p sv se from put5 u c p sv se] at gg8 ⊢
  have en : Ex F8 (upd F8 a (.ins C dx (flds u c p sv se))) := Ex.new hFa8
  have e7 := g8.f.trans en
  have e6 := g7.f.trans e7
  have e5 := g6.f.trans e6
  exact kq F8 _ _ gg8 hFa8 upd_same ⟨dx, u, c, p, sv, se, upd_same, hu7.mono e7, mono_tT _ _ _ e5 hc, mono_tT _ _ _ e6 hp, Ds.mono e7 hsv, Ds.mono en hse⟩
end
end K01
end
section
set_option Elab.async false
set_option linter.all false
set_option maxRecDepth 100000
set_option maxHeartbeats 4000000
namespace K01
open PySem L2 Evl R
section
variable {u c p s t : V}
theorem fl_uses : (flds u c p s t).lookup ("_uses" : Str) = some u := by simp [flds, List.lookup]
theorem fl_chans : (flds u c p s t).lookup ("_channels" : Str) = some c := by
  simp [flds, List.lookup, show (("_channels" : Str) == "_uses") = false by decide +kernel]
theorem fl_costs : (flds u c p s t).lookup ("_costs" : Str) = some p := by
  simp [flds, List.lookup, show (("_costs" : Str) == "_uses") = false by decide +kernel, show (("_costs" : Str) == "_channels") = false by decide +kernel]
theorem fl_serv : (flds u c p s t).lookup ("_services" : Str) = some s := by
  simp [flds, List.lookup, show (("_services" : Str) == "_uses") = false by decide +kernel, show (("_services" : Str) == "_channels") = false by decide +kernel, show (("_services" : Str) == "_costs") = false by decide +kernel]
theorem fl_secr : (flds u c p s t).lookup ("_secrets" : Str) = some t := by
  simp [flds, List.lookup, show (("_secrets" : Str) == "_uses") = false by decide +kernel, show (("_secrets" : Str) == "_channels") = false by decide +kernel, show (("_secrets" : Str) == "_costs") = false by decide +kernel, show (("_secrets" : Str) == "_services") = false by decide +kernel]
def fnames : List Str := ["_uses", "_channels", "_costs", "_services", "_secrets"]
theorem fl_no {m : Str} (h : (fnames.any fun x => m == x) = false) : (flds u c p s t).lookup m = none := by
  simp only [fnames, List.any_cons, List.any_nil, Bool.or_eq_false_iff] at h
  simp [flds, List.lookup, h.1, h.2.1, h.2.2.1, h.2.2.2.1, h.2.2.2.2.1]
end
/-- what a world in the text is: rows that form a world -/
structure Wd (C : Addr) (rs : List Row) (a : Addr) (F : Hp) : Prop where
  at_ : WorldAt C rs a F
  ok : WorldOk rs
theorem Wd.mono {C : Addr} {rs : List Row} {a : Addr} {F F' : Hp} (e : Ex F F') (h : Wd C rs a F) : Wd C rs a F' := ⟨h.at_.mono e, h.ok⟩
abbrev tW (C : Addr) (rs : List Row) (a : Addr) : TyP := fun v F => v = .ref a ∧ Wd C rs a F
theorem mono_tW {C : Addr} {rs : List Row} {a : Addr} : Mono (tW C rs a) := fun _ _ _ e h => ⟨h.1, h.2.mono e⟩
theorem diff_mem : ∀ (ss f : List Str) (s : Str), s ∈ ss.foldl addS f ↔ s ∈ f ∨ s ∈ ss
  | [], f, s => by simp
  | x :: ss, f, s => by
    rw [List.foldl_cons, diff_mem ss, List.mem_cons]
    unfold addS
    by_cases h : x ∈ f
    · rw [if_pos h, List.append_nil]
      constructor
      · rintro (h1 | h1)
        · exact .inl h1
        · exact .inr (.inr h1)
      · rintro (h1 | rfl | h1)
        · exact .inl h1
        · exact .inl h
        · exact .inr h1
    · rw [if_neg h, List.mem_append, List.mem_singleton]
      constructor
      · rintro ((h1 | h1) | h1)
        · exact .inl h1
        · exact .inr (.inl h1)
        · exact .inr (.inr h1)
      · rintro (h1 | h1 | h1)
        · exact .inl (.inl h1)
        · exact .inl (.inr h1)
        · exact .inr h1
theorem mem_secretsD {rs : List Row} {s : Str} : s ∈ secretsD rs ↔ ∃ r ∈ rs, r.se = s := by
  unfold secretsD diff
  rw [diff_mem]
  simp
theorem secrets_eq (rs : List Row) : secrets rs = secretsD rs := rfl
theorem WorldOk.len_sec {rs : List Row} (h : WorldOk rs) : (secretsD rs).length ≤ 12 := by
  refine Nat.le_trans (diff_len _ []) ?_
  rw [List.length_map]
  have := h.len
  simp only [List.length_nil]; omega
theorem valD_of_mem : ∀ {ps : KD} {k : List Key} {d : PyData}, (ps.map (·.1)).Nodup → (k, d) ∈ ps → R.valD ps k = some d
  | [], _, _, _, h => by cases h
  | p :: ps, k, d, hn, h => by
    rw [List.map_cons, List.nodup_cons] at hn
    rcases List.mem_cons.mp h with h | h
    · subst h; simp [R.valD]
    · have : ¬ p.1 = k := fun e => hn.1 (e ▸ List.mem_map_of_mem h)
      have e2 : R.valD (p :: ps) k = R.valD ps k := by simp [R.valD, List.find?_cons, this]
      rw [e2]
      exact valD_of_mem hn.2 h
theorem chans_at {rs : List Row} {r : Row} (hW : WorldOk rs) (hr : r ∈ rs) : R.valD (chansD rs) r.kk = some (.tuple (r.ch.map .str)) := by
  refine valD_of_mem ?_ (List.mem_map.mpr ⟨r, hr, rfl⟩)
  rw [chansD, List.map_map]
  exact kk_nd hW.nd
theorem costs_at {rs : List Row} {r : Row} (hW : WorldOk rs) (hr : r ∈ rs) : R.valD (costsD rs) r.kk = some (.int r.co) := by
  refine valD_of_mem ?_ (List.mem_map.mpr ⟨r, hr, rfl⟩)
  rw [costsD, List.map_map]
  exact kk_nd hW.nd
section
variable {P : Program} {w : World} {K : PySem.W.Frag} {mg : Str → Option Value} {base : Heap} {C : Addr}
/-! the properties -/
abbrev sPs : Stmt := inClass tWld 2
abbrev sPc : Stmt := inClass tWld 3
abbrev sPu : Stmt := inClass tWld 4
theorem scPs : FnScope ["self"] ["self"] (defScope sPs) := ⟨rfl, rfl, rfl, by decide +kernel, rfl, by decide +kernel, by decide +kernel⟩
theorem scPc : FnScope ["self"] ["self"] (defScope sPc) := ⟨rfl, rfl, rfl, by decide +kernel, rfl, by decide +kernel, by decide +kernel⟩
theorem scPu : FnScope ["self"] ["self"] (defScope sPu) := ⟨rfl, rfl, rfl, by decide +kernel, rfl, by decide +kernel, by decide +kernel⟩
def pProp (C : Addr) (f : List Row → PyData) : List V → Hp → TyP → Prop := fun vs F T => ∃ (a : Addr) (rs : List Row), vs = [.ref a] ∧ Wd C rs a F ∧ T = dt (f rs)
theorem ok_ps (W : WC K C) (B : Bn mg) {f : Addr} {fd : FuncData} (Fn : Fun K "services" "World.services" sPs f fd) : FnOk P w K mg base CX0 1 f fd ["self"] (spD (pProp C fun rs => strsD (services rs))) := by
  refine Fn.ok scPs (fun vs H Q E h => ?_) (fun cdv A outer s H vs Q E hr h => ⟨_, wSs_ok, ?_⟩)
  · obtain ⟨F, T, _, ⟨a, rs, rfl, _⟩, _⟩ := h
    rfl
  obtain ⟨F, T, s0, ⟨a, rs, rfl, hw, rfl⟩, kq⟩ := h
  obtain ⟨dx, u, c, p, sv, se, h1, h2, h3, h4, h5, h6⟩ := id hw.at_
  exact ss_cons (s_ret (XM.xd (xm_list (ds := (services rs).map .str) B (.inl (x_fld (T := dt (strsD (services rs))) W.cls W.n4 (xvi 0) (s0 _ _ h1) fl_serv h5 mono_dt)))) (Grow.start s0) kq)
theorem ok_pc (W : WC K C) (B : Bn mg) {f : Addr} {fd : FuncData} (Fn : Fun K "secrets" "World.secrets" sPc f fd) : FnOk P w K mg base CX0 1 f fd ["self"] (spD (pProp C fun rs => strsD (secretsD rs))) := by
  refine Fn.ok scPc (fun vs H Q E h => ?_) (fun cdv A outer s H vs Q E hr h => ⟨_, wSs_ok, ?_⟩)
  · obtain ⟨F, T, _, ⟨a, rs, rfl, _⟩, _⟩ := h
    rfl
  obtain ⟨F, T, s0, ⟨a, rs, rfl, hw, rfl⟩, kq⟩ := h
  obtain ⟨dx, u, c, p, sv, se, h1, h2, h3, h4, h5, h6⟩ := id hw.at_
  exact ss_cons (s_ret (XM.xd (xm_list (ds := (secretsD rs).map .str) B (.inl (x_fld (T := dt (strsD (secretsD rs))) W.cls W.n5 (xvi 0) (s0 _ _ h1) fl_secr h6 mono_dt)))) (Grow.start s0) kq)
theorem ok_pu (W : WC K C) (B : Bn mg) {f : Addr} {fd : FuncData} (Fn : Fun K "uses" "World.uses" sPu f fd) : FnOk P w K mg base CX0 1 f fd ["self"] (spD (pProp C usesD)) := by
  refine Fn.ok scPu (fun vs H Q E h => ?_) (fun cdv A outer s H vs Q E hr h => ⟨_, wSs_ok, ?_⟩)
  · obtain ⟨F, T, _, ⟨a, rs, rfl, _⟩, _⟩ := h
    rfl
  obtain ⟨F, T, s0, ⟨a, rs, rfl, hw, rfl⟩, kq⟩ := h
  obtain ⟨dx, u, c, p, sv, se, h1, h2, h3, h4, h5, h6⟩ := id hw.at_
  exact ss_cons (s_ret (XM.xd (xm_list (ds := rs.map fun r : Row => pairD r.key) B (.inl (x_fld (T := dt (usesD rs)) W.cls W.n1 (xvi 0) (s0 _ _ h1) fl_uses h2 mono_dt)))) (Grow.start s0) kq)
/-! has_use, has_secret -/
abbrev sHu : Stmt := inClass tWld 5
abbrev sHs : Stmt := inClass tWld 6
theorem scHu : FnScope ["self", "value"] ["self", "value"] (defScope sHu) := ⟨rfl, rfl, rfl, by decide +kernel, rfl, by decide +kernel, by decide +kernel⟩
theorem scHs : FnScope ["self", "value"] ["self", "value"] (defScope sHs) := ⟨rfl, rfl, rfl, by decide +kernel, rfl, by decide +kernel, by decide +kernel⟩
def pHu (C : Addr) : List V → Hp → TyP → Prop := fun vs F T => ∃ (a : Addr) (rs : List Row) (v : V) (r : Row), vs = [.ref a, v] ∧ Wd C rs a F ∧ Ds F v (pairD r.key) ∧ r ∈ rs ∧ T = dt (.bool true)
def pHs (C : Addr) : List V → Hp → TyP → Prop := fun vs F T => ∃ (a : Addr) (rs : List Row) (s : Str), vs = [.ref a, .str s] ∧ Wd C rs a F ∧ s ∈ secretsD rs ∧ T = dt (.bool true)
theorem ok_hu (W : WC K C) (CP : Cal P w K mg base "_is_pair_of_names" 2 ["value"] (spD pPn)) {f : Addr} {fd : FuncData} (Fn : Fun K "has_use" "World.has_use" sHu f fd) : FnOk P w K mg base CX0 3 f fd ["self", "value"] (spD (pHu C)) := by
  refine Fn.ok scHu (fun vs H Q E h => ?_) (fun cdv A outer s H vs Q E hr h => ⟨_, wSs_ok, ?_⟩)
  · obtain ⟨F, T, _, ⟨a, rs, v, r, rfl, _⟩, _⟩ := h
    rfl
  obtain ⟨F, T, s0, ⟨a, rs, v, r, rfl, hw, hv, hrm, rfl⟩, kq⟩ := h
  obtain ⟨dx, u, c, p, sv, se, h1, h2, ⟨d, kvs, rfl, hd, hD⟩, h4, h5, h6⟩ := id hw.at_
  have hR := hw.ok.rows r hrm
  refine ss_cons (s_ret (XD.eq (xd_and (u := true) (v := hasD (chansD rs) r.kk) (xc CP hr (by decide) (xa_cons mono_dt (xv 1 hv) xa_nil) ?_) fun _ => xd_one (xd_cmp (c_inT hr.u1 (xv 1 (show Ds F v (keyD r.kk) from hv)) (x_fld (T := is (.ref d)) W.cls W.n2 (xvi 0) (s0 _ _ h1) fl_chans rfl mono_is) (s0 _ _ hd) hD))) ?_) (Grow.start s0) kq)
  · rintro vs F3 e ht
    obtain ⟨v1, rfl, h3⟩ := ht.one
    refine ⟨v1, r.key, rfl, h3, hR.lsv, hR.lse, ?_⟩
    rw [show isNm r.key.1 = true from hR.nsv, show isNm r.key.2 = true from hR.nse]; rfl
  · rw [hasD_iff.mpr (by rw [chansD, List.map_map]; exact List.mem_map.mpr ⟨r, hrm, rfl⟩)]; rfl
theorem ok_hs (W : WC K C) (CN : Cal P w K mg base "is_name" 1 ["value"] (spD pNm)) {f : Addr} {fd : FuncData} (Fn : Fun K "has_secret" "World.has_secret" sHs f fd) : FnOk P w K mg base CX0 2 f fd ["self", "value"] (spD (pHs C)) := by
  refine Fn.ok scHs (fun vs H Q E h => ?_) (fun cdv A outer s H vs Q E hr h => ⟨_, wSs_ok, ?_⟩)
  · obtain ⟨F, T, _, ⟨a, rs, s, rfl, _⟩, _⟩ := h
    rfl
  obtain ⟨F, T, s0, ⟨a, rs, st, rfl, hw, hs, rfl⟩, kq⟩ := h
  obtain ⟨dx, u, c, p, sv, se, h1, h2, h3, h4, h5, h6⟩ := id hw.at_
  obtain ⟨r, hrm, rfl⟩ := mem_secretsD.mp hs
  have hR := hw.ok.rows r hrm
  refine ss_cons (s_ret (XD.eq (xd_and (u := true) (v := decide (r.se ∈ secretsD rs)) (xc CN hr (by decide) (xa_cons mono_dt (xv 1 (.str r.se)) xa_nil) ?_) fun _ => xd_one (xd_cmp (c_inLS (xv 1 (.str r.se)) (x_fld (T := dt (strsD (secretsD rs))) W.cls W.n5 (xvi 0) (s0 _ _ h1) fl_secr h6 mono_dt)))) ?_) (Grow.start s0) kq)
  · rintro vs F3 e ht
    obtain ⟨v1, rfl, h3⟩ := ht.one
    exact ⟨r.se, by rw [ds_str h3], hR.lse, by rw [hR.nse]⟩
  · rw [decide_eq_true hs]; rfl
/-! channel, cost -/
abbrev sHc : Stmt := inClass tWld 7
abbrev sHo : Stmt := inClass tWld 8
theorem scHc : FnScope ["self", "use"] ["self", "use"] (defScope sHc) := ⟨rfl, rfl, rfl, by decide +kernel, rfl, by decide +kernel, by decide +kernel⟩
theorem scHo : FnScope ["self", "use"] ["self", "use"] (defScope sHo) := ⟨rfl, rfl, rfl, by decide +kernel, rfl, by decide +kernel, by decide +kernel⟩
def pOf (C : Addr) (f : Row → PyData) : List V → Hp → TyP → Prop := fun vs F T => ∃ (a : Addr) (rs : List Row) (v : V) (r : Row), vs = [.ref a, v] ∧ Wd C rs a F ∧ Ds F v (pairD r.key) ∧ r ∈ rs ∧ T = dt (f r)
theorem ok_hc (W : WC K C) (MH : MCal P w K mg base C "has_use" 3 ["self", "value"] (spD (pHu C))) {f : Addr} {fd : FuncData} (Fn : Fun K "channel" "World.channel" sHc f fd) : FnOk P w K mg base CX0 4 f fd ["self", "use"] (spD (pOf C fun r => .tuple (r.ch.map .str))) := by
  refine Fn.ok scHc (fun vs H Q E h => ?_) (fun cdv A outer s H vs Q E hr h => ⟨_, wSs_ok, ?_⟩)
  · obtain ⟨F, T, _, ⟨a, rs, v, r, rfl, _⟩, _⟩ := h
    rfl
  obtain ⟨F, T, s0, ⟨a, rs, v, r, rfl, hw, hv, hrm, rfl⟩, kq⟩ := h
  obtain ⟨dx, u, c, p, sv, se, h1, h2, ⟨d, kvs, rfl, hd, hD⟩, h4, h5, h6⟩ := id hw.at_
  have hl : Mono (is (.ref d)) := mono_is
  refine ss_cons (s_skip (xt_not (u := true) (xt_val (x_meth MH W.cls hr (by decide) (xvi 0) (s0 _ _ h1) (fl_no (by decide +kernel)) (xa_cons mono_dt (xv 1 hv) xa_nil) (T := dt (.bool true)) ?_))) (Grow.start s0) fun F1 H1 g1 => ?_)
  · rintro vs F3 e ht
    obtain ⟨v1, rfl, h3⟩ := ht.one
    exact ⟨a, rs, v1, r, rfl, hw.mono e, h3, hrm, rfl⟩
  have h1' := g1.f _ _ h1
  have hd' := g1.f _ _ hd
  exact ss_cons (s_ret (xd_dget hr.u1 (x_fld (T := is (.ref d)) W.cls W.n2 (xvi 0) (g1.s _ _ h1') fl_chans rfl mono_is) (xv 1 (show Ds F1 v (keyD r.kk) from hv.mono g1.f)) (g1.s _ _ hd') (hD.mono g1.f) (chans_at hw.ok hrm)) g1 fun v F2 H2 g2 hv2 => kq v F2 H2 (g1.trans g2) hv2)
theorem ok_ho (W : WC K C) (MH : MCal P w K mg base C "has_use" 3 ["self", "value"] (spD (pHu C))) {f : Addr} {fd : FuncData} (Fn : Fun K "cost" "World.cost" sHo f fd) : FnOk P w K mg base CX0 4 f fd ["self", "use"] (spD (pOf C fun r => .int r.co)) := by
  refine Fn.ok scHo (fun vs H Q E h => ?_) (fun cdv A outer s H vs Q E hr h => ⟨_, wSs_ok, ?_⟩)
  · obtain ⟨F, T, _, ⟨a, rs, v, r, rfl, _⟩, _⟩ := h
    rfl
  obtain ⟨F, T, s0, ⟨a, rs, v, r, rfl, hw, hv, hrm, rfl⟩, kq⟩ := h
  obtain ⟨dx, u, c, p, sv, se, h1, h2, h3, ⟨d, kvs, rfl, hd, hD⟩, h5, h6⟩ := id hw.at_
  refine ss_cons (s_skip (xt_not (u := true) (xt_val (x_meth MH W.cls hr (by decide) (xvi 0) (s0 _ _ h1) (fl_no (by decide +kernel)) (xa_cons mono_dt (xv 1 hv) xa_nil) (T := dt (.bool true)) ?_))) (Grow.start s0) fun F1 H1 g1 => ?_)
  · rintro vs F3 e ht
    obtain ⟨v1, rfl, h3⟩ := ht.one
    exact ⟨a, rs, v1, r, rfl, hw.mono e, h3, hrm, rfl⟩
  have h1' := g1.f _ _ h1
  have hd' := g1.f _ _ hd
  exact ss_cons (s_ret (xd_dget hr.u1 (x_fld (T := is (.ref d)) W.cls W.n3 (xvi 0) (g1.s _ _ h1') fl_costs rfl mono_is) (xv 1 (show Ds F1 v (keyD r.kk) from hv.mono g1.f)) (g1.s _ _ hd') (hD.mono g1.f) (costs_at hw.ok hrm)) g1 fun v F2 H2 g2 hv2 => kq v F2 H2 (g1.trans g2) hv2)
end
end K01
end
section
set_option Elab.async false
set_option linter.all false
set_option maxRecDepth 100000
set_option maxHeartbeats 4000000
namespace K01
open PySem L2 Evl R
/-- World and isinstance -/
structure WIs (K : PySem.W.Frag) (mg : Str → Option Value) (C : Addr) : Prop where
  cls : Cls K C
  mg : mg "World" = some (.ref C)
  ha : PySem.W.findIn K (.ref C) "__class__" = some (some (.builtin "object.__class__"))
  hn : PySem.W.specialIn K (.builtin "object.__class__") "__get__" = some (some (.builtin "getset_descriptor.__get__"))
  htk : PySem.W.takesIn K (.builtin "object.__class__") = some true
  hm : PySem.W.mroIn K C (.type "object") = some true
  ko : PySem.W.kitOne K (.ref C) (.ref C) = some true
section
variable {q : Option Addr} {X : Cx} {σ : St} {F H : Hp} {a b e : Expr} {l C dx : Addr} {fs : List (Str × V)} {pos p : Pos}
theorem xd_isW (W : WIs X.K X.mg C) (B : Bn X.mg) (ha : XP q X a σ F H (is (.ref l))) (hH : H l = some (.ins C dx fs)) (hg : Gl X "isinstance" := by rfl) (hg2 : Gl X "World" := by rfl)
    (he : starEach [a, .Name "World" p] X.env = (false, eval a X.env) :: starEach [.Name "World" p] X.env := by rfl) (he2 : starEach [.Name "World" p] X.env = [(false, eval (.Name "World" p) X.env)] := by rfl) (hpl : (backTo pos (starEach [.Name "World" p] X.env)).any (·.1) = false := by rfl) : XD q X (.Call (.Name "isinstance" p2) [a, .Name "World" p] [] pos) σ F H (.bool true) :=
  x_callB call_isi B.isinstance (by decide +kernel) (xa_cons mono_is ha (xa_cons mono_is (x_c (T := is (.ref C)) (pe_glob (v := .ref C) hg2 W.mg rfl) fun _ => rfl) xa_nil he2) he) (fun vs F1 H1 g h Q k => by
    obtain ⟨v, w, rfl, rfl, rfl⟩ := h.two
    exact ⟨.ref l, .ref C, _, _, true, rfl, .own C, .base (.ins (g.h l _ (g.a0.neI hH) hH) W.cls W.ha W.hn W.htk W.hm), W.ko, k _ F1 H1 g.end (.bl true)⟩) hg (he := he) (hpl := hpl)
/-- isinstance(e, (list, tuple)) -/
theorem xd_isLT {d : PyData} {k2 : Nat} {p1 p2 p3 p4 : Pos} (B : Bn X.mg) (ha : XD q X a σ F H d) (hd : tyName d = "list" ∨ tyName d = "tuple") (hg : Gl X "isinstance" := by rfl) (hg2 : Gl X "list" := by rfl) (hg3 : Gl X "tuple" := by rfl)
    (he : starEach [a, .Tuple [.Name "list" p1, .Name "tuple" p2] k2 p3] X.env = (false, eval a X.env) :: starEach [.Tuple [.Name "list" p1, .Name "tuple" p2] k2 p3] X.env := by rfl) (he2 : starEach [.Tuple [.Name "list" p1, .Name "tuple" p2] k2 p3] X.env = [(false, eval (.Tuple [.Name "list" p1, .Name "tuple" p2] k2 p3) X.env)] := by rfl)
    (he3 : starEach [.Name "list" p1, .Name "tuple" p2] X.env = (false, eval (.Name "list" p1) X.env) :: starEach [.Name "tuple" p2] X.env := by rfl) (he4 : starEach [.Name "tuple" p2] X.env = [(false, eval (.Name "tuple" p2) X.env)] := by rfl)
    (hpl : (backTo pos (starEach [.Tuple [.Name "list" p1, .Name "tuple" p2] k2 p3] X.env)).any (·.1) = false := by rfl) : XD q X (.Call (.Name "isinstance" p4) [a, .Tuple [.Name "list" p1, .Name "tuple" p2] k2 p3] [] pos) σ F H (.bool true) :=
  x_callB call_isiT B.isinstance (by decide +kernel) (xa_cons mono_dt ha (xa_cons (T := fun v F => ∃ t, v = .ref t ∧ F t = some (.tup [.ty "list", .ty "tuple"])) (fun v F F' e ⟨t, h1, h2⟩ => ⟨t, h1, e _ _ h2⟩)
    (XP.imp (x_tupn (Ts := [is (.ty "list"), is (.ty "tuple")]) (by intro T hT; rcases List.mem_cons.mp hT with rfl | hT; exact mono_is; rcases List.mem_cons.mp hT with rfl | hT; exact mono_is; cases hT) (xa_cons mono_is (x_c (T := is (.ty "list")) (pe_tyN B.list (by decide +kernel) hg2) fun _ => rfl) (xa_cons mono_is (x_c (T := is (.ty "tuple")) (pe_tyN B.tuple (by decide +kernel) hg3) fun _ => rfl) xa_nil he4) he3)) fun v F ⟨t, vs, h1, h2, h3⟩ => by
      obtain ⟨x, y, rfl, rfl, rfl⟩ := h3.two
      exact ⟨t, h1, h2⟩) xa_nil he2) he) (fun vs F1 H1 g h Q k => by
    obtain ⟨v, w, rfl, hv, t, rfl, ht⟩ := h.two
    refine ⟨v, t, [.ty "list", .ty "tuple"], _, [.type "list", .type "tuple"], true, rfl, g.s _ _ ht, .cons (.ty _) (.cons (.ty _) .nil), ds_ty hv g.s, ?_, k _ F1 H1 g.end (.bl true)⟩
    rcases hd with hd | hd <;> rw [hd]
    · exact kitAny_cons (kit_ty (show kitB "list" "list" = some true by decide +kernel)) (fun h => by cases h) fun _ => rfl
    · exact kitAny_cons (kit_ty (show kitB "tuple" "list" = some false by decide +kernel)) (fun _ => kitAny_cons (kit_ty (show kitB "tuple" "tuple" = some true by decide +kernel)) (fun h => by cases h) fun _ => rfl) (fun h => by cases h)) hg (he := he) (hpl := hpl)
end
theorem filter_nd : ∀ {ss : List Str} (s : List Str), ss.Nodup → List.Sublist s ss → ss.filter (fun x => decide (x ∈ s)) = s
  | [], s, _, h => by cases h; rfl
  | x :: ss, s, hn, h => by
    rw [List.nodup_cons] at hn
    cases h with
    | cons _ h =>
      have : x ∉ s := fun hx => hn.1 (h.subset hx)
      rw [List.filter_cons_of_neg (by simpa using this)]
      exact filter_nd s hn.2 h
    | cons_cons _ h =>
      rename_i s'
      rw [List.filter_cons_of_pos (by simp)]
      congr 1
      rw [← filter_nd s' hn.2 h]
      refine List.filter_congr fun y hy => ?_
      have : y ≠ x := fun e => hn.1 (e ▸ hy)
      rw [filter_nd s' hn.2 h]
      simp [this]
theorem Susp.mem {rs : List Row} {s : List Str} (h : Susp rs s) : ∀ x ∈ s, x ∈ secretsD rs := fun x hx => h.2.subset hx
theorem Susp.len {rs : List Row} {s : List Str} (h : Susp rs s) (hW : WorldOk rs) : s.length ≤ 12 := Nat.le_trans h.2.length_le hW.len_sec
theorem Susp.strOk {rs : List Row} {s : List Str} (h : Susp rs s) (hW : WorldOk rs) : ∀ x ∈ s, PyData.strOk x = true := fun x hx => by
  obtain ⟨r, hr, rfl⟩ := mem_secretsD.mp (h.mem x hx)
  exact (hW.rows r hr).ose
theorem secretsD_nd (rs : List Row) : (secretsD rs).Nodup := secrets_nd rs
section
variable {P : Program} {w : World} {K : PySem.W.Frag} {mg : Str → Option Value} {base : Heap} {C : Addr}
/-! check_world -/
abbrev sCw : Stmt := top 26
theorem scCw : FnScope ["world"] ["world"] (defScope sCw) := ⟨rfl, rfl, rfl, by decide +kernel, rfl, by decide +kernel, by decide +kernel⟩
def pCw (C : Addr) : List V → Hp → TyP → Prop := fun vs F T => ∃ (a : Addr) (rs : List Row), vs = [.ref a] ∧ Wd C rs a F ∧ T = dt .none
theorem ok_cw (I : WIs K mg C) (B : Bn mg) {f : Addr} {fd : FuncData} (Fn : Fun K "check_world" "check_world" sCw f fd) : FnOk P w K mg base CX0 1 f fd ["world"] (spD (pCw C)) := by
  refine Fn.ok scCw (fun vs H Q E h => ?_) (fun cdv A outer s H vs Q E hr h => ⟨_, wSs_ok, ?_⟩)
  · obtain ⟨F, T, _, ⟨a, rs, rfl, _⟩, _⟩ := h
    rfl
  obtain ⟨F, T, s0, ⟨a, rs, rfl, hw, rfl⟩, kq⟩ := h
  obtain ⟨dx, u, c, p, sv, se, h1, _⟩ := id hw.at_
  exact ss_cons (s_skip (xt_not (u := true) (xt_val (xd_isW I B (xvi 0) (s0 _ _ h1)))) (Grow.start s0) fun F1 H1 g1 => ss_nil (kq _ F1 H1 g1 .non))
/-! _is_suspicion -/
abbrev sSu : Stmt := top 27
abbrev nSu : List Str := ["world", "value", "secret"]
theorem scSu : FnScope nSu ["world", "value"] (defScope sSu) := ⟨rfl, rfl, rfl, by decide +kernel, rfl, by decide +kernel, by decide +kernel⟩
def pSu (C : Addr) (T0 : PyData) : List V → Hp → TyP → Prop := fun vs F T => ∃ (a : Addr) (rs : List Row) (v : V) (s : List Str), vs = [.ref a, v] ∧ Wd C rs a F ∧ Ds F v (seenD s) ∧ Susp rs s ∧ T = dt T0
theorem ok_su (W : WC K C) (MH : MCal P w K mg base C "has_secret" 2 ["self", "value"] (spD (pHs C))) (MS : PCal P w K mg base C "secrets" 1 ["self"] (spD (pProp C fun rs => strsD (secretsD rs)))) (B : Bn mg) {f : Addr} {fd : FuncData} (Fn : Fun K "_is_suspicion" "_is_suspicion" sSu f fd) : FnOk P w K mg base CX0 3 f fd ["world", "value"] (spD (pSu C (.bool true))) := by
  refine Fn.ok scSu (fun vs H Q E h => ?_) (fun cdv A outer s H vs Q E hr h => ⟨_, wSs_ok, ?_⟩)
  · obtain ⟨F, T, _, ⟨a, rs, v, s, rfl, _⟩, _⟩ := h
    rfl
  obtain ⟨F, T, s0, ⟨a, rs, v, s, rfl, hw, hv, hS, rfl⟩, kq⟩ := h
  obtain ⟨dx, u, c, p, sv, se, h1, _⟩ := id hw.at_
  have hv' : Ds F v (.tuple (s.map .str)) := hv
  have g0 := Grow.start s0
  have hpos : 0 < s.length := List.length_pos_iff.mpr hS.1
  have hlen := hS.len hw.ok
  refine ss_cons (s_skip (XW.xt (xw_or (u := false) (v := false) (xt_not (u := true) (xt_val (xd_isi (r := true) B (xv 1 hv') (show kitB "tuple" "tuple" = some true by decide +kernel) (pe_tyN B.tuple (by decide +kernel))))) fun _ => xw_or1 (xt_cmp (XCm.eq (c_eqI (xd_lenT B (xv 1 hv')) xd_int) ?_)))) g0 fun F1 H1 g1 => ?_)
  · rw [List.length_map]
    exact decide_eq_false (by omega)
  refine ss_cons (s_skip (xt_not (u := true) (xt_val (XD.eq (xd_all (bs := s.map fun _ => true) rfl B (XM.xd (xm_lc (own := [("secret", 2)]) (gx := gName 2) (asg := fun σ vs => σ.set 2 vs.head?) (esf := fun d => [d]) (ds := s.map .str) (gm := fun d => .bool true)
    ⟨rfl, scSu.nd, blkOk_by (N := nSu) (sc := defScope sSu) (by decide +kernel), fun _ _ _ _ _ => pg_name (i := 2) scSu.nd rfl (.inl rfl), fun _ => rfl⟩ (xi_tup (xv 1 (hv'.mono g1.f))) (fun d _ => tgt_name) (by rw [List.length_map]; omega) (fun _ => rfl) (fun d vs F2 H2 hd g2 hvs => ?_))) ?_) ?_))) g1 fun F2 H2 g2 => ?_)
  · intro s' H0' C' cl fp
    obtain ⟨x, hx, rfl⟩ := List.mem_map.mp hd
    obtain ⟨y, rfl, hy⟩ := hvs.one
    cases hy
    refine x_meth MH W.cls hr (by decide) (xvi 0) (g2.s _ _ (g2.f _ _ (g1.f _ _ h1))) (fl_no (by decide +kernel)) (xa_cons mono_dt (xv 2 (.str x)) xa_nil) ?_
    rintro vs F3 e ht
    obtain ⟨v1, rfl, h3⟩ := ht.one
    exact ⟨a, rs, x, by rw [ds_str h3], hw.mono ((g1.f.trans g2.f).trans e), hS.mem x hx, rfl⟩
  · rw [List.map_map, List.map_map]; rfl
  · congr 1
    rw [List.all_map]
    exact List.all_eq_true.mpr fun _ _ => rfl
  have gg2 := g1.trans g2
  have hv2 := hv'.mono gg2.f
  refine ss_cons (s_ret (xd_cmp (XCm.eq (c_eq hr.units (XM.xd (xm_list B (.inr (xv 1 hv2)))) (XM.xd (xm_lcIf (own := [("secret", 2)]) (gx := gName 2) (asg := fun σ vs => σ.set 2 vs.head?) (esf := fun d => [d]) (ds := (secretsD rs).map .str) (pr := fun d => decide (dstr d ∈ s)) (gm := fun d => d)
    ⟨rfl, scSu.nd, blkOk_by (N := nSu) (sc := defScope sSu) (by decide +kernel), fun _ _ _ _ _ => pg_name (i := 2) scSu.nd rfl (.inl rfl), fun _ => rfl⟩ (xi_lst (x_prop MS W.cls hr (by decide) (xvi 0) (gg2.s _ _ (gg2.f _ _ h1)) (T := dt (strsD (secretsD rs))) fun F3 e => ⟨a, rs, rfl, hw.mono (gg2.f.trans e), rfl⟩)) (fun d _ => tgt_name) (by rw [List.length_map]; have := hw.ok.len_sec; omega) (fun _ => rfl) (fun d vs F3 H3 hd g3 hvs => ?_) (fun d vs F3 H3 hd _ g3 hvs => ?_))) (shaped_strs (hS.strOk hw.ok)) ?_) ?_)) gg2 fun v F3 H3 g3 hv3 => kq v F3 H3 (gg2.trans g3) hv3)
  · intro s' H0' C' cl fp
    obtain ⟨x, hx, rfl⟩ := List.mem_map.mp hd
    obtain ⟨y, rfl, hy⟩ := hvs.one
    exact xt_cmp (c_inTS (xv 2 hy) (xv 1 (hv2.mono g3.f)))
  · intro s' H0' C' cl fp
    obtain ⟨y, rfl, hy⟩ := hvs.one
    exact xv 2 hy
  · have e := filt_map PyData.str dstr dstr_str (fun x => decide (x ∈ s)) (fun x => PyData.str x) (secretsD rs)
    rw [show ((List.map PyData.str (secretsD rs)).filter fun d => decide (dstr d ∈ s)).map (fun d => d) = ((secretsD rs).filter fun x => decide (x ∈ s)).map PyData.str by rw [← e]; exact List.map_congr_left fun d hd => by obtain ⟨x, _, rfl⟩ := List.mem_map.mp (List.mem_filter.mp hd).1; rfl]
    rw [filter_nd s (secretsD_nd rs) hS.2]
    exact shaped_strs (hS.strOk hw.ok)
  · have e := filt_map PyData.str dstr dstr_str (fun x => decide (x ∈ s)) (fun x => PyData.str x) (secretsD rs)
    rw [show ((List.map PyData.str (secretsD rs)).filter fun d => decide (dstr d ∈ s)).map (fun d => d) = ((secretsD rs).filter fun x => decide (x ∈ s)).map PyData.str by rw [← e]; exact List.map_congr_left fun d hd => by obtain ⟨x, _, rfl⟩ := List.mem_map.mp (List.mem_filter.mp hd).1; rfl]
    rw [filter_nd s (secretsD_nd rs) hS.2]
    have := shaped_strs (hS.strOk hw.ok)
    unfold SeqAt.shaped at this
    rw [Bool.and_eq_true] at this
    exact SeqAt.eqv_refl _ this.1
end
end K01
end
section
set_option Elab.async false
set_option linter.all false
set_option maxRecDepth 100000
set_option maxHeartbeats 4000000
namespace K01
open PySem L2 Evl R
section
variable {P : Program} {w : World} {K : PySem.W.Frag} {mg : Str → Option Value} {base : Heap} {C : Addr}
/-! check_suspicion -/
abbrev sCs : Stmt := top 28
theorem scCs : FnScope ["world", "suspicion"] ["world", "suspicion"] (defScope sCs) := ⟨rfl, rfl, rfl, by decide +kernel, rfl, by decide +kernel, by decide +kernel⟩
theorem ok_cs (CS : Cal P w K mg base "_is_suspicion" 3 ["world", "value"] (spD (pSu C (.bool true)))) {f : Addr} {fd : FuncData} (Fn : Fun K "check_suspicion" "check_suspicion" sCs f fd) : FnOk P w K mg base CX0 4 f fd ["world", "suspicion"] (spD (pSu C .none)) := by
  refine Fn.ok scCs (fun vs H Q E h => ?_) (fun cdv A outer s H vs Q E hr h => ⟨_, wSs_ok, ?_⟩)
  · obtain ⟨F, T, _, ⟨a, rs, v, s, rfl, _⟩, _⟩ := h
    rfl
  obtain ⟨F, T, s0, ⟨a, rs, v, s, rfl, hw, hv, hS, rfl⟩, kq⟩ := h
  refine ss_cons (s_skip (xt_not (u := true) (xt_val (xc CS hr (by decide) (xa_cons (T := is (.ref a)) mono_is (xvi 0) (xa_cons mono_dt (xv 1 hv) xa_nil)) ?_))) (Grow.start s0) fun F1 H1 g1 => ss_nil (kq _ F1 H1 g1 .non))
  rintro vs F3 e ht
  obtain ⟨v1, v2, rfl, rfl, h3⟩ := ht.two
  exact ⟨a, rs, v2, s, rfl, hw.mono e, h3, hS, rfl⟩
/-! check_suspicions -/
abbrev sCss : Stmt := top 29
theorem scCss : FnScope ["world", "suspicions", "suspicion"] ["world", "suspicions"] (defScope sCss) := ⟨rfl, rfl, rfl, by decide +kernel, rfl, by decide +kernel, by decide +kernel⟩
def pCss (C : Addr) : List V → Hp → TyP → Prop := fun vs F T => ∃ (a : Addr) (rs : List Row) (v : V) (ss : List (List Str)), vs = [.ref a, v] ∧ Wd C rs a F ∧ Ds F v (.list (ss.map seenD)) ∧ (∀ s ∈ ss, Susp rs s) ∧ 1 ≤ ss.length ∧ ss.length ≤ 3 ∧ T = dt .none
theorem ok_css (CC : Cal P w K mg base "check_suspicion" 4 ["world", "suspicion"] (spD (pSu C .none))) (B : Bn mg) (Cs : Cst mg) {f : Addr} {fd : FuncData} (Fn : Fun K "check_suspicions" "check_suspicions" sCss f fd) : FnOk P w K mg base CX0 5 f fd ["world", "suspicions"] (spD (pCss C)) := by
  refine Fn.ok scCss (fun vs H Q E h => ?_) (fun cdv A outer s H vs Q E hr h => ⟨_, wSs_ok, ?_⟩)
  · obtain ⟨F, T, _, ⟨a, rs, v, s, rfl, _⟩, _⟩ := h
    rfl
  obtain ⟨F, T, s0, ⟨a, rs, v, ss, rfl, hw, hv, hS, hl1, hl2, rfl⟩, kq⟩ := h
  obtain ⟨t1, c1⟩ := Cs.susp
  have g0 := Grow.start s0
  refine ss_cons (s_skip (XW.xt (xw_or (u := false) (v := false) (xt_not (u := true) (xt_val (xd_isLT B (xv 1 hv) (.inl rfl)))) fun _ => xw_or1 (xt_not (u := true) (XT.eq (xt_chain (f := fun i j => decide (i ≤ j)) (g' := fun i j => decide (i ≤ j)) op_le op_le xd_int (xd_lenL B (xv 1 hv)) (xd_globI c1)) ?_)))) g0 fun F1 H1 g1 => ?_)
  · rw [List.length_map, decide_eq_true (by omega : (1 : Int) ≤ ss.length), decide_eq_true (by omega : (ss.length : Int) ≤ 3)]; rfl
  refine ss_cons (s_for (asg := fun σ vs => σ.set 2 vs.head?) (gx := gName 2) (esf := fun d => [d]) rfl PassesOwn.never (xi_lst (ds := ss.map seenD) (xv 1 (hv.mono g1.f))) (pg_name (i := 2) scCss.nd rfl (.inl rfl)) (fun d _ => tgt_name) g1
    (fun i σ F' H' => ∃ (t : Option V), σ = [some (.ref a), some v, t]) ?_ ⟨_, rfl⟩ ?_ ?_)
  · rintro i σ' F' H' F'' H'' h _
    exact h
  · rintro i d vs σ' F' H' hd e1 gg ⟨t, rfl⟩ hvs
    obtain ⟨x, rfl, hx⟩ := hvs.one
    obtain ⟨sn, hsm, rfl⟩ := List.mem_map.mp (List.mem_of_getElem? hd)
    refine ss_cons (s_expr (T := dt .none) (xc CC hr (by decide) (xa_cons (T := is (.ref a)) mono_is (xvi 0) (xa_cons mono_dt (xv 2 hx) xa_nil)) ?_) gg fun v3 F3 H3 g3 _ => ss_nil ⟨F3, g3.f, gg.trans g3, _, rfl⟩)
    rintro vs F3 e ht
    obtain ⟨v1, v2, rfl, rfl, h3⟩ := ht.two
    exact ⟨a, rs, v2, sn, rfl, hw.mono ((g1.f.trans e1).trans e), h3, hS sn hsm, rfl⟩
  · rintro σ' F' H' e1 gg ⟨t, rfl⟩
    exact ss_nil (kq _ F' H' gg .non)
/-- a list or a tuple of uses -/
def usesLT (d : PyData) (sm : List Row) : Prop := d = .list (sm.map fun r => pairD r.key) ∨ d = .tuple (sm.map fun r => pairD r.key)
end
end K01
end
section
set_option Elab.async false
set_option linter.all false
set_option maxRecDepth 100000
set_option maxHeartbeats 4000000
namespace R
open PySem L2 Evl
section
variable {q : Option Addr} {X : Cx} {σ : L2.St} {F H F0 H0 : Hp} {e a b : Expr} {es : List Expr} {T : TyP} {pos p : Pos} {x : Str} {ss : List Str} {l : Addr} {s : Str} {ps : List Str} {kk j : Nat}
/-- a call, any promise -/
theorem xcs {sp : Sp} {Ts : List TyP} (C : Cal X.prog X.w X.K X.mg X.base x kk ps sp) (hr : Room j X.A) (hj : kk ≤ j) (ha : XA q X (e :: es) σ F H Ts) (hs : ∀ vs F1 H1, Grow q F H F1 H1 → AllT Ts vs F1 → ∀ Q : VK, (∀ v F2 H2, Grow q F1 H1 F2 H2 → T v F2 → Q v H2) → sp vs H1 Q E0) (hg : Gl X x := by rfl)
    (hdb : (x == ("__debug__" : Str)) = false := by decide) (he : starEach (e :: es) X.env = (false, eval e X.env) :: starEach es X.env := by rfl) (hpl : (backTo pos (starEach es X.env)).any (·.1) = false := by rfl) :
    XP q X (.Call (.Name x p) (e :: es) [] pos) σ F H T := by
  obtain ⟨f, fd, G, hm, hk, hb⟩ := C
  exact x_call G (hr.mono hj) hm hk hb ha hs hg hdb he hpl
/-- what may be looked through: a list or tuple of these texts -/
def Sees (H : Hp) (l : Addr) (ss : List Str) : Prop := H l = some (.lst (ss.map .str)) ∨ H l = some (.tup (ss.map .str))
theorem Sees.keep (h : Sees H l ss) {F1 H1 : Hp} (g : Grow q F H F1 H1) (hq : q ≠ some l) : Sees H1 l ss := h.elim (fun h => .inl (g.h _ _ hq h)) fun h => .inr (g.h _ _ hq h)
theorem c_inSe (ha : XD q X a σ F H (.str s)) (hb : XP q X b σ F H (is (.ref l))) (hH : Sees H l ss) (hq : q ≠ some l) (hm : behindInMarks .In b = false := by rfl) : XCm q X .In a b σ F H (decide (s ∈ ss)) :=
  x_cmp op_in_seq mono_dt ha hb (fun y z F1 H1 g hy hz Q k => by
    rw [ds_str hy, hz]
    refine ⟨l, _, rfl, (hH.keep g hq).elim (fun h => .inl (SqL.of h)) fun h => .inr (SqT.of h), rfl, flat_strs ss, ?_⟩
    rw [inV_strs]
    exact k F1 H1 g.end) hm
theorem c_niSe (ha : XD q X a σ F H (.str s)) (hb : XP q X b σ F H (is (.ref l))) (hH : Sees H l ss) (hq : q ≠ some l) (hm : behindInMarks .NotIn b = false := by rfl) : XCm q X .NotIn a b σ F H (!decide (s ∈ ss)) :=
  x_cmp op_notIn_seq mono_dt ha hb (fun y z F1 H1 g hy hz Q k => by
    rw [ds_str hy, hz]
    refine ⟨l, _, rfl, (hH.keep g hq).elim (fun h => .inl (SqL.of h)) fun h => .inr (SqT.of h), rfl, flat_strs ss, ?_⟩
    rw [inV_strs]
    exact k F1 H1 g.end) hm
end
end R
namespace K01
open PySem L2 Evl R
def verK (s : Str) : List Key := [.inr s, .inr "old"]
def verD (s : Str) : PyData := keyD (verK s)
theorem verK_inj {a b : Str} (h : verK a = verK b) : a = b := by
  unfold verK at h
  injection h with h _
  injection h
section
variable {P : Program} {w : World} {K : PySem.W.Frag} {mg : Str → Option Value} {base : Heap} {C : Addr}
/-! can_read -/
abbrev sCr : Stmt := top 32
abbrev nCr : List Str := ["keys", "known", "key"]
theorem scCr : FnScope nCr ["keys", "known"] (defScope sCr) := ⟨rfl, rfl, rfl, by decide +kernel, rfl, by decide +kernel, by decide +kernel⟩
/-- known is a dict of versions -/
def spCrD : Sp := fun vs H Q _ => ∃ (F : Hp) (v : V) (l : Addr) (kvs : List (List Key × V)) (ps : KD) (ch : List Str), Ex F H ∧ vs = [v, .ref l] ∧ Ds F v (.tuple (ch.map verD)) ∧ H l = some (.dT kvs) ∧ DTs F kvs ps ∧ ch.length ≤ 1000 ∧ ∀ F2 H2, Grow none F H F2 H2 → Q (.bl (ch.all fun c => hasD ps (verK c))) H2
/-- known is a list or tuple of secrets -/
def spCrS : Sp := fun vs H Q _ => ∃ (F : Hp) (v : V) (l : Addr) (ks ch : List Str), Ex F H ∧ vs = [v, .ref l] ∧ Ds F v (.tuple (ch.map .str)) ∧ Sees H l ks ∧ ch.length ≤ 1000 ∧ ∀ F2 H2, Grow none F H F2 H2 → Q (.bl (ch.all fun c => decide (c ∈ ks))) H2
theorem ok_crD (B : Bn mg) {f : Addr} {fd : FuncData} (Fn : Fun K "can_read" "can_read" sCr f fd) : FnOk P w K mg base CX0 1 f fd ["keys", "known"] spCrD := by
  refine Fn.ok scCr (fun vs H Q E h => ?_) (fun cdv A outer s H vs Q E hr h => ⟨_, wSs_ok, ?_⟩)
  · obtain ⟨F, v, l, kvs, ps, ch, _, rfl, _⟩ := h
    rfl
  obtain ⟨F, v, l, kvs, ps, ch, s0, rfl, hv, hl, hD, hlen, kq⟩ := h
  refine ss_cons (s_ret (xd_all (bs := ch.map fun c => hasD ps (verK c)) rfl B (XM.xd (xm_lc (own := [("key", 2)]) (gx := gName 2) (asg := fun σ vs => σ.set 2 vs.head?) (esf := fun d => [d]) (ds := ch.map verD) (gm := fun d => .bool (hasD ps (verK (dfst d))))
    ⟨rfl, scCr.nd, blkOk_by (N := nCr) (sc := defScope sCr) (by decide +kernel), fun _ _ _ _ _ => pg_name (i := 2) scCr.nd rfl (.inl rfl), fun _ => rfl⟩ (xi_tup (xv 0 hv)) (fun d _ => tgt_name) (by rw [List.length_map]; omega) (fun _ => rfl) (fun d vs F2 H2 hd g2 hvs => ?_))) ?_) (Grow.start s0) fun v1 F1 H1 g1 h1 => ?_)
  · intro s' H0' C' cl fp
    obtain ⟨c, hc, rfl⟩ := List.mem_map.mp hd
    obtain ⟨y, rfl, hy⟩ := hvs.one
    exact xd_cmp (c_inT hr.u1 (xv 2 hy) (xvi 1) (g2.h _ _ (by simp) hl) (hD.mono g2.f))
  · rw [List.map_map, List.map_map]; rfl
  · cases h1
    rw [List.all_map]
    exact kq F1 H1 g1
theorem ok_crS (B : Bn mg) {f : Addr} {fd : FuncData} (Fn : Fun K "can_read" "can_read" sCr f fd) : FnOk P w K mg base CX0 1 f fd ["keys", "known"] spCrS := by
  refine Fn.ok scCr (fun vs H Q E h => ?_) (fun cdv A outer s H vs Q E hr h => ⟨_, wSs_ok, ?_⟩)
  · obtain ⟨F, v, l, ks, ch, _, rfl, _⟩ := h
    rfl
  obtain ⟨F, v, l, ks, ch, s0, rfl, hv, hl, hlen, kq⟩ := h
  refine ss_cons (s_ret (xd_all (bs := ch.map fun c => decide (c ∈ ks)) rfl B (XM.xd (xm_lc (own := [("key", 2)]) (gx := gName 2) (asg := fun σ vs => σ.set 2 vs.head?) (esf := fun d => [d]) (ds := ch.map .str) (gm := fun d => .bool (decide (dstr d ∈ ks)))
    ⟨rfl, scCr.nd, blkOk_by (N := nCr) (sc := defScope sCr) (by decide +kernel), fun _ _ _ _ _ => pg_name (i := 2) scCr.nd rfl (.inl rfl), fun _ => rfl⟩ (xi_tup (xv 0 hv)) (fun d _ => tgt_name) (by rw [List.length_map]; omega) (fun _ => rfl) (fun d vs F2 H2 hd g2 hvs => ?_))) ?_) (Grow.start s0) fun v1 F1 H1 g1 h1 => ?_)
  · intro s' H0' C' cl fp
    obtain ⟨c, hc, rfl⟩ := List.mem_map.mp hd
    obtain ⟨y, rfl, hy⟩ := hvs.one
    exact xd_cmp (c_inSe (xv 2 hy) (xvi 1) (hl.keep g2 (by simp)) (by simp))
  · rw [List.map_map, List.map_map]; rfl
  · cases h1
    rw [List.all_map]
    exact kq F1 H1 g1
/-! past_messages -/
abbrev sPm : Stmt := top 33
abbrev nPm : List Str := ["world", "messages", "use", "channel", "secret"]
theorem scPm : FnScope nPm ["world"] (defScope sPm) := ⟨rfl, rfl, rfl, by decide +kernel, rfl, by decide +kernel, by decide +kernel⟩
def msgD (r : Row) : PyData := .tuple [verD r.se, .tuple (r.ch.map verD)]
def sent (rs : List Row) : List Row := rs.filter fun r => !r.ch.isEmpty
def pPm (C : Addr) : List V → Hp → TyP → Prop := fun vs F T => ∃ (a : Addr) (rs : List Row), vs = [.ref a] ∧ Wd C rs a F ∧ T = dt (.list ((sent rs).map msgD))
theorem ok_pm (W : WC K C) (MU : PCal P w K mg base C "uses" 1 ["self"] (spD (pProp C usesD))) (MC : MCal P w K mg base C "channel" 4 ["self", "use"] (spD (pOf C fun r => .tuple (r.ch.map .str)))) (B : Bn mg) {f : Addr} {fd : FuncData} (Fn : Fun K "past_messages" "past_messages" sPm f fd) : FnOk P w K mg base CX0 5 f fd ["world"] (spD (pPm C)) := by
  refine Fn.ok scPm (fun vs H Q E h => ?_) (fun cdv A outer s H vs Q E hr h => ⟨_, wSs_ok, ?_⟩)
  · obtain ⟨F, T, _, ⟨a, rs, rfl, _⟩, _⟩ := h
    rfl
  obtain ⟨F, T, s0, ⟨a, rs, rfl, hw, rfl⟩, kq⟩ := h
  obtain ⟨dx, u, c, p, sv, se, h1, _⟩ := id hw.at_
  have g0 := Grow.start s0
  have hlen := hw.ok.len
  refine ss_cons (s_setM (i := 1) (ds := []) scPm.nd rfl (xm_lst (ds := []) xa_nil) g0 fun l xs F1 H1 g1 h0l hF1 hH1 hx => ?_)
  cases hx
  refine ss_cons (s_for (asg := fun σ vs => σ.set 2 vs.head?) (gx := gName 2) (esf := fun d => [d]) rfl PassesOwn.never (xi_lst (ds := rs.map fun r => pairD r.key) (x_prop MU W.cls hr (by decide) (xvi 0) (g1.s _ _ (g1.f _ _ h1)) (T := dt (usesD rs)) fun F3 e => ⟨a, rs, rfl, hw.mono (g1.f.trans e), rfl⟩)) (pg_name (i := 2) scPm.nd rfl (.inl rfl)) (fun d _ => tgt_name) g1
    (fun i σ F' H' => ∃ (t o : Option V) (vs : List V), σ = [some (.ref a), some (.ref l), t, o, none] ∧ F' l = none ∧ H' l = some (.lst vs) ∧ DsAll F' vs ((sent (rs.take i)).map msgD)) ?_ ⟨_, _, [], rfl, hF1, hH1, .nil⟩ ?_ ?_)
  · rintro i σ' F' H' F'' H'' ⟨t, o, vs, rfl, h2, h3, h4⟩ g
    exact ⟨t, o, vs, rfl, g.n _ _ h2 h3, g.h _ _ (by simp) h3, h4.mono g.f⟩
  · rintro i d vs σ' F' H' hd e1 gg ⟨t, o, xs, rfl, hF', hH', hxs⟩ hvs
    obtain ⟨x, rfl, hx⟩ := hvs.one
    rw [List.getElem?_map] at hd
    obtain ⟨r, hri, rfl⟩ := Option.map_eq_some_iff.mp hd
    have hrm : r ∈ rs := List.mem_of_getElem? hri
    have e01 := g1.f.trans e1
    have hchl := (hw.ok.rows r hrm).chl
    refine ss_cons (s_set (i := 3) (T := dt (.tuple (r.ch.map .str))) scPm.nd rfl (x_meth MC W.cls hr (by decide) (xvi 0) (gg.s _ _ (e01 _ _ h1)) (fl_no (by decide +kernel)) (xa_cons mono_dt (xv 2 hx) xa_nil) ?_) gg fun vc F3 H3 g3 hc => ?_)
    · rintro vs F3 e ht
      obtain ⟨v1, rfl, h3⟩ := ht.one
      exact ⟨a, rs, v1, r, rfl, hw.mono (e01.trans e), h3, hrm, rfl⟩
    have gg3 := gg.trans g3
    have hts : sent (rs.take (i + 1)) = sent (rs.take i) ++ if r.ch.isEmpty then [] else [r] := by
      unfold sent
      rw [List.take_add_one, hri, List.filter_append]
      cases hr' : r.ch.isEmpty <;> simp [hr']
    have hxl : xs.length ≤ 12 := by
      rw [hxs.length, List.length_map]
      refine Nat.le_trans (List.length_filter_le _ _) ?_
      rw [List.length_take]; omega
    refine ss_cons (s_if (u := !r.ch.isEmpty) (XT.eq (xt_tup (xv 3 hc)) (by rw [List.isEmpty_map])) gg3 (fun hb F4 H4 g4 => ?_) fun hb F4 H4 g4 => ?_)
    · have gg4 := gg3.trans g4
      have g34 := g3.trans g4
      have hF4 := g34.n l _ hF' hH'
      have hH4 := g34.h l _ (by simp) hH'
      have hx4 : Ds F4 x (.tuple [.str r.sv, .str r.se]) := Ds.mono g34.f hx
      have hc4 := Ds.mono g4.f hc
      refine ss_cons (s_append (i := 1) (T := dt (msgD r)) rfl rfl hF4 h0l hH4 (by omega) (xd_tup (ds := [verD r.se, .tuple (r.ch.map verD)]) (xa_cons mono_dt (xd_tup (ds := [.str r.se, .str "old"]) (xa_cons mono_dt (xd_ixT (xv 2 hx4) xd_int rfl) (xa_cons mono_dt xd_str xa_nil))) (xa_cons mono_dt (xd_tupleL B (XM.xd (XM.eq (xm_lc (own := [("secret", 4)]) (gx := gName 4) (asg := fun σ vs => σ.set 4 vs.head?) (esf := fun d => [d]) (ds := r.ch.map .str) (gm := fun d => verD (dstr d))
        ⟨rfl, scPm.nd, blkOk_by (N := nPm) (sc := defScope sPm) (by decide +kernel), fun _ _ _ _ _ => pg_name (i := 4) scPm.nd rfl (.inl rfl), fun _ => rfl⟩ (xi_tup (xv 3 hc4)) (fun d _ => tgt_name) (by rw [List.length_map]; omega) (fun _ => rfl) (fun d vs F5 H5 hd g5 hvs => ?_)) ?_))) xa_nil))) gg4 fun v5 F5 H5 g5 h5 hF5 => ss_nil (ss_nil ?_))
      · intro s' H0' C' cl fp
        obtain ⟨c, hc, rfl⟩ := List.mem_map.mp hd
        obtain ⟨y, rfl, hy⟩ := hvs.one
        exact xd_tup (ds := [.str c, .str "old"]) (xa_cons mono_dt (xv 4 hy) (xa_cons mono_dt xd_str xa_nil))
      · rw [List.map_map]; rfl
      · refine ⟨F5, g34.f.trans g5.f, (gg4.trans g5).put h0l hF5, _, _, _, rfl, hF5, upd_same, ?_⟩
        rw [hts, (Bool.not_eq_true' _).mp hb]
        simp only [Bool.false_eq_true, if_false, List.map_append]
        exact (hxs.mono (g34.f.trans g5.f)).append (.cons h5 .nil)
    · refine ss_nil (ss_nil ⟨F4, g3.f.trans g4.f, gg3.trans g4, _, _, xs, rfl, (g3.trans g4).n l _ hF' hH', (g3.trans g4).h l _ (by simp) hH', ?_⟩)
      rw [hts, (Bool.not_eq_false' _).mp hb, if_pos rfl, List.append_nil]
      exact hxs.mono (g3.f.trans g4.f)
  · rintro σ' F' H' e1 gg ⟨t, o, xs, rfl, hF', hH', hxs⟩
    rw [List.length_map, List.take_length] at hxs
    exact ss_cons (s_retM (i := 1) gg h0l hF' hH' hxs (fun F2 g2 h2 => kq _ F2 H' g2 h2) rfl rfl)
end
end K01
end
section
set_option Elab.async false
set_option linter.all false
set_option maxRecDepth 100000
set_option maxHeartbeats 4000000
namespace R
open PySem L2 Evl
theorem sw_trueD {kx vx : Expr} {gs : List Comprehension} {scope : Scope} {pos py : Pos} {y : Str} {l : Nat} {env : Env} (hk : env.scope.kind = .function) (hy : env.scope.names.lookup y = some .local) (hl : (py.line == pos.line) = true)
    (ha : (scope.names.any fun (n, k) => n == y && (k == .local || k == .cell)) = false) : swapsWith (.DictComp kx vx gs scope pos) (some (.Name y py)) l env = pure true := by
  have h1 : env.kindOf y = some .local := hy
  have h2 : env.blockKind = .function := by unfold Env.blockKind; rw [hk]; rfl
  unfold swapsWith
  simp only [h2, h1, ha, Expr.pos, hl]
  rfl
end R
namespace K01
open PySem L2 Evl R
def psOf (kn : List Str) : KD := kn.map fun s => (verK s, PyData.bool true)
theorem psOf_has (kn : List Str) (s : Str) : hasD (psOf kn) (verK s) = decide (s ∈ kn) := by
  rw [Bool.eq_iff_iff, hasD_iff, decide_eq_true_eq, psOf, List.map_map]
  constructor
  · intro h
    obtain ⟨x, hx, e⟩ := List.mem_map.mp h
    exact verK_inj e ▸ hx
  · intro h
    exact List.mem_map.mpr ⟨s, h, rfl⟩
theorem psOf_snoc (kn : List Str) (s : Str) : psOf kn ++ [(verK s, .bool true)] = psOf (kn ++ [s]) := by rw [psOf, psOf, List.map_append]; rfl
theorem verK_nd {kn : List Str} (h : kn.Nodup) : (kn.map verK).Nodup := List.pairwise_map.mpr (h.imp fun hne e => hne (verK_inj e))
theorem cnt_out {rs : List Row} {fo : List Str} {x : Str} (h : ∀ r ∈ rs, r.se ≠ x) : cnt rs (fo ++ [x]) = cnt rs fo := by
  unfold cnt
  congr 1
  refine List.filter_congr fun r hr => ?_
  have := h r hr
  simp [this]
/-- what is known so far -/
structure KvI (rs : List Row) (seen : List Str) (l : Addr) (kn : List Str) (F' H' : Hp) : Prop where
  f : F' l = none
  d : ∃ kvs, H' l = some (.dT kvs) ∧ DTs F' kvs (psOf kn)
  nd : kn.Nodup
  sub : ∀ s ∈ seen, s ∈ kn
  exp : ∀ s ∈ kn, Exp rs seen s
  len : kn.length + cnt rs kn ≤ seen.length + rs.length
theorem KvI.mono {rs : List Row} {seen : List Str} {l : Addr} {kn : List Str} {F' H' F'' H'' : Hp} (h : KvI rs seen l kn F' H') (g : Grow none F' H' F'' H'') : KvI rs seen l kn F'' H'' := by
  obtain ⟨h1, ⟨kvs, h2, h3⟩, h4, h5, h6, h7⟩ := h
  exact ⟨g.nT l kvs h1 h2, ⟨kvs, g.h l _ (by simp) h2, h3.mono g.f⟩, h4, h5, h6, h7⟩
theorem nextOk_sent {kn : List Str} {r : Row} (h : r.ch.isEmpty = false) : nextOk kn r = ((!decide (r.se ∈ kn)) && r.ch.all fun c => decide (c ∈ kn)) := by
  unfold nextOk
  rw [h]; rfl
section
variable {P : Program} {w : World} {K : PySem.W.Frag} {mg : Str → Option Value} {base : Heap} {C : Addr}
abbrev sKv : Stmt := top 34
abbrev nKv : List Str := ["world", "suspicion", "messages", "known", "unread", "learned", "content", "keys", "secret"]
theorem scKv : FnScope nKv ["world", "suspicion", "messages"] (defScope sKv) := ⟨rfl, rfl, rfl, by decide +kernel, rfl, by decide +kernel, by decide +kernel⟩
def tKv (rs : List Row) (seen : List Str) : TyP := fun v F => ∃ ps, tT ps v F ∧ ∀ s, hasD ps (verK s) = true ↔ Exp rs seen s
def pKv (C : Addr) : List V → Hp → TyP → Prop := fun vs F T => ∃ (a : Addr) (rs : List Row) (v m : V) (seen : List Str), vs = [.ref a, v, m] ∧ Wd C rs a F ∧ Ds F v (seenD seen) ∧ Susp rs seen ∧ Ds F m (.list []) ∧ T = tKv rs seen
theorem ok_kv (CM : Cal P w K mg base "past_messages" 5 ["world"] (spD (pPm C))) (CR : Cal P w K mg base "can_read" 1 ["keys", "known"] spCrD) (B : Bn mg) {f : Addr} {fd : FuncData} (Fn : Fun K "known_versions" "known_versions" sKv f fd) : FnOk P w K mg base CX0 6 f fd ["world", "suspicion", "messages"] (spD (pKv C)) := by
  refine Fn.ok scKv (fun vs H Q E h => ?_) (fun cdv A outer s H vs Q E hr h => ⟨_, wSs_ok, ?_⟩)
  · obtain ⟨F, T, _, ⟨a, rs, v, m, seen, rfl, _⟩, _⟩ := h
    rfl
  obtain ⟨F, T, s0, ⟨a, rs, v, m, seen, rfl, hw, hv, hS, hm, rfl⟩, kq⟩ := h
  have g0 := Grow.start s0
  have hv' : Ds F v (.tuple (seen.map .str)) := hv
  have hlen := hw.ok.len
  have hsl := hS.len hw.ok
  have hnd : seen.Nodup := hS.2.nodup (secrets_nd rs)
  refine ss_cons (s_dt (i := 3) (kf := fun d => verK (dstr d)) (vf := fun d => .bool true) (own := [("secret", 8)]) (gx := gName 8) (asg := fun σ vs => σ.set 8 vs.head?) (esf := fun d => [d]) (ds := seen.map .str) hr.u1 rfl rfl (sw_trueD rfl rfl rfl (by decide +kernel)) g0 (fun l kvs F1 H1 g1 h0l hF1 hH1 hD1 => ?_)
    ⟨rfl, scKv.nd, blkOk_by (N := nKv) (sc := defScope sKv) (by decide +kernel), fun _ _ _ _ _ => pg_name (i := 8) scKv.nd rfl (.inl rfl), fun _ => rfl⟩ (xi_tup (xv 1 hv')) (fun d _ => tgt_name) (by rw [List.length_map]; omega) (by rw [List.map_map]; exact verK_nd hnd) (fun _ => rfl) (fun d vs F2 H2 hd g2 hvs => ?_) (fun d vs F2 H2 hd g2 hvs => ?_))
  rotate_left
  · intro s' H0' C' cl fp
    obtain ⟨c, hc, rfl⟩ := List.mem_map.mp hd
    obtain ⟨y, rfl, hy⟩ := hvs.one
    exact xd_tup (ds := [.str c, .str "old"]) (xa_cons mono_dt (xv 8 hy) (xa_cons mono_dt xd_str xa_nil))
  · intro s' H0' C' cl fp
    exact xd_bl
  rw [List.map_map] at hD1
  have hD1' : DTs F1 kvs (psOf seen) := hD1
  refine ss_cons (s_set (i := 4) (T := dt (.list ((sent rs).map msgD))) scKv.nd rfl (XM.xd (XM.eq (xm_cat (es' := []) (xc CM hr (by decide) (xa_cons (T := is (.ref a)) mono_is (xvi 0) xa_nil) (T := dt (.list ((sent rs).map msgD))) ?_) (xv 2 (hm.mono g1.f)) ?_) (List.append_nil _))) g1 fun un F2 H2 g2 hun => ?_)
  · rintro vs F3 e ht
    obtain ⟨v1, rfl, rfl⟩ := ht.one
    exact ⟨a, rs, rfl, hw.mono (g1.f.trans e), rfl⟩
  · rw [List.length_map]
    have : (sent rs).length ≤ rs.length := List.length_filter_le _ _
    simp only [List.length_nil]; omega
  have gg2 := g1.trans g2
  refine ss_cons (s_set (i := 5) (T := dt (.bool true)) scKv.nd rfl xd_bl gg2 fun vb F3 H3 g3 hb => ?_)
  cases hb
  have gg3 := gg2.trans g3
  have hun3 : Ds F3 un (.list ((sent rs).map msgD)) := Ds.mono g3.f hun
  have I3 : KvI rs seen l seen F3 H3 := (KvI.mono (F' := F1) (H' := H1) ⟨hF1, ⟨kvs, hH1, hD1'⟩, hnd, fun s h => h, fun s h => .seen h, by have : cnt rs seen ≤ rs.length := List.length_filter_le _ _; omega⟩ (g2.trans g3))
  refine ss_cons (R.s_while PassesOwn.never (fun m' σ' F' H' => ∃ (b : Bool) (kn : List Str) (t o : Option V), σ' = [some (.ref a), some v, some m, some (.ref l), some un, some (.bl b), t, o, none] ∧ KvI rs seen l kn F' H' ∧ (b = false → rs.filter (nextOk kn) = []) ∧ m' = if b = true then cnt rs kn + 1 else 0) (cnt rs seen + 1) ⟨true, seen, none, none, rfl, I3, fun h => (by cases h), rfl⟩ gg3 ?_)
  rintro m' σ' F4 H4 e4 gg4 ⟨b, kn, t, o, rfl, hI, hcl, rfl⟩
  refine ⟨b, xt_val (xv 5 (.bl b)), fun hb F5 H5 g5 => ?_, fun hb F5 H5 g5 => ?_⟩
  rotate_left
  · subst hb
    have gg5 := gg4.trans g5
    obtain ⟨hF, ⟨kvs', hH, hD⟩, _, hsub, hexp, _⟩ := hI.mono g5
    obtain ⟨gf, ht⟩ := frzT gg5 h0l hF hH hD
    refine ss_cons (s_retV (i := 3) rfl rfl (kq _ _ _ gf ⟨psOf kn, ht, fun s => ?_⟩))
    rw [psOf_has, decide_eq_true_eq]
    exact ⟨hexp s, closed_exp hsub (hcl rfl) s⟩
  subst hb
  refine ⟨_, fun σ3 H3 n => n, ?_⟩
  have gg5 := gg4.trans g5
  have I5 := hI.mono g5
  have hun5 : Ds F5 un (.list ((sent rs).map msgD)) := hun3.mono (e4.trans g5.f)
  refine ss_cons (s_set (i := 5) (T := dt (.bool false)) scKv.nd rfl xd_bl gg5 fun vb F6 H6 g6 hb => ?_)
  cases hb
  have gg6 := gg5.trans g6
  refine ss_cons (s_for (asg := fun σ vs => (σ.set 6 vs[0]?).set 7 vs[1]?) (gx := gTup K 2 (gCons (gName 6) (gCons (gName 7) gNil))) (esf := fun d => match d with | .tuple es => es | _ => []) rfl PassesOwn.never (xi_lst (ds := (sent rs).map msgD) (xv 4 (hun5.mono g6.f))) (pg_tup rfl (pgs_cons (pg_name (i := 6) scKv.nd rfl (.inl rfl)) (pgs_cons (pg_name (i := 7) scKv.nd rfl (.inl rfl)) pgs_nil))) (fun d hd => ?_) gg6
    (fun i σ F' H' => ∃ (b : Bool) (kn' : List Str) (t o : Option V), σ = [some (.ref a), some v, some m, some (.ref l), some un, some (.bl b), t, o, none] ∧ KvI rs seen l kn' F' H' ∧ (b = true → cnt rs kn' < cnt rs kn) ∧ (b = false → kn' = kn ∧ ∀ r ∈ (sent rs).take i, nextOk kn r = false) ∧ cnt rs kn' ≤ cnt rs kn) ?_ ⟨false, kn, _, _, rfl, I5.mono g6, fun h => (by cases h), fun _ => ⟨rfl, by simp⟩, Nat.le_refl _⟩ ?_ ?_)
  · obtain ⟨r, _, rfl⟩ := List.mem_map.mp hd
    exact tgt_tup2
  · rintro i σ' F' H' F'' H'' ⟨b, kn', t, o, rfl, h1, h2⟩ g
    exact ⟨b, kn', t, o, rfl, h1.mono g, h2⟩
  · rintro i d vs σ' F' H' hd e1 gg ⟨b, kn', t, o, rfl, hI', hbt, hbf, hle⟩ hvs
    rw [List.getElem?_map] at hd
    obtain ⟨r, hri, rfl⟩ := Option.map_eq_some_iff.mp hd
    obtain ⟨x, y, rfl, hx, hy⟩ := hvs.two
    have hrs : r ∈ sent rs := List.mem_of_getElem? hri
    obtain ⟨hrm, hne⟩ := List.mem_filter.mp hrs
    have hne' : r.ch.isEmpty = false := (Bool.not_eq_true' _).mp hne
    obtain ⟨hF', ⟨kvs', hH', hD'⟩, hnd', hsub', hexp', hlen'⟩ := id hI'
    have hts : ∀ x ∈ (sent rs).take (i + 1), x ∈ (sent rs).take i ∨ x = r := fun x hx => by
      rw [List.take_add_one, hri] at hx
      rcases List.mem_append.mp hx with h | h
      · exact .inl h
      · simp at h; exact .inr h
    refine ss_cons (s_if (u := nextOk kn' r) (XT.eq (XW.xt (xw_and (u := !hasD (psOf kn') (verK r.se)) (v := r.ch.all fun c => hasD (psOf kn') (verK c)) (xt_cmp (c_niT hr.u1 (xv 6 hx) (xvi 3) hH' hD')) fun _ => xw_and1 (xt_val (xcs CR hr (by decide) (xa_cons mono_dt (xv 7 hy) (xa_cons mono_is (xvi 3) xa_nil)) (T := dt (.bool (r.ch.all fun c => hasD (psOf kn') (verK c)))) ?_)))) ?_) gg (fun hb F8 H8 g8 => ?_) fun hb F8 H8 g8 => ?_)
    · intro vs F8 H8 g8 ht Q8 k8
      obtain ⟨v1, v2, rfl, h1, rfl⟩ := ht.two
      have := (hw.ok.rows r hrm).chl
      exact ⟨F8, v1, l, kvs', psOf kn', r.ch, g8.s, rfl, h1, g8.h l _ (by simp) hH', hD'.mono g8.f, by omega, fun F9 H9 g9 => k8 _ F9 H9 g9 (.bl _)⟩
    · rw [nextOk_sent hne', psOf_has]
      congr 1
      congr 1
      funext c
      exact psOf_has kn' c
    · obtain ⟨hx1, hx2⟩ := next_exp hexp' hrm hb
      have gg8 := gg.trans g8
      have hlt := cnt_lt hrm hx2
      have hF8 := g8.nT l _ hF' hH'
      have hH8 := g8.h l _ (by simp) hH'
      have hD8 := hD'.mono g8.f
      refine ss_cons (s_dput (i := 3) (T := dt (.bool true)) (k := verK r.se) hr.u1 rfl rfl hF8 h0l hH8 (by rw [hD8.len, psOf, List.length_map]; have : cnt rs kn' ≤ rs.length := List.length_filter_le _ _; omega) mono_dt xd_bl (xv 6 (Ds.mono g8.f hx)) ?_ gg8 fun vz F9 H9 g9 gg9 hz hF9 => ?_)
      · rw [hD8.keys, psOf, List.map_map]
        intro h
        obtain ⟨s', hs', e⟩ := List.mem_map.mp h
        exact hx2 (verK_inj e ▸ hs')
      · have I9 : KvI rs seen l (kn' ++ [r.se]) F9 (upd H9 l (.dT (kvs' ++ [(verK r.se, vz)]))) := by
          refine ⟨hF9, ⟨_, upd_same, ?_⟩, ?_, fun s h => List.mem_append_left _ (hsub' s h), fun s h => ?_, ?_⟩
          · rw [← psOf_snoc]
            exact (hD8.mono g9.f).snoc hz
          · rw [List.nodup_append]
            refine ⟨hnd', by simp, fun x hx y hy e => ?_⟩
            rw [List.mem_singleton] at hy
            exact hx2 (hy ▸ e ▸ hx)
          · rcases List.mem_append.mp h with h | h
            · exact hexp' s h
            · rw [List.mem_singleton.mp h]; exact hx1
          · rw [List.length_append]
            simp only [List.length_singleton]
            omega
        refine ss_cons (s_set (i := 5) (T := dt (.bool true)) scKv.nd rfl xd_bl gg9 fun vb F10 H10 g10 hb10 => ss_nil (ss_nil ?_))
        cases hb10
        exact ⟨F10, (g8.f.trans g9.f).trans g10.f, gg9.trans g10, true, _, _, _, rfl, I9.mono g10, fun _ => by omega, fun h => (by cases h), by omega⟩
    · refine ss_nil (ss_nil ⟨F8, g8.f, gg.trans g8, b, kn', _, _, rfl, hI'.mono g8, hbt, fun h => ?_, hle⟩)
      obtain ⟨rfl, h2⟩ := hbf h
      refine ⟨rfl, fun x hx => ?_⟩
      rcases hts x hx with h | h
      · exact h2 x h
      · rw [h]; exact hb
  · rintro σ' F' H' e1 gg ⟨b, kn', t, o, rfl, hI', hbt, hbf, hle⟩
    refine ss_nil ⟨if b = true then cnt rs kn' + 1 else 0, F', ?_, (g5.f.trans g6.f).trans e1, gg, b, kn', t, o, rfl, hI', fun h => ?_, rfl⟩
    · cases b with
      | true => have := hbt rfl; simp; omega
      | false => simp
    · obtain ⟨rfl, h2⟩ := hbf h
      rw [List.length_map, List.take_length] at h2
      refine List.filter_eq_nil_iff.mpr fun r hr hn => ?_
      have hne : r.ch.isEmpty = false := by
        unfold nextOk at hn
        simp only [Bool.and_eq_true, Bool.not_eq_true'] at hn
        exact hn.2.1
      have := h2 r (List.mem_filter.mpr ⟨hr, by rw [hne]; rfl⟩)
      rw [this] at hn; cases hn
end
end K01
end
section
set_option Elab.async false
set_option linter.all false
set_option maxRecDepth 100000
set_option maxHeartbeats 4000000
namespace K01
open PySem L2 Evl R
section
variable {q : Option Addr} {X : Cx} {σ : St} {F H : Hp} {a b e tg : Expr} {pos p : Pos} {sm : List Row} {d : PyData}
theorem xi_lt (h : XD q X e σ F H d) (hd : usesLT d sm) : XI q X tg e σ F H (sm.map fun r => pairD r.key) := by
  rcases hd with rfl | rfl
  · exact xi_lst h
  · exact xi_tup h
theorem xd_lenLT (B : Bn X.mg) (h : XD q X a σ F H d) (hd : usesLT d sm) (hg : Gl X "len" := by rfl) (he : starEach [a] X.env = [(false, eval a X.env)] := by rfl) : XD q X (.Call (.Name "len" p) [a] [] pos) σ F H (.int sm.length) := by
  rcases hd with rfl | rfl
  · exact XD.eq (xd_lenL B h hg he) (by rw [List.length_map])
  · exact XD.eq (xd_lenT B h hg he) (by rw [List.length_map])
theorem xd_ixLT {i : Int} {r : Row} (h : XD q X a σ F H d) (hd : usesLT d sm) (hb : XD q X b σ F H (.int i)) (hi : atI (sm.map fun r => pairD r.key) i = some (pairD r.key)) (hs : PlainIx b := by exact fun _ _ => rfl) : XD q X (.Subscript a b pos) σ F H (pairD r.key) := by
  rcases hd with rfl | rfl
  · exact xd_ixL h hb hi hs
  · exact xd_ixT h hb hi hs
end
section
variable {P : Program} {w : World} {K : PySem.W.Frag} {mg : Str → Option Value} {base : Heap} {C : Addr}
/-! exposed -/
abbrev sEx : Stmt := top 36
abbrev nEx : List Str := ["world", "suspicion", "known", "secret"]
theorem scEx : FnScope nEx ["world", "suspicion"] (defScope sEx) := ⟨rfl, rfl, rfl, by decide +kernel, rfl, by decide +kernel, by decide +kernel⟩
def pEx (C : Addr) : List V → Hp → TyP → Prop := fun vs F T => ∃ (a : Addr) (rs : List Row) (v : V) (seen : List Str), vs = [.ref a, v] ∧ Wd C rs a F ∧ Ds F v (seenD seen) ∧ Susp rs seen ∧ T = dt (strsD (exposedL rs seen))
theorem mono_tKv {rs : List Row} {seen : List Str} : Mono (tKv rs seen) := fun v F F' e ⟨ps, h1, h2⟩ => ⟨ps, mono_tT v F F' e h1, h2⟩
theorem ok_ex (W : WC K C) (MS : PCal P w K mg base C "secrets" 1 ["self"] (spD (pProp C fun rs => strsD (secretsD rs)))) (CW : Cal P w K mg base "check_world" 1 ["world"] (spD (pCw C))) (CS : Cal P w K mg base "check_suspicion" 4 ["world", "suspicion"] (spD (pSu C .none))) (CV : Cal P w K mg base "known_versions" 6 ["world", "suspicion", "messages"] (spD (pKv C)))
    {f : Addr} {fd : FuncData} (Fn : Fun K "exposed" "exposed" sEx f fd) : FnOk P w K mg base CX0 7 f fd ["world", "suspicion"] (spD (pEx C)) := by
  refine Fn.ok scEx (fun vs H Q E h => ?_) (fun cdv A outer s H vs Q E hr h => ⟨_, wSs_ok, ?_⟩)
  · obtain ⟨F, T, _, ⟨a, rs, v, seen, rfl, _⟩, _⟩ := h
    rfl
  obtain ⟨F, T, s0, ⟨a, rs, v, seen, rfl, hw, hv, hS, rfl⟩, kq⟩ := h
  obtain ⟨dx, u, c, p, sv, se, h1, _⟩ := id hw.at_
  have g0 := Grow.start s0
  refine ss_cons (s_expr (T := dt .none) (xc CW hr (by decide) (xa_cons (T := is (.ref a)) mono_is (xvi 0) xa_nil) ?_) g0 fun v1 F1 H1 g1 _ => ?_)
  · rintro vs F3 e ht
    obtain ⟨v1, rfl, rfl⟩ := ht.one
    exact ⟨a, rs, rfl, hw.mono e, rfl⟩
  refine ss_cons (s_expr (T := dt .none) (xc CS hr (by decide) (xa_cons (T := is (.ref a)) mono_is (xvi 0) (xa_cons mono_dt (xv 1 (hv.mono g1.f)) xa_nil)) ?_) g1 fun v2 F2 H2 g2 _ => ?_)
  · rintro vs F3 e ht
    obtain ⟨v1, v2, rfl, rfl, h3⟩ := ht.two
    exact ⟨a, rs, v2, seen, rfl, hw.mono (g1.f.trans e), h3, hS, rfl⟩
  have gg2 := g1.trans g2
  refine ss_cons (s_set (i := 2) (T := tKv rs seen) scEx.nd rfl (xc CV hr (by decide) (xa_cons (T := is (.ref a)) mono_is (xvi 0) (xa_cons mono_dt (xv 1 (hv.mono gg2.f)) (xa_cons mono_dt (XM.xd (xm_lst (ds := []) xa_nil)) xa_nil))) ?_) gg2 fun v3 F3 H3 g3 h3 => ?_)
  · rintro vs F3 e ht
    obtain ⟨v1, v2, v3, rfl, rfl, h3, h4⟩ := ht.three
    exact ⟨a, rs, v2, v3, seen, rfl, hw.mono (gg2.f.trans e), h3, hS, h4, rfl⟩
  have gg3 := gg2.trans g3
  obtain ⟨ps, ⟨l, kvs, rfl, hl, hD⟩, hps⟩ := h3
  have hlen := hw.ok.len_sec
  refine ss_cons (s_ret (XD.eq (XM.xd (xm_lcIf (own := [("secret", 3)]) (gx := gName 3) (asg := fun σ vs => σ.set 3 vs.head?) (esf := fun d => [d]) (ds := (secretsD rs).map .str) (pr := fun d => hasD ps (verK (dstr d))) (gm := fun d => .str (dstr d))
    ⟨rfl, scEx.nd, blkOk_by (N := nEx) (sc := defScope sEx) (by decide +kernel), fun _ _ _ _ _ => pg_name (i := 3) scEx.nd rfl (.inl rfl), fun _ => rfl⟩ (xi_lst (x_prop MS W.cls hr (by decide) (xvi 0) (gg3.s _ _ (gg3.f _ _ h1)) (T := dt (strsD (secretsD rs))) fun F4 e => ⟨a, rs, rfl, hw.mono (gg3.f.trans e), rfl⟩)) (fun d _ => tgt_name) (by rw [List.length_map]; omega) (fun _ => rfl) (fun d vs F4 H4 hd g4 hvs => ?_) (fun d vs F4 H4 hd _ g4 hvs => ?_))) ?_) gg3 fun v F4 H4 g4 hv4 => kq v F4 H4 (gg3.trans g4) hv4)
  · intro s' H0' C' cl fp
    obtain ⟨x, hx, rfl⟩ := List.mem_map.mp hd
    obtain ⟨y, rfl, hy⟩ := hvs.one
    exact xt_cmp (c_inT hr.u1 (xd_tup (ds := [.str x, .str "old"]) (xa_cons mono_dt (xv 3 hy) (xa_cons mono_dt xd_str xa_nil))) (xvi 2) (g4.s _ _ (g4.f _ _ hl)) (hD.mono g4.f))
  · intro s' H0' C' cl fp
    obtain ⟨x, hx, rfl⟩ := List.mem_map.mp hd
    obtain ⟨y, rfl, hy⟩ := hvs.one
    exact xv 3 hy
  · rw [filt_map PyData.str dstr dstr_str (fun s => hasD ps (verK s)) (fun s => PyData.str s)]
    unfold exposedL strsD
    congr 1
    congr 1
    rw [secrets_eq]
    refine List.filter_congr fun s _ => ?_
    rw [Bool.eq_iff_iff, hps s]
    exact (@decide_eq_true_iff _ (Classical.propDecidable _)).symm
end
end K01
end
section
set_option Elab.async false
set_option linter.all false
set_option maxRecDepth 100000
set_option maxHeartbeats 4000000
/-! R: lists that may change, read and stored at a place -/
namespace R
open PySem L2 Evl
section
variable {q : Option Addr} {X : Cx} {σ : L2.St} {F H F0 H0 : Hp} {e : Expr} {pos p p2 p3 p' : Pos} {x : Str} {l : Addr} {vs : List V} {T : TyP} {D : Ends} {k kk : Nat} {v : V}
theorem x_ixM (i : Nat) (hH : H l = some (.lst vs)) (hq : q ≠ some l) (hk : atI vs (k : Nat) = some v) (hT : T v F) (mo : Mono T) (hN : X.N[i]? = some x := by rfl) (hσ : σ[i]? = some (some (.ref l)) := by rfl) (hv : Vis X.env.scope x := by first | exact Or.inl rfl | exact Or.inr (Or.inl rfl) | exact Or.inr (Or.inr rfl))
    (hd : (x == ("__debug__" : Str)) = false := by decide) (hcd : (x == ("__classdict__" : Str)) = false := by decide) : XP q X (.Subscript (.Name x p) (.Constant (.int (k : Nat)) kk p2) pos) σ F H T := fun F1 H1 g Q kq =>
  wE_of (pe_ix ix_list (pe_var hN hv hd hcd) pe_int (fun _ _ => rfl)) ⟨_, hσ, l, vs, _, v, rfl, rfl, SqL.of (g.h _ _ hq hH), hk, kq v F1 H1 g.end (mo _ _ _ g.f hT)⟩
theorem s_lset {i : Nat} (hN : X.N[i]? = some x) (hσ : σ[i]? = some (some (.ref l))) (hH : H l = some (.lst vs)) (hq : q ≠ some l) (hk : ixN vs.length (k : Nat) = some k) (hv : XP q X e σ F H T) (g0 : Grow q F0 H0 F H)
    (kn : ∀ v F2 H2, Grow q F H F2 H2 → T v F2 → D.nx σ (upd H2 l (.lst (vs.set k v))))
    (hvis : Vis X.env.scope x := by first | exact Or.inl rfl | exact Or.inr (Or.inl rfl) | exact Or.inr (Or.inr rfl))
    (hs : swapsWithSole [.Subscript (.Name x p) (.Constant (.int (k : Nat)) kk p2) p'] e pos.line X.env = pure false := by rfl) (hw : swappedStores [.Subscript (.Name x p) (.Constant (.int (k : Nat)) kk p2) p'] e X.env = pure none := by rfl)
    (h1 : (assignEach [.Subscript (.Name x p) (.Constant (.int (k : Nat)) kk p2) p'] X.env).map (·.2) = [assign (.Subscript (.Name x p) (.Constant (.int (k : Nat)) kk p2) p') X.env] := by rfl)
    (hd : (x == ("__debug__" : Str)) = false := by decide) (hcd : (x == ("__classdict__" : Str)) = false := by decide) : wS X (.Assign [.Subscript (.Name x p) (.Constant (.int (k : Nat)) kk p2) p'] e pos) D σ H :=
  wS_of (ps_asg wE_ok (pg_sub (pe_var hN hvis hd hcd) pe_int set_list) hs hw h1) (hv F H g0.end _ fun v F2 H2 g2 ht => ⟨_, hσ, l, vs, _, k, rfl, rfl, g2.h _ _ hq hH, hk, kn v F2 H2 g2 ht⟩)
end
end R
end
section
set_option Elab.async false
set_option linter.all false
set_option maxRecDepth 100000
set_option maxHeartbeats 4000000
/-! y = [elt for x in iter for z in iter1] -/
namespace R
open PySem L2 Evl
section
variable {q : Option Addr} {X : Cx} {σ : L2.St} {F H F0 H0 : Hp} {tg tg1 iter iter1 elt : Expr} {scope : Scope} {own : List (Str × Nat)} {ds : List PyData} {es : PyData → List PyData} {gm : PyData → PyData} {j1 j2 i : Nat} {y : Str} {py pos spos : Pos} {D : Ends}
def uI (X : Cx) (scope : Scope) (tg it : Expr) : TI := fun σ H R => ∀ (s : Shared) (H0 : Hp) (C : Addr) (cl : List (Str × Addr)) (fp : List Addr), wI (X.blk s H0 scope (compEnvC scope cl C X.env) fp) tg it σ H R
theorem xm_lc2 (hc : X.calm = true) (hN : X.N.Nodup) (ok : BlkOk X.N X.env.scope scope own) (hv : ∀ i ∈ [j2], i ∈ own.map (·.2)) (hg : InB X scope fun Y => PG Y tg (gName j1)) (hg1 : InB X scope fun Y => PG Y tg1 (gName j2))
    (hi : XI q X tg iter σ F H ds) (hl : (ds.flatMap fun d => (es d).map gm).length ≤ 100000)
    (hw1 : ∀ v : V, wipe ((wipe σ (own.map (·.2))).set j1 (some v)) (own.map (·.2)) = wipe σ (own.map (·.2))) (hw2 : ∀ v z : V, wipe ((wipe ((wipe σ (own.map (·.2))).set j1 (some v)) [j2]).set j2 (some z)) [j2] = wipe ((wipe σ (own.map (·.2))).set j1 (some v)) [j2])
    (hi1 : ∀ d v F1 H1, d ∈ ds → Grow q F H F1 H1 → Ds F1 v d → InB X scope fun Y => XI q Y tg1 iter1 ((wipe σ (own.map (·.2))).set j1 (some v)) F1 H1 (es d))
    (he : ∀ d v e z F1 H1, d ∈ ds → e ∈ es d → Grow q F H F1 H1 → Ds F1 z e → InB X scope fun Y => XD q Y elt ((wipe ((wipe σ (own.map (·.2))).set j1 (some v)) [j2]).set j2 (some z)) F1 H1 (gm e))
    (hs : ∀ x, foldedSetIterable iter X.env x = pure x := by intro _; rfl) (hs1 : ∀ env x, foldedSetIterable iter1 env x = pure x := by intro _ _; rfl) :
    XM q X (.ListComp elt [⟨tg, iter, [], 0⟩, ⟨tg1, iter1, [], 0⟩] scope pos) σ F H (ds.flatMap fun d => (es d).map gm) := fun Fa Ha ga Q k => by
  refine wE_of (pe_lc2 (wi := wI X tg iter) (g := gName j1) (tt := tYes) (wi1 := uI X scope tg1 iter1) (g1 := gName j2) (tt1 := tYes) (te := uE X scope elt) (vs1 := [j2]) hc hN wI_ok ok hv hg (fun s H C cl fp => pts_nil) (fun s H C cl fp => ⟨fun pins s' σ' H' R I h => (h s H C cl fp).run pins s' I⟩) hg1 (fun s H C cl fp => pts_nil) (fun s H C cl fp => ⟨fun pins s' σ' H' Q I h => (h s H C cl fp).run pins s' I⟩) hs hs1) ?_
  refine hi Fa Ha ga _ fun J F2 H2 g2 w D' hD => ?_
  let Pv : Nat → Hp → Prop := fun i H' => ∃ F' acc, Grow q F2 H2 F' H' ∧ F' D' = none ∧ H' D' = some (.lst acc) ∧ DsAll F' acc ((ds.take i).flatMap fun d => (es d).map gm)
  refine ⟨fun i m H => m = ds.length - i ∧ i ≤ ds.length ∧ Pv i H, ⟨ds.length, by simp, Nat.zero_le _, F2, [], g2.mut hD, fresh_back g2.s hD, upd_same, .nil⟩, ?_⟩
  rintro i' m H' ⟨rfl, hi', F', acc, gw, hFD, hHD, hacc⟩
  by_cases hlt : i' < ds.length
  · refine .inr ⟨w.goes i' H' hlt (gw.f.trans gw.s), Pv (i' + 1), fun H' p' => ⟨ds.length - (i' + 1), by omega, rfl, hlt, p'⟩, fun x H4 yy => ?_⟩
    obtain ⟨F4, d, g3, hd, hx⟩ := w.yields i' H' x H4 F' hlt gw.f gw.s yy
    have hmem : d ∈ ds := List.mem_of_getElem? hd
    have hqD : q ≠ some D' := g2.a1.ne hD
    have g4 := gw.trans (g3.weak gw.a1)
    have hF4D : F4 D' = none := g3.n D' _ hFD hHD
    have hH4D := g3.h D' _ (by simp) hHD
    have hts : ((ds.take (i' + 1)).flatMap fun d => (es d).map gm) = ((ds.take i').flatMap fun d => (es d).map gm) ++ (es d).map gm := by
      rw [List.take_add_one, hd]; simp
    refine ⟨hw1 x, ?_⟩
    simp only [tYes, if_true]
    intro s0 H0' C cl fp
    refine hi1 d x F4 H4 hmem (ga.trans (g2.trans g4)) hx s0 H0' C cl fp F4 H4 g4.end _ fun J1 F5 H5 g5 w1 => ?_
    have hF5D := g5.n D' _ hF4D hH4D
    have hH5D := g5.h D' _ hqD hH4D
    have gg5 := g4.trans g5
    let Pw : Nat → Hp → Prop := fun j H' => ∃ F' acc, Grow q F2 H2 F' H' ∧ Ex F5 F' ∧ F' D' = none ∧ H' D' = some (.lst acc) ∧ DsAll F' acc (((ds.take i').flatMap fun d => (es d).map gm) ++ ((es d).take j).map gm)
    refine ⟨fun j m H => m = (es d).length - j ∧ j ≤ (es d).length ∧ Pw j H, ⟨(es d).length, by simp, Nat.zero_le _, F5, acc, gg5, Ex.refl _, hF5D, hH5D, by simpa using hacc.mono (g3.f.trans g5.f)⟩, ?_⟩
    rintro j m H6 ⟨rfl, hj, F6, acc6, gw6, e6, hF6D, hH6D, hacc6⟩
    by_cases hjl : j < (es d).length
    · refine .inr ⟨w1.goes j H6 hjl (e6.trans gw6.s), Pw (j + 1), fun H' p' => ⟨(es d).length - (j + 1), by omega, rfl, hjl, p'⟩, fun z H7 yz => ?_⟩
      obtain ⟨F7, e, g7, hde, hz⟩ := w1.yields j H6 z H7 F6 hjl e6 gw6.s yz
      have hem : e ∈ es d := List.mem_of_getElem? hde
      have g67 := gw6.trans (g7.weak gw6.a1)
      have hF7D : F7 D' = none := g7.n D' _ hF6D hH6D
      have hH7D := g7.h D' _ (by simp) hH6D
      refine ⟨hw2 x z, ?_⟩
      intro s1 H1' C1 cl1 fp1
      refine he d x e z F7 H7 hmem hem (ga.trans (g2.trans g67)) hz s1 H1' C1 cl1 fp1 F7 H7 g67.end _ fun u F8 H8 g8 hu => ?_
      have hF8D := g8.n D' _ hF7D hH7D
      have hH8D := g8.h D' _ hqD hH7D
      refine ⟨acc6, hH8D, ?_, F8, acc6 ++ [u], (g67.trans g8).put hD hF8D, (e6.trans g7.f).trans g8.f, hF8D, upd_same, ?_⟩
      · rw [hacc6.length]
        refine sz_lt ?_
        have h1 : (((ds.take i').flatMap fun d => (es d).map gm) ++ ((es d).map gm)).length ≤ (ds.flatMap fun d => (es d).map gm).length := by
          rw [← hts]
          conv => rhs; rw [← List.take_append_drop (i' + 1) ds, List.flatMap_append, List.length_append]
          omega
        rw [List.length_append, List.length_map] at h1
        rw [List.length_append, List.length_map, List.length_take]
        omega
      · have : ((es d).take (j + 1)).map gm = ((es d).take j).map gm ++ [gm e] := by
          rw [List.take_add_one, hde]; simp
        rw [this, ← List.append_assoc]
        exact (hacc6.mono (g7.f.trans g8.f)).append (.cons hu .nil)
    · have ej : j = (es d).length := by omega
      subst ej
      rw [List.take_length] at hacc6
      exact .inl ⟨w1.stops H6 (e6.trans gw6.s), F6, acc6, gw6, hF6D, hH6D, by rw [hts]; exact hacc6⟩
  · have e : i' = ds.length := by omega
    subst e
    rw [List.take_length] at hacc
    exact .inl ⟨w.stops H' (gw.f.trans gw.s), k D' acc F' H' (g2.trans gw) (g2.fresh hD) hFD hHD hacc⟩
end
end R
end
section
set_option Elab.async false
set_option linter.all false
set_option maxRecDepth 100000
set_option maxHeartbeats 4000000
/-! R: a comprehension of which only something is known -/
namespace R
open PySem L2 Evl
/-- a datum of this kind -/
def tE (RE : PyData → Prop) : TyP := fun v F => ∃ e, Ds F v e ∧ RE e
theorem mono_tE {RE : PyData → Prop} : Mono (tE RE) := fun _ _ _ x ⟨e, h1, h2⟩ => ⟨e, h1.mono x, h2⟩
theorem lcDE {q : Option Addr} {ds : List PyData} {σ : L2.St} {J : It} {F0 H0 F2 H2 : Hp} {gx : TG} {te : TE} {vs : List Nat} {RE : PyData → Prop} {Q : VK} (g2 : Grow q F0 H0 F2 H2) (w : WalkD J F2 ds) (hl : ds.length ≤ 100000)
    (hb : ∀ d x F' H', d ∈ ds → Grow q F2 H2 F' H' → Ds F' x d → ∀ R : L2.St → Hp → Prop, (∀ σ2, wipe σ2 vs = wipe σ vs → (∀ F3 H3, Grow q F' H' F3 H3 → ∀ Q : VK, (∀ v F4 H4, Grow q F3 H3 F4 H4 → tE RE v F4 → Q v H4) → te σ2 H3 Q) → R σ2 H') → gx x (wipe σ vs) H' R)
    (kq : ∀ p xs es F3 H3, Grow q F2 H2 F3 H3 → H2 p = none → F3 p = none → H3 p = some (.lst xs) → es.length = ds.length → (∀ e ∈ es, RE e) → DsAll F3 xs es → Q (.ref p) H3) :
    ∀ D, H2 D = none → ∃ W : Nat → Nat → Hp → Prop, (∃ m, W 0 m (upd H2 D (.lst []))) ∧ ∀ i m H, W i m H →
      (J.stop i H ∧ Q (.ref D) H) ∨ (J.go i H ∧ ∃ Nx : Hp → Prop, (∀ H', Nx H' → ∃ m', m' < m ∧ W (i + 1) m' H') ∧ ∀ x H', J.yld i H x H' → gx x (wipe σ vs) H' fun σ2 H2 => wipe σ2 vs = wipe σ vs ∧ tYes σ2 H2 fun b H3 =>
        if b = true then te σ2 H3 fun y H4 => ∃ acc, H4 D = some (.lst acc) ∧ acc.length < sizeLine ∧ Nx (upd H4 D (.lst (acc ++ [y]))) else Nx H3) := by
  intro D hD
  let Pv : Nat → Hp → Prop := fun i H' => ∃ F' acc es, Grow q F2 H2 F' H' ∧ F' D = none ∧ H' D = some (.lst acc) ∧ es.length = i ∧ (∀ e ∈ es, RE e) ∧ DsAll F' acc es
  refine ⟨fun i m H => m = ds.length - i ∧ i ≤ ds.length ∧ Pv i H, ⟨ds.length, by simp, Nat.zero_le _, F2, [], [], g2.mut hD, fresh_back g2.s hD, upd_same, rfl, by simp, .nil⟩, ?_⟩
  rintro i m H ⟨rfl, hi, F', acc, es, gw, hFD, hHD, hes, hre, hacc⟩
  by_cases hlt : i < ds.length
  · refine .inr ⟨w.goes i H hlt (gw.f.trans gw.s), Pv (i + 1), fun H' p' => ⟨ds.length - (i + 1), by omega, rfl, hlt, p'⟩, fun x H' y => ?_⟩
    obtain ⟨F'', d, g3, hd, hx⟩ := w.yields i H x H' F' hlt gw.f gw.s y
    have hqD : q ≠ some D := g2.a1.ne hD
    have g4 := gw.trans (g3.weak gw.a1)
    have hF''D : F'' D = none := g3.n D _ hFD hHD
    have hH'D := g3.h D _ (by simp) hHD
    refine hb d x F'' H' (List.mem_of_getElem? hd) g4 hx _ fun σ2 hw he => ⟨hw, ?_⟩
    change if (true : Bool) = true then te σ2 H' _ else Pv (i + 1) H'
    rw [if_pos rfl]
    refine he F'' H' g4.end _ fun v F4 H4 g6 hv => ?_
    obtain ⟨e, hv, he'⟩ := hv
    have hF4D : F4 D = none := g6.n D _ hF''D hH'D
    have hH4D := g6.h D _ hqD hH'D
    refine ⟨acc, hH4D, ?_, F4, acc ++ [v], es ++ [e], (g4.trans g6).put hD hF4D, hF4D, upd_same, by simp [hes], fun z hz => ?_, (hacc.mono (g3.f.trans g6.f)).append (.cons hv .nil)⟩
    · have : acc.length = i := by rw [hacc.length, hes]
      exact sz_lt (by omega)
    · rcases List.mem_append.mp hz with h | h
      · exact hre z h
      · rw [List.mem_singleton.mp h]; exact he'
  · have e : i = ds.length := by omega
    subst e
    exact .inl ⟨w.stops H (gw.f.trans gw.s), kq D acc es F' H gw hD hFD hHD hes hre hacc⟩
section
variable {q : Option Addr} {X : Cx} {σ : L2.St} {F H F0 H0 : Hp} {tg elt iter : Expr} {pos spos py : Pos} {y : Str} {D : Ends} {scope : Scope} {own : List (Str × Nat)} {gx : TG} {asg : L2.St → List V → L2.St} {esf : PyData → List PyData} {i : Nat} {RR : List PyData → Prop} {RE : PyData → Prop}
theorem s_lcE (hy : X.N[i]? = some y) (hyl : X.env.scope.names.lookup y = some .local) (hsw : swapsWith (.ListComp elt [⟨tg, iter, [], 0⟩] scope pos) (some (.Name y py)) spos.line X.env = pure true) (g0 : Grow q F0 H0 F H)
    (k : ∀ l vs ds es F2 H2, Grow q F H F2 H2 → H l = none → F2 l = none → H2 l = some (.lst vs) → RR ds → es.length = ds.length → (∀ e ∈ es, RE e) → DsAll F2 vs es → D.nx (σ.set i (some (.ref l))) H2)
    (L : LcOk X tg scope own iter gx) (hi : XIn q X tg iter σ F H RR) (hT : ∀ ds d, RR ds → d ∈ ds → Tgt gx asg d (esf d)) (hl : ∀ ds, RR ds → ds.length ≤ 100000) (hw : ∀ vs, wipe (asg (wipe σ (own.map (·.2))) vs) (own.map (·.2)) = wipe σ (own.map (·.2)))
    (he : ∀ d vs F1 H1, Grow q F H F1 H1 → DsAll F1 vs (esf d) → InB X scope fun Y => XP q Y elt (asg (wipe σ (own.map (·.2))) vs) F1 H1 (tE RE)) :
    wS X (.Assign [.Name y py] (.ListComp elt [⟨tg, iter, [], 0⟩] scope pos) spos) D σ H :=
  wS_of (ps_setLc (te := uE X scope elt) (tt := tYes) L.calm L.nd hy hyl hsw wI_ok L.ok L.tg (fun s H C cl fp => pts_nil) (fun s H C cl fp => ⟨fun pins s' σ' H' Q I h => (h s H C cl fp).run pins s' I⟩) L.hs)
    (hi F H g0.end _ fun J ds F2 H2 g2 w hrr => lcDE (te := uE X scope elt) (Q := fun x H1 => gName i x σ H1 D.nx) (RE := RE) g2 w (hl ds hrr) (fun d x F' H' hd gw hx R r => hT ds d hrr hd F' H' x _ _ gw.s hx fun vs hvs => r _ (hw vs) fun F3 H3 g3 Q kq s H0 C cl fp => he d vs F' H' (g2.trans gw) hvs s H0 C cl fp F3 H3 g3 Q kq) fun p xs es F3 H3 g3 h1 h2 h3 h4 h5 h6 => k p xs ds es F3 H3 (g2.trans g3) (g2.fresh h1) h2 h3 hrr h4 h5 h6)
end
end R
end
section
set_option Elab.async false
set_option linter.all false
set_option maxRecDepth 100000
set_option maxHeartbeats 4000000
/-! R: slices of lists with an end that is not known; extend; comprehensions over such slices; what is picked -/
namespace R
open PySem L2 Evl
section
variable {q : Option Addr} {X : Cx} {σ : L2.St} {F H F0 H0 : Hp} {a b c e tg elt iter : Expr} {es : List Expr} {pos p p2 p3 p' spos py : Pos} {x y : Str} {l : Addr} {vs : List V} {ds : List PyData} {T : TyP} {D : Ends} {s : Str} {ss : List Str}
theorem x_slLn {lo hi : Option Expr} {A B : Option Int → Prop} {p2 : Pos} (ha : XD q X a σ F H (.list ds)) (hlo : XO q X σ F H lo A) (hhi : XO q X σ F H hi B) : XP q X (.Subscript a (.Slice lo hi none p2) pos) σ F H (fun v F => ∃ i j, A i ∧ B j ∧ Ds F v (.list (cutL ds i j))) := fun F1 H1 g Q kq => by
  have fin : ∀ (v : V) (i j : Option Int) (F2 H2 : Hp), Grow q F1 H1 F2 H2 → Ds F2 v (.list ds) → A i → B j → rSlL X.K v i j H2 Q := by
    intro v i j F2 H2 g2 h hA hB
    obtain ⟨p, xs, rfl, h1, h2⟩ := ds_lst h
    exact ⟨p, xs, rfl, SqL.of (g2.s _ _ h1), fun t ht => kq _ _ _ (g2.trans (g2.new ht)) ⟨i, j, hA, hB, .lst upd_same ((h2.cut i j).mono (Ex.new (fresh_back g2.s ht)))⟩⟩
  cases hlo with
  | no =>
    cases hhi with
    | no => exact wE_of (pe_slice sl_list wE_ok po_none po_none) (ha F1 H1 g _ fun v F2 H2 g2 hv => fin v none none F2 H2 g2 hv rfl rfl)
    | yes h2 => exact wE_of (pe_slice sl_list wE_ok po_none (po_some wE_ok)) (ha F1 H1 g _ fun v F2 H2 g2 hv => h2 F2 H2 (g.trans g2) _ fun y F3 H3 g3 ⟨i, e, hi⟩ => ⟨i, e, fin v none (some i) F3 H3 (g2.trans g3) (hv.mono g3.f) rfl ⟨i, rfl, hi⟩⟩)
  | yes h1 =>
    cases hhi with
    | no => exact wE_of (pe_slice sl_list wE_ok (po_some wE_ok) po_none) (ha F1 H1 g _ fun v F2 H2 g2 hv => h1 F2 H2 (g.trans g2) _ fun y F3 H3 g3 ⟨i, e, hi⟩ => ⟨i, e, fin v (some i) none F3 H3 (g2.trans g3) (hv.mono g3.f) ⟨i, rfl, hi⟩ rfl⟩)
    | yes h2 => exact wE_of (pe_slice sl_list wE_ok (po_some wE_ok) (po_some wE_ok)) (ha F1 H1 g _ fun v F2 H2 g2 hv => h1 F2 H2 (g.trans g2) _ fun y F3 H3 g3 ⟨i, e, hi⟩ => ⟨i, e, h2 F3 H3 (g.trans (g2.trans g3)) _ fun y F4 H4 g4 ⟨j, e2, hj⟩ => ⟨j, e2, fin v (some i) (some j) F4 H4 ((g2.trans g3).trans g4) (hv.mono (g3.f.trans g4.f)) ⟨i, rfl, hi⟩ ⟨j, rfl, hj⟩⟩⟩)
/-- name.extend(e): e a new list -/
theorem s_extend {l : Addr} {i : Nat} {vs : List V} {apos cpos : Pos} (hN : X.N[i]? = some x) (hσ : σ[i]? = some (some (.ref l))) (hf : F l = none) (h0 : H0 l = none) (hH : H l = some (.lst vs)) (hz : vs.length + ds.length < 100000) (h : XM q X e σ F H ds) (g0 : Grow q F0 H0 F H)
    (k : ∀ ws F2 H2, Grow q F H F2 H2 → DsAll F2 ws ds → F2 l = none → D.nx σ (upd H2 l (.lst (vs ++ ws)))) (hv : Vis X.env.scope x := by first | exact Or.inl rfl | exact Or.inr (Or.inl rfl) | exact Or.inr (Or.inr rfl))
    (hsw : swapsWith (.Call (.Attribute (.Name x p) "extend" apos) [e] [] cpos) none pos.line X.env = pure false := by rfl)
    (hbase : attributeBase (.Name x p) "extend" X.env (eval (.Name x p) X.env) = eval (.Name x p) X.env := by rfl)
    (hfew : ((backTo cpos (starEach [e] X.env)).all (fun x => !x.1) && (backToKw cpos (keywordEach [] X.env)).all (fun x => x.1.isSome)
      && decide (([e] : List Expr).length + ([] : List Keyword).length + (if ([] : List Keyword).isEmpty then 0 else 1) < 30)) = true := by rfl)
    (hline : (apos.endLine == cpos.line) = true := by rfl) (hst : starEach [e] X.env = [(false, eval e X.env)] := by rfl)
    (hd : (x == ("__debug__" : Str)) = false := by decide) (hcd : (x == ("__classdict__" : Str)) = false := by decide) :
    wS X (.Expr (.Call (.Attribute (.Name x p) "extend" apos) [e] [] cpos) pos) D σ H :=
  wS_of (ps_expr (pe_bm PySem.F.plainAttrs_list PySem.F.slot_list_extend PySem.F.type_list_extend mt_extend (pe_var hN hv hd hcd) (pa_cons wE_ok pa_nil hst) hbase hfew hline hst (by rfl)) hsw)
    ⟨_, hσ, .inl ⟨rfl, _, SqL.of hH⟩, h F H g0.end _ fun b ws F2 H2 g h1 h2 h3 h4 => ⟨l, b, vs, ws, rfl, rfl, g.h _ _ (g0.a0.ne h0) hH, h3, Nat.le_of_lt (sz_lt (by rw [h4.length]; omega)), k ws F2 H2 g h4 (g.n l _ hf hH)⟩⟩
theorem c_niLM (i : Nat) (ha : XD q X a σ F H (.str s)) (hH : H l = some (.lst (ss.map .str))) (hq : q ≠ some l) (hN : X.N[i]? = some x := by rfl) (hσ : σ[i]? = some (some (.ref l)) := by rfl) (hv : Vis X.env.scope x := by first | exact Or.inl rfl | exact Or.inr (Or.inl rfl) | exact Or.inr (Or.inr rfl))
    (hd : (x == ("__debug__" : Str)) = false := by decide) (hcd : (x == ("__classdict__" : Str)) = false := by decide) (hm : behindInMarks .NotIn (.Name x p) = false := by rfl) : XCm q X .NotIn a (.Name x p) σ F H (!decide (s ∈ ss)) :=
  x_cmp op_notIn_seq mono_dt ha (x_var hN hσ (T := is (.ref l)) rfl mono_is hv hd hcd) (fun y z F1 H1 g hy hz Q k => by
    rw [ds_str hy, hz]
    refine ⟨l, _, rfl, .inl (SqL.of (g.h _ _ hq hH)), rfl, flat_strs ss, ?_⟩
    rw [inV_strs]
    exact k F1 H1 g.end) hm
section
variable {scope : Scope} {own : List (Str × Nat)} {gx : TG} {gm : PyData → PyData} {asg : L2.St → List V → L2.St} {esf : PyData → List PyData} {i : Nat} {RR : List PyData → Prop}
/-- y = [elt for tg in iter if c], iter and c not known -/
theorem s_lcNn (hy : X.N[i]? = some y) (hyl : X.env.scope.names.lookup y = some .local) (hsw : swapsWith (.ListComp elt [⟨tg, iter, [c], 0⟩] scope pos) (some (.Name y py)) spos.line X.env = pure true) (g0 : Grow q F0 H0 F H)
    (k : ∀ l vs ds sub F2 H2, Grow q F H F2 H2 → H l = none → F2 l = none → H2 l = some (.lst vs) → RR ds → List.Sublist sub ds → DsAll F2 vs (sub.map gm) → D.nx (σ.set i (some (.ref l))) H2)
    (L : LcOk X tg scope own iter gx) (hi : XIn q X tg iter σ F H RR) (hT : ∀ ds d, RR ds → d ∈ ds → Tgt gx asg d (esf d)) (hl : ∀ ds, RR ds → ds.length ≤ 100000) (hw : ∀ vs, wipe (asg (wipe σ (own.map (·.2))) vs) (own.map (·.2)) = wipe σ (own.map (·.2)))
    (hp : ∀ ds d vs F1 H1, RR ds → d ∈ ds → Grow q F H F1 H1 → DsAll F1 vs (esf d) → InB X scope fun Y => XTn q Y c (asg (wipe σ (own.map (·.2))) vs) F1 H1 (fun _ => True))
    (he : ∀ ds d vs F1 H1, RR ds → d ∈ ds → Grow q F H F1 H1 → DsAll F1 vs (esf d) → InB X scope fun Y => XD q Y elt (asg (wipe σ (own.map (·.2))) vs) F1 H1 (gm d)) :
    wS X (.Assign [.Name y py] (.ListComp elt [⟨tg, iter, [c], 0⟩] scope pos) spos) D σ H :=
  wS_of (ps_setLc (te := uE X scope elt) (tt := uT X scope c) L.calm L.nd hy hyl hsw wI_ok L.ok L.tg (fun s H C cl fp => pts_one ⟨fun pins s' σ' H' Q I h => (h s H C cl fp).run pins s' I⟩) (fun s H C cl fp => ⟨fun pins s' σ' H' Q I h => (h s H C cl fp).run pins s' I⟩) L.hs)
    (hi F H g0.end _ fun J ds F2 H2 g2 w hrr => lcDn (te := uE X scope elt) (tt := uT X scope c) (Q := fun x H1 => gName i x σ H1 D.nx) (gm := gm) g2 w (hl ds hrr) (fun d x F' H' hd gw hx R r => hT ds d hrr hd F' H' x _ _ gw.s hx fun vs hvs =>
      r _ (hw vs) (fun Q kq s H0 C cl fp => hp ds d vs F' H' hrr hd (g2.trans gw) hvs s H0 C cl fp F' H' gw.end Q fun b F3 H3 g3 _ => kq b F3 H3 g3) fun F3 H3 g3 Q kq s H0 C cl fp => he ds d vs F' H' hrr hd (g2.trans gw) hvs s H0 C cl fp F3 H3 g3 Q kq)
      fun p xs sub F3 H3 g3 h1 h2 h3 h4 h5 => k p xs ds sub F3 H3 (g2.trans g3) (g2.fresh h1) h2 h3 hrr h4 h5)
end
/-- two ways that meet -/
theorem ss_join {I : L2.St → Hp → Prop} {st : Stmt} {rest : List Stmt} (h : ∀ σ' H', I σ' H' → wSs X rest D σ' H') (k : (∀ σ' H', I σ' H' → wSs X rest D σ' H') → wS X st { D with nx := wSs X rest D } σ H) : wSs X (st :: rest) D σ H := ss_cons (k h)
/-- what is picked -/
def spPick : Sp := fun vs H Q _ => ∃ (a : Addr) (F : Hp) (v : V) (ds : List PyData), vs = [.ref a, v] ∧ Ex F H ∧ F a = none ∧ Alive (some a) H ∧ Ds F v (.list ds) ∧ ds ≠ [] ∧ ∀ v' F2 H2, Grow (some a) F H F2 H2 → tE (fun e => e ∈ ds) v' F2 → Q v' H2
theorem x_pick {kk j : Nat} {ps : List Str} (C : Cal X.prog X.w X.K X.mg X.base x kk ps spPick) (hr : Room j X.A) (hj : kk ≤ j) (ha : XP (some l) X a σ F H (is (.ref l))) (hc : XD (some l) X c σ F H (.list ds)) (hne : ds ≠ []) (hl : F l = none) (hg : Gl X x := by rfl)
    (hdb : (x == ("__debug__" : Str)) = false := by decide) (he : starEach [a, c] X.env = (false, eval a X.env) :: starEach [c] X.env := by rfl) (he2 : starEach [c] X.env = [(false, eval c X.env)] := by rfl) (hpl : (backTo pos (starEach [c] X.env)).any (·.1) = false := by rfl) :
    XP (some l) X (.Call (.Name x p) [a, c] [] pos) σ F H (tE fun e => e ∈ ds) := fun F1 H1 g Q kq => by
  obtain ⟨f, fd, G, hm, hk, hb⟩ := C
  exact wE_of (pe_call G (hr.mono hj) hg hm hk hb .nil pass0 (pa_cons wE_ok (pa_cons wE_ok pa_nil he2) he) hdb he hpl) (ha F1 H1 g _ fun v F2 H2 g2 hv => hc F2 H2 (g.trans g2) _ fun y F3 H3 g3 hy => by
    cases hv
    have gg := g.trans (g2.trans g3)
    obtain ⟨_, hq, _⟩ := gg.a0 l rfl
    exact ⟨l, F3, y, ds, rfl, g3.s, gg.n l _ hl hq, g3.a1, hy, hne, fun r F4 H4 g4 h0 => kq _ F4 H4 ((g2.trans g3).trans g4) h0⟩)
end
end R
end
section
set_option Elab.async false
set_option linter.all false
set_option maxRecDepth 100000
set_option maxHeartbeats 4000000
/-! R: dict(..) of a list of pairs -/
namespace R
open PySem PySem.Spec L2 PyProof.Rows Evl
theorem prs_of {X : Cx} {pins : List (Addr × Obj)} {σ : L2.St} {H : Hp} {s : Shared} (I : Inv X pins σ H s) : ∀ {ps : List Addr} {kvs : List (List Key × V)}, Paired (fun p (kv : List Key × V) => ∃ b, SqT X.K H p [.ref b, kv.2] ∧ H b = some (.tup (kv.1.map kV))) ps kvs →
    ∃ xs : List (List Key × Addr × Value), KT H kvs xs ∧ xs.length = ps.length ∧ ∀ (j : Nat) x, xs[j]? = some x → ∃ p, ps[j]? = some p ∧ IsTup s.heap p #[.ref x.2.1, x.2.2]
  | _, _, .nil => ⟨[], .nil, rfl, fun j q e => by simp at e⟩
  | _, _, .cons (a := p) (b := kv) h t => by
    obtain ⟨xs, r, hl, hp⟩ := prs_of I t
    obtain ⟨b, hq, hb⟩ := h
    obtain ⟨its, rv, ht, _⟩ := I.tuple hq
    obtain ⟨u, y, ei, ru, ry⟩ := vals2 rv
    cases ru
    subst ei
    refine ⟨(kv.1, b, y) :: xs, .cons ⟨rfl, hb, ry⟩ r, by rw [List.length_cons, List.length_cons, hl], fun j q e => ?_⟩
    cases j with
    | zero =>
      have e' : (kv.1, b, y) = q := Option.some.inj e
      subst e'
      exact ⟨p, rfl, ht⟩
    | succ j =>
      obtain ⟨p', e1, e2⟩ := hp j q (by simpa using e)
      exact ⟨p', by simpa using e1, e2⟩
theorem storedAll_nd {K : Type} [DecidableEq K] : ∀ (xs acc : List (K × Addr × Value)), ((acc ++ xs).map (·.1)).Nodup → storedAllH acc xs = acc ++ xs
  | [], acc, _ => (List.append_nil _).symm
  | x :: xs, acc, h => by
    have h2 : ((acc ++ [x] ++ xs).map (·.1)).Nodup := by rw [List.append_assoc]; exact h
    have hn : atKey acc x.1 = none := by
      unfold atKey
      rw [Option.map_eq_none_iff, List.find?_eq_none]
      intro y hy e
      rw [List.map_append, List.nodup_append] at h
      exact h.2.2 y.1 (List.mem_map_of_mem hy) x.1 (by simp) (of_decide_eq_true e)
    show storedAllH (storedH acc x.1 x.2.1 x.2.2) xs = _
    rw [storedH_new hn, storedAll_nd xs _ h2, List.append_assoc]; rfl
def rDictT (K : PySem.W.Frag) : List V → Hp → VK → Prop := fun xs H Q => ∃ (a : Addr) (ps : List Addr) (kvs : List (List Key × V)), xs = [.ref a] ∧ SqL K H a (ps.map V.ref) ∧ Paired (fun p (kv : List Key × V) => ∃ b, SqT K H p [.ref b, kv.2] ∧ H b = some (.tup (kv.1.map kV))) ps kvs ∧ (kvs.map (·.1)).Nodup ∧
    ∀ p, H p = none → Q (.ref p) (upd H p (.dT kvs))
theorem cr_dictT {X : Cx} (hcalm : X.calm = true) (hu : X.A.units + 8 < cLine) : CallR X (.type "dict") (rDictT X.K) := by
  intro pins s σ H xs us Q I r q
  obtain ⟨a, ps, kvs, ex, hq, hp, hnd, q⟩ := q
  subst ex
  obtain ⟨u, eu, rx⟩ := vals1 r
  subst eu
  cases rx
  obtain ⟨its, rv, pl, hz⟩ := I.list hq
  have ei := refs_at rv
  subst ei
  rw [List.length_map] at hz
  obtain ⟨xs, rel, hl, hpr⟩ := prs_of I hp
  obtain ⟨o, n, ho, hc, hd, hdat⟩ := pl
  have hkeys : xs.map (·.1) = kvs.map (·.1) := by
    clear hpr hl hp hnd q
    induction rel with
    | nil => rfl
    | cons h t ih => rw [List.map_cons, List.map_cons, ih, h.1]
  have hst : storedAllH [] xs = xs := by
    have := storedAll_nd xs [] (by rw [List.nil_append, hkeys]; exact hnd)
    rwa [List.nil_append] at this
  have hKH : ∀ x ∈ xs, H x.2.1 = some (.tup (x.1.map kV)) := by
    clear hpr hl hp hkeys hst hnd q
    induction rel with
    | nil => intro x hx; cases hx
    | cons h t ih =>
      intro x hx
      rcases List.mem_cons.mp hx with rfl | hx
      · rw [← h.1]; exact h.2.1
      · exact ih x hx
  refine call_dict_pairsH (knd := tupleKind (mixKind X.prog X.w)) (ps := xs) (PairArg.list a (ps.map Value.ref).toArray (fun j => ps[j]?.getD 0) (xs.map fun x => (Value.ref x.2.1, x.2.2))) (I.ok.hd hcalm)
    (show X.A.units + 1 + 1 < cLine by omega) ?_ ?_ ?_ ?_ ?_
  · refine ⟨⟨o, n, ho, hc, hd, hdat⟩, by simp [hl], fun j k v e => ?_⟩
    rw [List.getElem?_map] at e
    obtain ⟨x, hx, ee⟩ := Option.map_eq_some_iff.mp e
    obtain ⟨p, h1, h2⟩ := hpr j x hx
    cases ee
    refine ⟨by simp [h1], .inl ?_⟩
    simp only [h1, Option.getD_some]
    exact h2
  · refine ⟨by simp, fun i key v e => ?_⟩
    have e : (xs.map fun x => (Value.ref x.2.1, x.2.2))[i]? = some (key, v) := e
    rw [List.getElem?_map] at e
    obtain ⟨x, hx, ee⟩ := Option.map_eq_some_iff.mp e
    cases ee
    exact ⟨x.1, x.2.1, hx, rfl⟩
  · intro h' hk x hx
    obtain ⟨o', items, n', h1, h2⟩ := key_of I.hok (hKH x hx)
    exact ⟨o', items, n', hk _ _ (Nat.ne_of_lt (Heap.lt_size h1)) (by simp) h1, h2⟩
  · rw [List.length_map, hl]; exact hz
  · intro h' tk hd' hk
    rw [hst] at hd'
    obtain ⟨o', es, ep, h1, h2, h3, h4, _, h5⟩ := hd'
    have hm : (s.heap.objs.size == sysModules) = false := beq_eq_false_iff_ne.mpr (Nat.ne_of_gt I.big)
    have hlen : kvs.length ≤ sizeLine := by rw [Paired.length rel, hl]; exact hz
    have fr := I.hok.fresh (Nat.le_refl s.heap.objs.size)
    exact ⟨.ref s.heap.objs.size, upd H s.heap.objs.size (.dT kvs), I.laid (t' := tk) (fun b o e => hk b o (by simp) e) (Nat.le_refl _) (show ObjOk X.prog X.w _ _ _ (.dT kvs) from ⟨hlen, hm, xs, rel.keeps (fun b ys e => (upd_ne (ne_of_none e fr)).trans e), o', es, ep, h1, h2, h3, h4, h5⟩), rfl, q _ fr⟩
section
variable {q : Option Addr} {X : Cx} {σ : L2.St} {F H : Hp} {a : Expr} {pos p p2 p3 : Pos} {ps : KD} {ss : List Str} {dv : PyData}
theorem pair_up {K : PySem.W.Frag} {F H : Hp} (x : Ex F H) : ∀ {ps : KD} {vs : List V}, DsAll F vs (ps.map fun p => .tuple [keyD p.1, p.2]) → ∃ (as : List Addr) (kvs : List (List Key × V)), vs = as.map V.ref ∧ DTs F kvs ps ∧ Paired (fun p (kv : List Key × V) => ∃ b, SqT K H p [.ref b, kv.2] ∧ H b = some (.tup (kv.1.map kV))) as kvs
  | [], _, h => by cases h; exact ⟨[], [], rfl, .nil, .nil⟩
  | p :: ps, _, h => by
    cases h with
    | cons h t =>
      obtain ⟨as, kvs, rfl, hd, hp⟩ := pair_up x t
      obtain ⟨l, xs, rfl, h1, h2⟩ := ds_tup h
      obtain ⟨u, v, rfl, h3, h4⟩ := h2.two
      obtain ⟨b, rfl, h5⟩ := ds_key h3
      exact ⟨l :: as, (p.1, v) :: kvs, rfl, ⟨by rw [List.map_cons, List.map_cons, hd.keys], .cons h4 hd.vals⟩, .cons ⟨b, SqT.of (x _ _ h1), x _ _ h5⟩ hp⟩
/-- dict(pairs), keys that are tuples, each once -/
theorem xm_dictT (hc : X.calm = true) (hu : X.A.units + 8 < cLine) (B : Bn X.mg) (ha : XD q X a σ F H (.list (ps.map fun p => .tuple [keyD p.1, p.2]))) (hn : (ps.map (·.1)).Nodup) (hg : Gl X "dict" := by rfl) (he : starEach [a] X.env = [(false, eval a X.env)] := by rfl) :
    XMT q X (.Call (.Name "dict" p) [a] [] pos) σ F H ps := fun F1 H1 g Q kq =>
  wE_of (pe_callTy (cr_dictT hc hu) hg B.dict (by decide +kernel) (pa_cons wE_ok pa_nil he) (he := he)) (ha F1 H1 g _ fun v F2 H2 g2 hv => by
    obtain ⟨l, xs, rfl, h1, h2⟩ := ds_lst hv
    obtain ⟨as, kvs, rfl, h3, h4⟩ := pair_up (K := X.K) g2.s h2
    exact ⟨l, as, kvs, rfl, SqL.of (g2.s _ _ h1), h4, by rw [h3.keys]; exact hn, fun t ht => kq t kvs F2 _ (g2.trans (g2.mut ht)) (g2.fresh ht) (fresh_back g2.s ht) upd_same h3⟩)
theorem pair_upK {K : PySem.W.Frag} {F H : Hp} (x : Ex F H) : ∀ {ss : List Str} {vs : List V}, DsAll F vs (ss.map fun s => .tuple [.str s, dv]) → ∃ (as : List Addr) (kvs : List (Key × V)), vs = as.map V.ref ∧ kvs.map (·.1) = ss.map Sum.inr ∧ Paired (fun p (kv : Key × V) => SqT K H p [kV kv.1, kv.2]) as kvs
  | [], _, h => by cases h; exact ⟨[], [], rfl, rfl, .nil⟩
  | s :: ss, _, h => by
    cases h with
    | cons h t =>
      obtain ⟨as, kvs, rfl, hd, hp⟩ := pair_upK x t
      obtain ⟨l, xs, rfl, h1, h2⟩ := ds_tup h
      obtain ⟨u, v, rfl, h3, h4⟩ := h2.two
      cases h3
      exact ⟨l :: as, (.inr s, v) :: kvs, rfl, by rw [List.map_cons, List.map_cons, hd], .cons (SqT.of (x _ _ h1)) hp⟩
theorem merge_keys : ∀ (ss : List Str) (kvs acc : List (Key × V)) (f : List Str), kvs.map (·.1) = ss.map Sum.inr → acc.map (·.1) = f.map Sum.inr → (mergeK acc kvs).map (·.1) = (ss.foldl addS f).map Sum.inr
  | [], [], acc, f, _, h => h
  | s :: ss, kv :: kvs, acc, f, h, h2 => by
    rw [List.map_cons, List.map_cons] at h
    have h3 := List.cons.inj h
    show (mergeK (putK acc kv.1 kv.2) kvs).map (·.1) = _
    rw [h3.1]
    exact merge_keys ss kvs _ _ h3.2 (putK_keys acc s kv.2 f h2)
  | [], _ :: _, _, _, h, _ => by simp at h
  | _ :: _, [], _, _, h, _ => by simp at h
/-- list(dict(pairs)), keys that are texts: each once, by the first -/
theorem xm_listDict (hc : X.calm = true) (B : Bn X.mg) (ha : XD q X a σ F H (.list (ss.map fun s => .tuple [.str s, dv]))) (hg : Gl X "list" := by rfl) (hg2 : Gl X "dict" := by rfl) (he : starEach [a] X.env = [(false, eval a X.env)] := by rfl)
    (he2 : starEach [.Call (.Name "dict" p3) [a] [] p2] X.env = [(false, eval (.Call (.Name "dict" p3) [a] [] p2) X.env)] := by rfl) :
    XM q X (.Call (.Name "list" p) [.Call (.Name "dict" p3) [a] [] p2] [] pos) σ F H ((diff ss).map .str) := fun F1 H1 g Q kq =>
  wE_of (pe_callTy (call_listD hc) hg B.list (by decide +kernel) (pa_cons (pe_callTy (call_dictP hc) hg2 B.dict (by decide +kernel) (pa_cons wE_ok pa_nil he) (he := he)) pa_nil he2) (he := he2)) (ha F1 H1 g _ fun v F2 H2 g2 hv => by
    obtain ⟨l, xs, rfl, h1, h2⟩ := ds_lst hv
    obtain ⟨as, kvs, rfl, h3, h4⟩ := pair_upK (K := X.K) g2.s h2
    refine ⟨l, as, kvs, rfl, SqL.of (g2.s _ _ h1), h4, fun t ht => ⟨t, _, rfl, .inl upd_same, fun t2 ht2 => ?_⟩⟩
    have g3 := g2.mut (o := .dK (mergeK [] kvs)) ht
    refine kq t2 _ F2 _ (g2.trans (g3.trans (g3.mut ht2))) (g2.fresh (g3.fresh ht2)) (fresh_back g3.s ht2) upd_same ?_
    have hk := merge_keys ss kvs [] [] h3 rfl
    have : ((mergeK [] kvs).map fun kv => kV kv.1) = (diff ss).map V.str := by
      have := congrArg (List.map kV) hk
      rw [List.map_map, List.map_map] at this
      exact this
    rw [this]
    exact DsAll.of_strs _)
end
end R
end
section
set_option Elab.async false
set_option linter.all false
set_option maxRecDepth 100000
set_option maxHeartbeats 4000000
namespace R
open PySem L2 Evl
section
variable {q : Option Addr} {X : Cx} {σ : L2.St} {F H F0 H0 : Hp} {a b : Expr} {pos px py pt pt2 : Pos} {kt k2 : Nat} {x y : Str} {ds : List PyData} {U : TyP} {D : Ends}
/-- x, y = a, b where one of the names is a cell and a is a new list that may change -/
theorem s_par2M {i j : Nat} (hc : X.calm = true) (hN : X.N.Nodup) (hi : X.N[i]? = some x) (hj : X.N[j]? = some y) (hx : Loc X.env.scope x) (hy : Loc X.env.scope y) (g0 : Grow q F0 H0 F H) (mo2 : Mono U) (ha : XM q X a σ F H ds) (hb : XP q X b σ F H U)
    (k : ∀ l vs w F2 H2, Grow q F H F2 H2 → H l = none → F2 l = none → H2 l = some (.lst vs) → DsAll F2 vs ds → U w F2 → D.nx ((σ.set i (some (.ref l))).set j (some w)) H2)
    (hs : swapsWithSole [.Tuple [.Name x px, .Name y py] kt pt] (.Tuple [a, b] k2 pt2) pos.line X.env = pure false := by rfl) (hw : swappedStores [.Tuple [.Name x px, .Name y py] kt pt] (.Tuple [a, b] k2 pt2) X.env = pure none := by rfl)
    (h1 : starEach [a, b] X.env = (false, eval a X.env) :: starEach [b] X.env := by rfl) (h2 : starEach [b] X.env = [(false, eval b X.env)] := by rfl)
    (hf : X.fn x = true ∨ X.env.scope.names.lookup x = some .local := by first | exact .inl rfl | exact .inr rfl) (hf2 : X.fn y = true ∨ X.env.scope.names.lookup y = some .local := by first | exact .inl rfl | exact .inr rfl) :
    wS X (.Assign [.Tuple [.Name x px, .Name y py] kt pt] (.Tuple [a, b] k2 pt2) pos) D σ H :=
  wS_of (ps_asg (pe_tup (pa_cons wE_ok (pa_cons wE_ok pa_nil h2) h1)) (pg_tup hc (pgs_cons (pg_name hN hi hx hf) (pgs_cons (pg_name hN hj hy hf2) pgs_nil))) hs hw)
    (ha F H g0.end _ fun l vs F2 H2 g2 e1 e2 e3 e4 => hb F2 H2 g2 _ fun w F3 H3 g3 hw => ⟨by show 2 ≤ sizeLine; decide, fun p hp => by
      have hql : q ≠ some l := g0.a1.ne e1
      have h3 : H3 l = some (.lst vs) := g3.h _ _ hql e3
      have hne : l ≠ p := ne_of_none h3 hp
      exact ⟨p, [.ref l, w], rfl, SqT.of upd_same, rfl, .ref l, [w], rfl, w, [], rfl, rfl, k l vs w _ _ ((g2.trans g3).trans (g3.new hp)) e1 ((upd_ne hne).trans (g3.n _ _ e2 e3)) ((upd_ne hne).trans h3) (e4.mono (g3.f.trans (g3.new (o := .tup [.ref l, w]) hp).f)) (mo2 _ _ _ (g3.new (o := .tup [.ref l, w]) hp).f hw)⟩⟩)
end
end R
end
section
set_option Elab.async false
set_option linter.all false
set_option maxRecDepth 100000
set_option maxHeartbeats 4000000
namespace R
open PySem L2 Evl
/-- what is known, but the object at l -/
def del (F : Hp) (l : Addr) : Hp := fun a => if a = l then none else F a
theorem del_at {F : Hp} {l : Addr} : del F l l = none := by unfold del; rw [if_pos rfl]
theorem del_ex {F : Hp} {l : Addr} : Ex (del F l) F := fun a o h => by
  unfold del at h
  by_cases e : a = l
  · rw [if_pos e] at h; cases h
  · rw [if_neg e] at h; exact h
theorem Grow.del {F H F2 H2 : Hp} {l : Addr} {o : HO} (g : Grow none (upd F l o) H F2 H2) (hf : F l = none) : Grow none F H (del F2 l) H2 := by
  refine ⟨fun a u h => ?_, g.h, g.v, fun a u h => g.s a u (del_ex a u h), fun a u h1 h2 hm => ?_, fun _ h => (nomatch h), fun _ h => nomatch h⟩
  · have hne : a ≠ l := fun e => by rw [e, hf] at h; cases h
    unfold R.del
    rw [if_neg hne]
    exact g.f a u ((upd_ne hne).trans h)
  · by_cases e : a = l
    · rw [e]; exact del_at
    · unfold R.del
      rw [if_neg e]
      exact g.n0 a u ((upd_ne e).trans h1) h2 hm
/-- the callee drew from a list of ours -/
theorem Grow.sub {a : Addr} {F0 H0 F H F2 H2 : Hp} (g : Grow none F0 H0 F H) (h0 : H0 a = none) (g2 : Grow (some a) F H F2 H2) : Grow none F0 H0 F2 H2 := by
  refine ⟨g.f.trans g2.f, fun x o _ h => ?_, fun x o h => ?_, g2.s, fun x o h1 h2 hm => ?_, fun _ h => (nomatch h), fun _ h => nomatch h⟩
  · exact g2.h x o (fun e => by rw [← Option.some.inj e, h0] at h; cases h) (g.h x o (by simp) h)
  · exact g2.v x o (g.h x o (by simp) h)
  · exact g2.n0 x o (g.n0 x o h1 h2 hm) (g.h x o (by simp) h2) hm
section
variable {q : Option Addr} {X : Cx} {σ : L2.St} {F H F0 H0 : Hp} {a b c e tg : Expr} {es : List Expr} {pos p p2 : Pos} {x y : Str} {l : Addr} {vs : List V} {ds : List PyData} {T U : TyP} {D : Ends} {R1 R2 : Int → Prop} {ps : List Str} {kk j : Nat} {Ts : List TyP} {d : PyData}
theorem xm_ifexp {u : Bool} (hc : XT q X c σ F H u) (h1 : u = true → XM q X a σ F H ds) (h2 : u = false → XM q X b σ F H ds) : XM q X (.IfExp c a b pos) σ F H ds := fun F1 H1 g Q k =>
  wE_of (pe_ifExp wT_ok wE_ok wE_ok) (hc F1 H1 g _ fun F2 H2 g2 => by
    cases u with
    | true => exact h1 rfl F2 H2 (g.trans g2) Q fun p vs F3 H3 g3 e1 e2 e3 e4 => k p vs F3 H3 (g2.trans g3) (g2.fresh e1) e2 e3 e4
    | false => exact h2 rfl F2 H2 (g.trans g2) Q fun p vs F3 H3 g3 e1 e2 e3 e4 => k p vs F3 H3 (g2.trans g3) (g2.fresh e1) e2 e3 e4)
/-- tuple(name), a list that may change -/
theorem xd_tupleM (B : Bn X.mg) (i : Nat) (hH : H l = some (.lst vs)) (hd : DsAll F vs ds) (hq : q ≠ some l) (hN : X.N[i]? = some x := by rfl) (hσ : σ[i]? = some (some (.ref l)) := by rfl) (hv : Vis X.env.scope x := by first | exact Or.inl rfl | exact Or.inr (Or.inl rfl) | exact Or.inr (Or.inr rfl))
    (hdb : (x == ("__debug__" : Str)) = false := by decide) (hcd : (x == ("__classdict__" : Str)) = false := by decide) (hg : Gl X "tuple" := by rfl) : XD q X (.Call (.Name "tuple" p) [.Name x p2] [] pos) σ F H (.tuple ds) := fun F1 H1 g Q kq =>
  wE_of (pe_callTy call_tuple_of hg B.tuple (by decide +kernel) (pa_cons (pe_var hN hv hdb hcd) pa_nil (by rfl)) (he := by rfl)) ⟨_, hσ, l, vs, rfl, .inl ⟨SqL.of (g.h _ _ hq hH), fun t ht => kq _ _ _ (g.end.new ht) (.tup upd_same ((hd.mono g.f).mono (Ex.new (fresh_back g.s ht))))⟩⟩
/-- name.pop(i) -/
theorem s_popI {i : Nat} {ap1 cp1 : Pos} (hN : X.N[i]? = some x) (hσ : σ[i]? = some (some (.ref l))) (hf : F l = none) (h0 : H0 l = none) (hH : H l = some (.lst vs)) (ha : XP q X a σ F H (tZ R1)) (g0 : Grow q F0 H0 F H) (hR : ∀ j, R1 j → 0 ≤ j ∧ j < vs.length) (hz : vs.length < 100000)
    (k : ∀ (n : Nat) F2 H2, Grow q F H F2 H2 → n < vs.length → F2 l = none → D.nx σ (upd H2 l (.lst (vs.eraseIdx n)))) (hv : Vis X.env.scope x := by first | exact Or.inl rfl | exact Or.inr (Or.inl rfl) | exact Or.inr (Or.inr rfl))
    (hsw : swapsWith (.Call (.Attribute (.Name x p) "pop" ap1) [a] [] cp1) none pos.line X.env = pure false := by rfl)
    (hbase : attributeBase (.Name x p) "pop" X.env (eval (.Name x p) X.env) = eval (.Name x p) X.env := by rfl)
    (hfew : ((backTo cp1 (starEach [a] X.env)).all (fun x => !x.1) && (backToKw cp1 (keywordEach [] X.env)).all (fun x => x.1.isSome)
      && decide (([a] : List Expr).length + ([] : List Keyword).length + (if ([] : List Keyword).isEmpty then 0 else 1) < 30)) = true := by rfl)
    (hline : (ap1.endLine == cp1.line) = true := by rfl) (hst : starEach [a] X.env = [(false, eval a X.env)] := by rfl)
    (hd : (x == ("__debug__" : Str)) = false := by decide) (hcd : (x == ("__classdict__" : Str)) = false := by decide) :
    wS X (.Expr (.Call (.Attribute (.Name x p) "pop" ap1) [a] [] cp1) pos) D σ H :=
  wS_of (ps_expr (pe_bm PySem.F.plainAttrs_list PySem.F.slot_list_pop PySem.F.type_list_pop mt_popAt (pe_var hN hv hd hcd) (pa_cons wE_ok pa_nil hst) hbase hfew hline hst (by rfl)) hsw)
    ⟨_, hσ, .inl ⟨rfl, _, SqL.of hH⟩, ha F H g0.end _ fun z F2 H2 g2 ⟨r, ez, hr⟩ => by
      subst ez
      obtain ⟨r0, r1⟩ := hR r hr
      obtain ⟨n, rfl⟩ : ∃ n : Nat, r = (n : Int) := ⟨r.toNat, by omega⟩
      have hn : n < vs.length := by omega
      have e1 := g2.h l _ (g0.a0.ne h0) hH
      have hw : (vs.length : Int) < 100000 := by omega
      refine ⟨l, vs, n, n, vs[n], rfl, rfl, e1, by omega, by omega, ?_, by simp [hn], k n F2 H2 g2 hn (g2.n l _ hf hH)⟩
      unfold seqIndex?
      simp [hn]
      rw [if_neg (by omega : ¬ (n : Int) < 0)]
      exact ⟨⟨by omega, by omega⟩, by omega⟩⟩
theorem xz_max2 (hc : X.calm = true) (hm : X.mg "max" = none) (ha : XP q X a σ F H (tZ R1)) (hb : XP q X b σ F H (tZ R2)) (hg : Gl X "max" := by rfl) (he : starEach [a, b] X.env = (false, eval a X.env) :: starEach [b] X.env := by rfl) (he2 : starEach [b] X.env = [(false, eval b X.env)] := by rfl) (hpl : (backTo pos (starEach [b] X.env)).any (·.1) = false := by rfl) :
    XP q X (.Call (.Name "max" p) [a, b] [] pos) σ F H (tZ fun z => ∃ i j, z = (if j > i then j else i) ∧ R1 i ∧ R2 j) :=
  x_callB (call_max2 hc) hm (by decide +kernel) (xa_cons mono_tZ ha (xa_cons mono_tZ hb xa_nil he2) he) (fun vs F1 H1 g h Q k => by
    obtain ⟨v, w, rfl, ⟨i, rfl, hi⟩, ⟨j, rfl, hj⟩⟩ := h.two
    exact ⟨i, j, rfl, k _ F1 H1 g.end ⟨_, rfl, i, j, rfl, hi, hj⟩⟩) hg (he := he) (hpl := hpl)
theorem xz_min2 (hc : X.calm = true) (hm : X.mg "min" = none) (ha : XP q X a σ F H (tZ R1)) (hb : XP q X b σ F H (tZ R2)) (hg : Gl X "min" := by rfl) (he : starEach [a, b] X.env = (false, eval a X.env) :: starEach [b] X.env := by rfl) (he2 : starEach [b] X.env = [(false, eval b X.env)] := by rfl) (hpl : (backTo pos (starEach [b] X.env)).any (·.1) = false := by rfl) :
    XP q X (.Call (.Name "min" p) [a, b] [] pos) σ F H (tZ fun z => ∃ i j, z = (if j < i then j else i) ∧ R1 i ∧ R2 j) :=
  x_callB (call_min2 hc) hm (by decide +kernel) (xa_cons mono_tZ ha (xa_cons mono_tZ hb xa_nil he2) he) (fun vs F1 H1 g h Q k => by
    obtain ⟨v, w, rfl, ⟨i, rfl, hi⟩, ⟨j, rfl, hj⟩⟩ := h.two
    exact ⟨i, j, rfl, k _ F1 H1 g.end ⟨_, rfl, i, j, rfl, hi, hj⟩⟩) hg (he := he) (hpl := hpl)
/-- range(0, e, 4) -/
theorem xin_rng4 (B : Bn X.mg) (ha : XD q X a σ F H (.int 0)) (hb : XP q X b σ F H (tZ R1)) (hcc : XD q X c σ F H (.int 4)) (hn : ∀ i, R1 i → 1 ≤ i ∧ i ≤ 24) (hg : Gl X "range" := by rfl)
    (he : starEach [a, b, c] X.env = (false, eval a X.env) :: starEach [b, c] X.env := by rfl) (he2 : starEach [b, c] X.env = (false, eval b X.env) :: starEach [c] X.env := by rfl) (he3 : starEach [c] X.env = [(false, eval c X.env)] := by rfl) (hpl : (backTo pos (starEach [b, c] X.env)).any (·.1) = false := by rfl) :
    XIn q X tg (.Call (.Name "range" p) [a, b, c] [] pos) σ F H (fun ds => ∃ n : Nat, n ≤ 6 ∧ ds = (List.range n).map fun i => .int ((i : Nat) * 4)) := fun F1 H1 g R r =>
  wI_of (pi_range3 hg B.range (pa_cons wE_ok (pa_cons wE_ok (pa_cons wE_ok pa_nil he3) he2) he) he hpl) (ha F1 H1 g _ fun v0 F2 H2 g2 h0 => hb F2 H2 (g.trans g2) _ fun v1 F3 H3 g3 ⟨z, e1, hz⟩ => hcc F3 H3 ((g.trans g2).trans g3) _ fun v2 F4 H4 g4 h4 => by
    rw [ds_int h0, e1, ds_int h4]
    obtain ⟨z1, z2⟩ := hn z hz
    obtain ⟨zn, rfl⟩ : ∃ zn : Nat, z = (zn : Int) := ⟨z.toNat, by omega⟩
    obtain ⟨n, hn6, hR⟩ : ∃ n : Nat, n ≤ 6 ∧ RgC 0 zn 4 n := by
      have h1 : 1 ≤ zn := by omega
      have h2 : zn ≤ 24 := by omega
      clear hz e1 z1 z2
      have : ∀ m : Nat, m < 24 → (m + 4) / 4 ≤ 6 ∧ RgC 0 ((m + 1 : Nat) : Int) 4 ((m + 4) / 4) := by
        intro m hm
        unfold RgC
        revert m
        decide +kernel
      have h := this (zn - 1) (by omega)
      rw [show zn - 1 + 1 = zn by omega] at h
      exact ⟨_, h.1, h.2⟩
    refine ⟨0, zn, 4, n, rfl, hR, r _ _ F4 H4 ((g2.trans g3).trans g4) ?_ ⟨n, hn6, rfl⟩⟩
    refine ⟨fun i H hi _ => ?_, fun H _ => ?_, fun i H x H' F' hi e1 e2 y => ?_⟩
    · simp at hi; exact hi
    · show n ≤ _; simp
    · obtain ⟨rfl, rfl⟩ := y
      refine ⟨F', .int ((i : Nat) * 4), Grow.start e2, ?_, by rw [show (0 : Int) + (i : Nat) * 4 = (i : Nat) * 4 from Int.zero_add _]; exact .int _⟩
      simp at hi
      simp [hi])
end
end R
end
section
set_option Elab.async false
set_option linter.all false
set_option maxRecDepth 100000
set_option maxHeartbeats 4000000
/-! R: dicts with text keys; a stored key put again; stores through any expression -/
namespace R
open PySem L2 Evl
section
variable {κ : Type} [DecidableEq κ]
/-- the data of a dict -/
structure DGs (F : Hp) (kvs : List (κ × V)) (ps : List (κ × PyData)) : Prop where
  keys : kvs.map (·.1) = ps.map (·.1)
  vals : DsAll F (kvs.map (·.2)) (ps.map (·.2))
def putD (ps : List (κ × PyData)) (k : κ) (d : PyData) : List (κ × PyData) :=
  if (ps.any fun kv => decide (kv.1 = k)) = true then ps.map (fun kv => if kv.1 = k then (kv.1, d) else kv) else ps ++ [(k, d)]
def getD (ps : List (κ × PyData)) (k : κ) : Option PyData := (ps.find? fun p => decide (p.1 = k)).map (·.2)
theorem DGs.nil {F : Hp} : DGs F ([] : List (κ × V)) [] := ⟨rfl, .nil⟩
theorem DGs.mono {F F' : Hp} {kvs : List (κ × V)} {ps : List (κ × PyData)} (e : Ex F F') (h : DGs F kvs ps) : DGs F' kvs ps := ⟨h.keys, h.vals.mono e⟩
theorem DGs.len {F : Hp} {kvs : List (κ × V)} {ps : List (κ × PyData)} (h : DGs F kvs ps) : kvs.length = ps.length := by
  have := congrArg List.length h.keys
  rwa [List.length_map, List.length_map] at this
theorem DGs.get {F : Hp} : ∀ {kvs : List (κ × V)} {ps : List (κ × PyData)} {k : κ} {d : PyData}, kvs.map (·.1) = ps.map (·.1) → DsAll F (kvs.map (·.2)) (ps.map (·.2)) → getD ps k = some d → ∃ v, valV kvs k = some v ∧ Ds F v d
  | _, [], _, _, _, _, e => by cases e
  | [], _ :: _, _, _, h, _, _ => by simp at h
  | kv :: kvs, p :: ps, k, d, h, hv, e => by
    rw [List.map_cons, List.map_cons] at h
    obtain ⟨h1, h2⟩ := List.cons.inj h
    cases hv with
    | cons hx hy =>
      by_cases q : p.1 = k
      · have : getD (p :: ps) k = some p.2 := by simp [getD, List.find?_cons, q]
        rw [this] at e
        cases e
        exact ⟨kv.2, valV_pos (h1.trans q), hx⟩
      · have : getD (p :: ps) k = getD ps k := by simp [getD, List.find?_cons, q]
        rw [this] at e
        obtain ⟨v, e1, e2⟩ := DGs.get h2 hy e
        exact ⟨v, by rw [valV_neg (fun z => q (h1.symm.trans z))]; exact e1, e2⟩
theorem DGs.any {F : Hp} {kvs : List (κ × V)} {ps : List (κ × PyData)} (h : DGs F kvs ps) (k : κ) : (kvs.any fun kv => decide (kv.1 = k)) = ps.any fun kv => decide (kv.1 = k) := by
  have e1 : (kvs.any fun kv => decide (kv.1 = k)) = (kvs.map (·.1)).any fun x => decide (x = k) := by rw [List.any_map]; rfl
  have e2 : (ps.any fun kv => decide (kv.1 = k)) = (ps.map (·.1)).any fun x => decide (x = k) := by rw [List.any_map]; rfl
  rw [e1, e2, h.keys]
theorem DGs.repl {F : Hp} {k : κ} {v : V} {d : PyData} (hd : Ds F v d) : ∀ {kvs : List (κ × V)} {ps : List (κ × PyData)}, kvs.map (·.1) = ps.map (·.1) → DsAll F (kvs.map (·.2)) (ps.map (·.2)) → DGs F (kvs.map fun kv => if kv.1 = k then (kv.1, v) else kv) (ps.map fun kv => if kv.1 = k then (kv.1, d) else kv)
  | [], [], _, _ => .nil
  | [], _ :: _, h, _ => by simp at h
  | _ :: _, [], h, _ => by simp at h
  | kv :: kvs, p :: ps, h, hv => by
    rw [List.map_cons, List.map_cons] at h
    obtain ⟨h1, h2⟩ := List.cons.inj h
    cases hv with
    | cons hx hy =>
      have ih := DGs.repl (k := k) hd h2 hy
      refine ⟨?_, ?_⟩
      · rw [List.map_cons, List.map_cons, List.map_cons, List.map_cons, ih.keys]
        congr 1
        by_cases q : kv.1 = k
        · rw [if_pos q, if_pos (h1.symm.trans q)]; exact h1
        · rw [if_neg q, if_neg (fun z => q (h1.trans z))]; exact h1
      · rw [List.map_cons, List.map_cons, List.map_cons, List.map_cons]
        refine .cons ?_ ih.vals
        by_cases q : kv.1 = k
        · rw [if_pos q, if_pos (h1.symm.trans q)]; exact hd
        · rw [if_neg q, if_neg (fun z => q (h1.trans z))]; exact hx
theorem DGs.put {F : Hp} {kvs : List (κ × V)} {ps : List (κ × PyData)} {k : κ} {v : V} {d : PyData} (h : DGs F kvs ps) (hd : Ds F v d) : DGs F (putK kvs k v) (putD ps k d) := by
  unfold putK putD
  rw [h.any]
  by_cases q : (ps.any fun kv => decide (kv.1 = k)) = true
  · rw [if_pos q, if_pos q]; exact DGs.repl hd h.keys h.vals
  · rw [if_neg q, if_neg q]
    exact ⟨by rw [List.map_append, List.map_append, h.keys]; rfl, by rw [List.map_append, List.map_append]; exact h.vals.append (.cons hd .nil)⟩
end
section
variable {q : Option Addr} {X : Cx} {σ : L2.St} {F H F0 H0 : Hp} {a b e : Expr} {pos p p' : Pos} {d l : Addr} {T : TyP} {D : Ends} {s : Str} {dv : PyData} {kvK : List (Key × V)} {psK : List (Key × PyData)} {kvT : List (List Key × V)} {psT : List (List Key × PyData)} {k : List Key}
theorem Alive.neK {H : Hp} {a : Addr} {kvs : List (Key × V)} (al : Alive q H) (h : H a = some (.dK kvs)) : q ≠ some a := fun e => by
  obtain ⟨_, h', _⟩ := al a e
  rw [h] at h'; cases h'
/-- a[s], a dict with text keys -/
theorem xd_getK (hu : X.A.units + 1 < cLine) (ha : XP q X a σ F H (is (.ref d))) (hb : XD q X b σ F H (.str s)) (hd : H d = some (.dK kvK)) (hD : DGs F kvK psK) (hv : getD psK (.inr s) = some dv) (hs : NoSl b := by exact fun _ _ => rfl) : XD q X (.Subscript a b pos) σ F H dv := fun F1 H1 g Q kq =>
  wE_of (pe_dget hu wE_ok wE_ok hs) (ha F1 H1 g _ fun v F2 H2 g2 ev => hb F2 H2 (g.trans g2) _ fun y F3 H3 g3 hy => by
    subst ev
    have gg := g.trans (g2.trans g3)
    obtain ⟨v, e1, e2⟩ := DGs.get hD.keys hD.vals hv
    rw [ds_str hy]
    exact ⟨d, v, rfl, e1 ▸ DGet.k (k := .inr s) (gg.h d _ (g.a0.neK hd) hd), kq v F3 H3 (g2.trans g3) (e2.mono gg.f)⟩)
/-- a[k], tuple keys -/
theorem xd_getT (hu : X.A.units + 1 < cLine) (ha : XP q X a σ F H (is (.ref d))) (hb : XD q X b σ F H (keyD k)) (hd : H d = some (.dT kvT)) (hD : DGs F kvT psT) (hv : getD psT k = some dv) (hs : NoSl b := by exact fun _ _ => rfl) : XD q X (.Subscript a b pos) σ F H dv := fun F1 H1 g Q kq =>
  wE_of (pe_dget hu wE_ok wE_ok hs) (ha F1 H1 g _ fun v F2 H2 g2 ev => hb F2 H2 (g.trans g2) _ fun y F3 H3 g3 hy => by
    subst ev
    have gg := g.trans (g2.trans g3)
    obtain ⟨v, e1, e2⟩ := DGs.get hD.keys hD.vals hv
    obtain ⟨b, rfl, hb'⟩ := ds_key hy
    exact ⟨d, v, rfl, e1 ▸ DGet.t (gg.h d _ (g.a0.neT hd) hd) (g3.s _ _ hb'), kq v F3 H3 (g2.trans g3) (e2.mono gg.f)⟩)
/-- a[s] = value -/
theorem s_putK (hu : X.A.units + 1 < cLine) (ha : ∀ F2 H2, Grow q F H F2 H2 → XP q X a σ F2 H2 (is (.ref d))) (hd : H d = some (.dK kvK)) (hz : kvK.length < 100000) (hv : XP q X e σ F H T) (mo : Mono T) (hb : ∀ F2 H2, Grow q F H F2 H2 → XD q X b σ F2 H2 (.str s)) (g0 : Grow q F0 H0 F H)
    (kn : ∀ v F2 H2, Grow q F H F2 H2 → T v F2 → D.nx σ (upd H2 d (.dK (putK kvK (.inr s) v)))) (hs : swapsWith e (some (.Subscript a b p')) pos.line X.env = pure false := by rfl) : wS X (.Assign [.Subscript a b p'] e pos) D σ H :=
  wS_of (ps_dput hu wE_ok wE_ok wE_ok hs) (hv F H g0.end _ fun v F2 H2 g2 ht => ha F2 H2 g2 F2 H2 g2.end _ fun u F3 H3 g3 hu' => hb F3 H3 (g2.trans g3) F3 H3 g3.end _ fun y F4 H4 g4 hy => by
    subst hu'
    have gg := (g2.trans g3).trans g4
    rw [ds_str hy]
    exact ⟨d, _, rfl, DPut.k (k := .inr s) (gg.h d _ (g2.a0.neK hd) hd) (sz_lt hz), kn v F4 H4 gg (mo _ _ _ (g3.f.trans g4.f) ht)⟩)
/-- a[k] = value, tuple keys -/
theorem s_putT (hu : X.A.units + 1 < cLine) (ha : ∀ F2 H2, Grow q F H F2 H2 → XP q X a σ F2 H2 (is (.ref d))) (hd : H d = some (.dT kvT)) (hz : kvT.length < 100000) (hv : XP q X e σ F H T) (mo : Mono T) (hb : ∀ F2 H2, Grow q F H F2 H2 → XD q X b σ F2 H2 (keyD k)) (g0 : Grow q F0 H0 F H)
    (kn : ∀ v F2 H2, Grow q F H F2 H2 → T v F2 → D.nx σ (upd H2 d (.dT (putK kvT k v)))) (hs : swapsWith e (some (.Subscript a b p')) pos.line X.env = pure false := by rfl) : wS X (.Assign [.Subscript a b p'] e pos) D σ H :=
  wS_of (ps_dput hu wE_ok wE_ok wE_ok hs) (hv F H g0.end _ fun v F2 H2 g2 ht => ha F2 H2 g2 F2 H2 g2.end _ fun u F3 H3 g3 hu' => hb F3 H3 (g2.trans g3) F3 H3 g3.end _ fun y F4 H4 g4 hy => by
    subst hu'
    have gg := (g2.trans g3).trans g4
    obtain ⟨b, rfl, hb'⟩ := ds_key hy
    exact ⟨d, _, rfl, DPut.t (gg.h d _ (g2.a0.neT hd) hd) (g4.s _ _ hb') (sz_lt hz), kn v F4 H4 gg (mo _ _ _ (g3.f.trans g4.f) ht)⟩)
end
end R
end
section
set_option Elab.async false
set_option linter.all false
set_option maxRecDepth 100000
set_option maxHeartbeats 4000000
/-! R: {s: v for s in ..} with text keys; making an object of which the heap is told -/
namespace R
open PySem L2 Evl
def XMK (q : Option Addr) (X : Cx) (e : Expr) (σ : L2.St) (F H : Hp) (ps : List (Key × PyData)) : Prop := ∀ F1 H1, Grow q F H F1 H1 → ∀ Q : VK, (∀ l kvs F2 H2, Grow q F1 H1 F2 H2 → H1 l = none → F2 l = none → H2 l = some (.dK kvs) → DGs F2 kvs ps → Q (.ref l) H2) → wE X e σ H1 Q
section
variable {q : Option Addr} {X : Cx} {σ : L2.St} {F H F0 H0 : Hp} {kx vx tg iter : Expr} {scope : Scope} {own : List (Str × Nat)} {gx : TG} {asg : L2.St → List V → L2.St} {ss : List Str} {pos p p2 : Pos} {vf : Str → PyData}
theorem xm_dk (L : LcOk X tg scope own iter gx) (hi : XI q X tg iter σ F H (ss.map .str)) (hT : ∀ s : Str, Tgt gx asg (.str s) [.str s]) (hl : ss.length ≤ 1000) (hnd : ss.Nodup) (hw : ∀ vs, wipe (asg (wipe σ (own.map (·.2))) vs) (own.map (·.2)) = wipe σ (own.map (·.2)))
    (hk : ∀ (s : Str) vs F1 H1, Grow q F H F1 H1 → DsAll F1 vs [.str s] → InB X scope fun Y => XD q Y kx (asg (wipe σ (own.map (·.2))) vs) F1 H1 (.str s))
    (he : ∀ (s : Str) vs F1 H1, Grow q F H F1 H1 → DsAll F1 vs [.str s] → InB X scope fun Y => XD q Y vx (asg (wipe σ (own.map (·.2))) vs) F1 H1 (vf s)) :
    XMK q X (.DictComp kx vx [⟨tg, iter, [], 0⟩] scope p2) σ F H (ss.map fun s => (Sum.inr s, vf s)) := fun F1 H1 g Q kq => by
  refine wE_of (pe_dc (tk := uE X scope kx) (tv := uE X scope vx) (tt := tYes) L.calm L.nd wI_ok L.ok L.tg (fun s H C cl fp => pts_nil) (fun s H C cl fp => ⟨fun pins s' σ' H' Q I h => (h s H C cl fp).run pins s' I⟩) (fun s H C cl fp => ⟨fun pins s' σ' H' Q I h => (h s H C cl fp).run pins s' I⟩) L.hs) ?_
  refine hi F1 H1 g _ fun J F2 H2 g2 w D hD => ?_
  let Pv : Nat → Hp → Prop := fun i H' => ∃ F' kvs, Grow q F2 H2 F' H' ∧ F' D = none ∧ H' D = some (.dK kvs) ∧ DGs F' kvs ((ss.take i).map fun s => (Sum.inr s, vf s))
  refine ⟨fun i m H => m = ss.length - i ∧ i ≤ ss.length ∧ Pv i H, ⟨ss.length, by simp, Nat.zero_le _, F2, [], g2.mut hD, fresh_back g2.s hD, upd_same, .nil⟩, ?_⟩
  rintro i m H ⟨rfl, hi', F', kvs, gw, hFD, hHD, hks⟩
  by_cases hlt : i < ss.length
  · refine .inr ⟨w.goes i H (by rw [List.length_map]; exact hlt) (gw.f.trans gw.s), Pv (i + 1), fun H' p' => ⟨ss.length - (i + 1), by omega, rfl, hlt, p'⟩, fun x H' y => ?_⟩
    obtain ⟨F'', d, g3, hd, hx⟩ := w.yields i H x H' F' (by rw [List.length_map]; exact hlt) gw.f gw.s y
    rw [List.getElem?_map] at hd
    obtain ⟨s, hs, rfl⟩ := Option.map_eq_some_iff.mp hd
    have hqD : q ≠ some D := g2.a1.ne hD
    have g4 := gw.trans (g3.weak gw.a1)
    have hF''D : F'' D = none := g3.nK D _ hFD hHD
    have hH'D := g3.h D _ (by simp) hHD
    refine hT s F'' H' x _ _ g4.s hx fun vs hvs => ⟨hw vs, ?_⟩
    simp only [tYes, if_true]
    refine fun s0 H0 C cl fp => hk s vs F'' H' (g.trans (g2.trans g4)) hvs s0 H0 C cl fp F'' H' g4.end _ fun v F3 H3 g5 hv s1 H1' C1 cl1 fp1 => he s vs F'' H' (g.trans (g2.trans g4)) hvs s1 H1' C1 cl1 fp1 F3 H3 g5 _ fun z F4 H4 g6 hz => ?_
    have ev : v = kV (.inr s) := ds_str hv
    have hF4D : F4 D = none := g6.nK D _ (g5.nK D _ hF''D hH'D) (g5.h D _ hqD hH'D)
    have hH4D := g6.h D _ hqD (g5.h D _ hqD hH'D)
    have gg := (g4.trans g5).trans g6
    have hlen : kvs.length ≤ i := by
      rw [hks.len, List.length_map, List.length_take]; omega
    have hks4 := hks.mono (g3.f.trans (g5.f.trans g6.f))
    have hout : s ∉ ss.take i := fun hm => by
      have h1 := List.take_append_drop i ss
      rw [← h1] at hnd
      refine (List.nodup_append.mp hnd).2.2 s hm s ?_ rfl
      refine List.mem_of_getElem? (i := 0) ?_
      rw [List.getElem?_drop]; exact hs
    have hput : putK kvs (.inr s) z = kvs ++ [(.inr s, z)] := by
      unfold putK
      rw [if_neg]
      rw [hks.any]
      intro h
      obtain ⟨p, hp, e⟩ := List.any_eq_true.mp h
      obtain ⟨s', hs', rfl⟩ := List.mem_map.mp hp
      have e := of_decide_eq_true e
      cases e
      exact hout hs'
    refine ⟨kvs, .inr s, ev, hH4D, sz_lt (by omega), F4, _, gg.put hD hF4D, hF4D, upd_same, ?_⟩
    rw [hput, List.take_succ, hs, List.map_append]
    exact ⟨by rw [List.map_append, List.map_append, hks.keys]; rfl, by rw [List.map_append, List.map_append]; exact hks4.vals.append (.cons hz .nil)⟩
  · have e : i = ss.length := by omega
    subst e
    rw [List.take_length] at hks
    exact .inl ⟨w.stops H (gw.f.trans gw.s) |> fun h => by rw [List.length_map] at h; exact h, kq D kvs F' H (g2.trans gw) (g2.fresh hD) hFD hHD hks⟩
end
/-- what a making promises, the heap told -/
def spMakeH (C : Addr) (P : List V → Hp → Hp → (Addr → Hp → Hp → Prop) → Prop) : Sp := fun vs H Q _ => ∃ F a dx Hx ws T, vs = .ref a :: ws ∧ Hx a = none ∧ H = upd Hx a (.ins C dx []) ∧ Hx dx = some (.own a) ∧ Ex F Hx ∧ P ws F Hx T ∧
  ∀ F2 H2 fs, Grow none F Hx F2 H2 → F2 a = none → H2 a = some (.ins C dx fs) → T a (upd F2 a (.ins C dx fs)) H2 → Q .non H2
section
variable {q : Option Addr} {X : Cx} {σ : L2.St} {F H F0 H0 : Hp} {e : Expr} {es : List Expr} {pos p p' : Pos} {x y : Str} {ps : List Str} {kk j : Nat} {C : Addr} {D : Ends}
/-- name = C(..): an object of which the heap is told -/
theorem s_makeH {i : Nat} {P : List V → Hp → Hp → (Addr → Hp → Hp → Prop) → Prop} {W : Hp → Addr → Hp → Hp → Prop} {Ts : List TyP} (hN : X.N.Nodup) (hi : X.N[i]? = some y) (hMk : ∃ f fd, FnOk X.prog X.w X.K X.mg X.base CX0 kk f fd ps (spMakeH C P) ∧ Mk X.K C f ∧ Binds X.K fd ps []) (hm : X.mg x = some (.ref C)) (hr : Room (j + 1) X.A) (hj : kk ≤ j) (ha : XA q X (e :: es) σ F H Ts)
    (hs : ∀ vs F1 H1, Grow q F H F1 H1 → AllT Ts vs F1 → ∀ Hx, Ex H1 Hx → P vs F1 Hx (W Hx)) (g0 : Grow q F0 H0 F H) (k : ∀ a F2 H2 Hx, Grow q F H F2 H2 → (∀ b, Hx b = none → H b = none) → H a = none → W Hx a F2 H2 → D.nx (σ.set i (some (.ref a))) H2)
    (hg : Gl X x := by rfl) (hdb : (x == ("__debug__" : Str)) = false := by decide) (he : starEach (e :: es) X.env = (false, eval e X.env) :: starEach es X.env := by rfl)
    (hpl : (backTo pos (starEach es X.env)).any (·.1) = false := by rfl) (hx : Loc X.env.scope y := by first | exact Or.inl rfl | exact Or.inr rfl) {sp : Pos} (hsw : swapsWith (.Call (.Name x p) (e :: es) [] pos) (some (.Name y p')) sp.line X.env = pure false := by rfl) (hf : X.fn y = true ∨ X.env.scope.names.lookup y = some .local := by first | exact .inl rfl | exact .inr rfl) :
    wS X (.Assign [.Name y p'] (.Call (.Name x p) (e :: es) [] pos) sp) D σ H := by
  obtain ⟨f, fd, G, hM, hb⟩ := hMk
  refine wS_of (ps_set hN hi hx (pe_make hM G (hr.mono (by omega)) hg hm hb .nil pass0 wA_ok hdb he hpl) hsw hf) (ha F H g0.end _ fun vs F2 H2 g2 hvs y dx hy hdx hne => ?_)
  rw [List.append_nil]
  have g3 : Grow q F2 H2 F2 (upd H2 dx (.own y)) := g2.mut hdx
  have hyx : (upd H2 dx (.own y)) y = none := (upd_ne (Ne.symm hne)).trans hy
  refine ⟨F2, y, dx, upd H2 dx (.own y), vs, W (upd H2 dx (.own y)), rfl, hyx, rfl, upd_same, g3.s, hs vs F2 H2 g2 hvs _ (Ex.new hdx), fun F4 H4 fs g4 hF hH hR => ⟨rfl, ?_⟩⟩
  have g5 : Grow q F2 H2 F4 H4 := g3.trans (g4.weak g3.a1)
  refine k y (upd F4 y (.ins C dx fs)) H4 _ (g2.trans (frz g5 hy hF hH)) (fun b hb' => g2.fresh ?_) (g2.fresh hy) hR
  cases e : H2 b with
  | none => rfl
  | some o => rw [Ex.new hdx b o e] at hb'; cases hb'
/-- x.f = value, the heap told of the value -/
theorem s_fldX {o value : Expr} {f : Str} {l dx : Addr} {fs : List (Str × V)} {T : V → Hp → Hp → Prop} {pos' : Pos} (c : Cls X.K C) (n : NoAttr X.K C f) (ho : ∀ F2 H2, Grow q F H F2 H2 → XP q X o σ F2 H2 (is (.ref l))) (hf : F l = none) (h0 : H0 l = none) (hi : H l = some (.ins C dx fs)) (hz : fs.length < 1000)
    (mo : ∀ v F H F' H', Grow q F H F' H' → T v F H → T v F' H') (hv : ∀ Q : VK, (∀ v F2 H2, Grow q F H F2 H2 → T v F2 H2 → Q v H2) → wE X value σ H Q) (g0 : Grow q F0 H0 F H)
    (k : ∀ v F2 H2, Grow q F H F2 H2 → Grow q F0 H0 F2 (upd H2 l (.ins C dx (putF f v fs))) → T v F2 H2 → F2 l = none → H2 l = some (.ins C dx fs) → D.nx σ (upd H2 l (.ins C dx (putF f v fs))))
    (hs : swapsWith value (some (.Attribute o f pos')) pos.line X.env = pure false := by rfl) : wS X (.Assign [.Attribute o f pos'] value pos) D σ H :=
  wS_of (ps_fld wE_ok wE_ok hs) (hv _ fun v F2 H2 g2 ht => ho F2 H2 g2 F2 H2 g2.end _ fun u F3 H3 g3 hu => by
    subst hu
    have gg := g2.trans g3
    have hF3 := gg.nI l C dx fs hf hi
    have hH3 := gg.h l _ (g2.a0.neI hi) hi
    exact ⟨l, C, dx, fs, rfl, hH3, c, n, hz, k v F3 H3 gg ((g0.trans gg).put h0 hF3) (mo _ _ _ _ _ g3 ht) hF3 hH3⟩)
end
end R
end
section
set_option Elab.async false
set_option linter.all false
set_option maxRecDepth 100000
set_option maxHeartbeats 4000000
/-! R: tuples of texts that the head may hold; two fors, the outer one's data told; methods without arguments; append to an attribute -/
namespace R
open PySem L2 Evl
/-- a tuple of texts, the head's or ours -/
def tKT (K : PySem.W.Frag) (ss : List Str) : TyP := fun v F => ∃ t, v = .ref t ∧ SqT K F t (ss.map .str)
theorem mono_tKT {K : PySem.W.Frag} {ss : List Str} : Mono (tKT K ss) := fun _ _ _ e ⟨t, h1, h2⟩ => ⟨t, h1, ex_t e h2⟩
section
variable {q : Option Addr} {X : Cx} {σ : L2.St} {F H F0 H0 : Hp} {tg it a b e : Expr} {pos p p2 : Pos} {x s : Str} {ss : List Str} {T : TyP} {D : Ends}
theorem c_inKT (ha : XD q X a σ F H (.str s)) (hb : XP q X b σ F H (tKT X.K ss)) (hm : behindInMarks .In b = false := by rfl) : XCm q X .In a b σ F H (decide (s ∈ ss)) :=
  x_cmp op_in_seq mono_dt ha hb (fun x y F1 H1 g hx hy Q q => by
    obtain ⟨p, rfl, h1⟩ := hy
    rw [ds_str hx]
    refine ⟨p, _, rfl, .inr (ex_t g.s h1), rfl, flat_strs ss, ?_⟩
    rw [inV_strs]
    exact q F1 H1 g.end) hm
theorem walkD_kt {K : PySem.W.Frag} {F2 : Hp} {a : Addr} (h : SqT K F2 a (ss.map .str)) : WalkD (Itt K a) F2 (ss.map .str) := by
  have w := walk_tup (K := K) (a := a) (xs := ss.map V.str)
  have hl : (ss.map V.str).length = (ss.map PyData.str).length := by rw [List.length_map, List.length_map]
  rw [hl] at w
  refine ⟨fun i H hi e => w.goes i H hi (ex_t e h), fun H e => w.stops H (ex_t e h), fun i H x H' F' hi e1 e2 y => ?_⟩
  obtain ⟨rfl, y2⟩ := w.yields i H x H' hi (ex_t e2 (ex_t e1 h)) y
  rw [List.getElem?_map] at y2
  obtain ⟨s, hs, rfl⟩ := Option.map_eq_some_iff.mp y2
  exact ⟨F', .str s, Grow.start e2, by rw [List.getElem?_map, hs]; rfl, .str s⟩
theorem xi_kt (h : XP q X it σ F H (tKT X.K ss)) : XI q X tg it σ F H (ss.map .str) := fun F1 H1 g R r =>
  wI_of (pi_tup wE_ok) (h F1 H1 g _ fun v F2 H2 g2 hv => by
    obtain ⟨a, rfl, h1⟩ := hv
    exact ⟨a, rfl, ⟨_, ex_t g2.s h1⟩, r _ F2 H2 g2 (walkD_kt h1)⟩)
/-- a dict of the module: its tuple -/
theorem x_kd {d t : Addr} (hm : X.mg x = some (.ref d)) (hd : KDct X.K X.w d s (.ref t)) (ht : ∀ H, SqT X.K H t (ss.map .str)) (hb : XD q X b σ F H (.str s)) (hg : Gl X x := by rfl) (hdb : (x == ("__debug__" : Str)) = false := by decide) (hs : PlainIx b := by exact fun _ _ => rfl) :
    XP q X (.Subscript (.Name x p) b pos) σ F H (tKT X.K ss) := fun F1 H1 g Q k =>
  wE_of (pe_ix ix_kdict (pe_glob (v := .ref d) hg hm rfl hdb) wE_ok hs) (hb F1 H1 g _ fun v F2 H2 g2 hv => ⟨d, s, .ref t, rfl, ds_str hv, hd, k (.ref t) F2 H2 g2 ⟨t, rfl, ht F2⟩⟩)
/-- o.append(e), o any expression: the list -/
theorem s_appO {o : Expr} {l : Addr} {vs : List V} {apos cpos : Pos} (ho : XP q X o σ F H (is (.ref l))) (hf : F l = none) (hq : q ≠ some l) (hH : H l = some (.lst vs)) (hz : vs.length < 100000) (h : ∀ F2 H2, Grow q F H F2 H2 → XP q X e σ F2 H2 T) (g0 : Grow q F0 H0 F H)
    (k : ∀ v F2 H2, Grow q F H F2 H2 → T v F2 → F2 l = none → H2 l = some (.lst vs) → D.nx σ (upd H2 l (.lst (vs ++ [v]))))
    (hsw : swapsWith (.Call (.Attribute o "append" apos) [e] [] cpos) none pos.line X.env = pure false := by rfl)
    (hbase : attributeBase o "append" X.env (eval o X.env) = eval o X.env := by rfl)
    (hfew : ((backTo cpos (starEach [e] X.env)).all (fun x => !x.1) && (backToKw cpos (keywordEach [] X.env)).all (fun x => x.1.isSome)
      && decide (([e] : List Expr).length + ([] : List Keyword).length + (if ([] : List Keyword).isEmpty then 0 else 1) < 30)) = true := by rfl)
    (hline : (apos.endLine == cpos.line) = true := by rfl) (hst : starEach [e] X.env = [(false, eval e X.env)] := by rfl) :
    wS X (.Expr (.Call (.Attribute o "append" apos) [e] [] cpos) pos) D σ H :=
  wS_of (ps_expr (pe_bm PySem.F.plainAttrs_list PySem.F.slot_list_append PySem.F.type_list_append mt_append wE_ok (pa_cons wE_ok pa_nil hst) hbase hfew hline hst (by rfl)) hsw)
    (ho F H g0.end _ fun u F1 H1 g1 hu => by
      subst hu
      have h1 := g1.h _ _ hq hH
      exact ⟨.inl ⟨rfl, _, SqL.of h1⟩, h F1 H1 g1 F1 H1 g1.end _ fun v F2 H2 g t => ⟨l, vs, v, rfl, rfl, g.h _ _ hq h1, sz_lt hz, k v F2 H2 (g1.trans g) t (g.n l _ (g1.n l _ hf hH) h1) (g.h _ _ hq h1)⟩⟩)
end
section
variable {q : Option Addr} {X : Cx} {σ : L2.St} {F H F0 H0 : Hp} {tg tg1 iter iter1 elt : Expr} {scope : Scope} {own : List (Str × Nat)} {ds : List PyData} {es : PyData → List PyData} {gm : PyData → PyData → PyData} {j1 j2 i : Nat} {y : Str} {py pos spos : Pos} {D : Ends}
theorem xm_lc2d (hc : X.calm = true) (hN : X.N.Nodup) (ok : BlkOk X.N X.env.scope scope own) (hv : ∀ i ∈ [j2], i ∈ own.map (·.2)) (hg : InB X scope fun Y => PG Y tg (gName j1)) (hg1 : InB X scope fun Y => PG Y tg1 (gName j2))
    (hi : XI q X tg iter σ F H ds) (hl : (ds.flatMap fun d => (es d).map (gm d)).length ≤ 100000)
    (hw1 : ∀ v : V, wipe ((wipe σ (own.map (·.2))).set j1 (some v)) (own.map (·.2)) = wipe σ (own.map (·.2))) (hw2 : ∀ v z : V, wipe ((wipe ((wipe σ (own.map (·.2))).set j1 (some v)) [j2]).set j2 (some z)) [j2] = wipe ((wipe σ (own.map (·.2))).set j1 (some v)) [j2])
    (hi1 : ∀ d v F1 H1, d ∈ ds → Grow q F H F1 H1 → Ds F1 v d → InB X scope fun Y => XI q Y tg1 iter1 ((wipe σ (own.map (·.2))).set j1 (some v)) F1 H1 (es d))
    (he : ∀ d v e z F1 H1, d ∈ ds → e ∈ es d → Grow q F H F1 H1 → Ds F1 v d → Ds F1 z e → InB X scope fun Y => XD q Y elt ((wipe ((wipe σ (own.map (·.2))).set j1 (some v)) [j2]).set j2 (some z)) F1 H1 (gm d e))
    (hs : ∀ x, foldedSetIterable iter X.env x = pure x := by intro _; rfl) (hs1 : ∀ env x, foldedSetIterable iter1 env x = pure x := by intro _ _; rfl) :
    XM q X (.ListComp elt [⟨tg, iter, [], 0⟩, ⟨tg1, iter1, [], 0⟩] scope pos) σ F H (ds.flatMap fun d => (es d).map (gm d)) := fun Fa Ha ga Q k => by
  refine wE_of (pe_lc2 (wi := wI X tg iter) (g := gName j1) (tt := tYes) (wi1 := uI X scope tg1 iter1) (g1 := gName j2) (tt1 := tYes) (te := uE X scope elt) (vs1 := [j2]) hc hN wI_ok ok hv hg (fun s H C cl fp => pts_nil) (fun s H C cl fp => ⟨fun pins s' σ' H' R I h => (h s H C cl fp).run pins s' I⟩) hg1 (fun s H C cl fp => pts_nil) (fun s H C cl fp => ⟨fun pins s' σ' H' Q I h => (h s H C cl fp).run pins s' I⟩) hs hs1) ?_
  refine hi Fa Ha ga _ fun J F2 H2 g2 w D' hD => ?_
  let Pv : Nat → Hp → Prop := fun i H' => ∃ F' acc, Grow q F2 H2 F' H' ∧ F' D' = none ∧ H' D' = some (.lst acc) ∧ DsAll F' acc ((ds.take i).flatMap fun d => (es d).map (gm d))
  refine ⟨fun i m H => m = ds.length - i ∧ i ≤ ds.length ∧ Pv i H, ⟨ds.length, by simp, Nat.zero_le _, F2, [], g2.mut hD, fresh_back g2.s hD, upd_same, .nil⟩, ?_⟩
  rintro i' m H' ⟨rfl, hi', F', acc, gw, hFD, hHD, hacc⟩
  by_cases hlt : i' < ds.length
  · refine .inr ⟨w.goes i' H' hlt (gw.f.trans gw.s), Pv (i' + 1), fun H' p' => ⟨ds.length - (i' + 1), by omega, rfl, hlt, p'⟩, fun x H4 yy => ?_⟩
    obtain ⟨F4, d, g3, hd, hx⟩ := w.yields i' H' x H4 F' hlt gw.f gw.s yy
    have hmem : d ∈ ds := List.mem_of_getElem? hd
    have hqD : q ≠ some D' := g2.a1.ne hD
    have g4 := gw.trans (g3.weak gw.a1)
    have hF4D : F4 D' = none := g3.n D' _ hFD hHD
    have hH4D := g3.h D' _ (by simp) hHD
    have hts : ((ds.take (i' + 1)).flatMap fun d => (es d).map (gm d)) = ((ds.take i').flatMap fun d => (es d).map (gm d)) ++ (es d).map (gm d) := by
      rw [List.take_add_one, hd]; simp
    refine ⟨hw1 x, ?_⟩
    simp only [tYes, if_true]
    intro s0 H0' C cl fp
    refine hi1 d x F4 H4 hmem (ga.trans (g2.trans g4)) hx s0 H0' C cl fp F4 H4 g4.end _ fun J1 F5 H5 g5 w1 => ?_
    have hF5D := g5.n D' _ hF4D hH4D
    have hH5D := g5.h D' _ hqD hH4D
    have gg5 := g4.trans g5
    let Pw : Nat → Hp → Prop := fun j H' => ∃ F' acc, Grow q F2 H2 F' H' ∧ Ex F5 F' ∧ F' D' = none ∧ H' D' = some (.lst acc) ∧ DsAll F' acc (((ds.take i').flatMap fun d => (es d).map (gm d)) ++ ((es d).take j).map (gm d))
    refine ⟨fun j m H => m = (es d).length - j ∧ j ≤ (es d).length ∧ Pw j H, ⟨(es d).length, by simp, Nat.zero_le _, F5, acc, gg5, Ex.refl _, hF5D, hH5D, by simpa using hacc.mono (g3.f.trans g5.f)⟩, ?_⟩
    rintro j m H6 ⟨rfl, hj, F6, acc6, gw6, e6, hF6D, hH6D, hacc6⟩
    by_cases hjl : j < (es d).length
    · refine .inr ⟨w1.goes j H6 hjl (e6.trans gw6.s), Pw (j + 1), fun H' p' => ⟨(es d).length - (j + 1), by omega, rfl, hjl, p'⟩, fun z H7 yz => ?_⟩
      obtain ⟨F7, e, g7, hde, hz⟩ := w1.yields j H6 z H7 F6 hjl e6 gw6.s yz
      have hem : e ∈ es d := List.mem_of_getElem? hde
      have g67 := gw6.trans (g7.weak gw6.a1)
      have hF7D : F7 D' = none := g7.n D' _ hF6D hH6D
      have hH7D := g7.h D' _ (by simp) hH6D
      refine ⟨hw2 x z, ?_⟩
      intro s1 H1' C1 cl1 fp1
      refine he d x e z F7 H7 hmem hem (ga.trans (g2.trans g67)) (hx.mono ((g5.f.trans e6).trans g7.f)) hz s1 H1' C1 cl1 fp1 F7 H7 g67.end _ fun u F8 H8 g8 hu => ?_
      have hF8D := g8.n D' _ hF7D hH7D
      have hH8D := g8.h D' _ hqD hH7D
      refine ⟨acc6, hH8D, ?_, F8, acc6 ++ [u], (g67.trans g8).put hD hF8D, (e6.trans g7.f).trans g8.f, hF8D, upd_same, ?_⟩
      · rw [hacc6.length]
        refine sz_lt ?_
        have h1 : (((ds.take i').flatMap fun d => (es d).map (gm d)) ++ ((es d).map (gm d))).length ≤ (ds.flatMap fun d => (es d).map (gm d)).length := by
          rw [← hts]
          conv => rhs; rw [← List.take_append_drop (i' + 1) ds, List.flatMap_append, List.length_append]
          omega
        rw [List.length_append, List.length_map] at h1
        rw [List.length_append, List.length_map, List.length_take]
        omega
      · have : ((es d).take (j + 1)).map (gm d) = ((es d).take j).map (gm d) ++ [gm d e] := by
          rw [List.take_add_one, hde]; simp
        rw [this, ← List.append_assoc]
        exact (hacc6.mono (g7.f.trans g8.f)).append (.cons hu .nil)
    · have ej : j = (es d).length := by omega
      subst ej
      rw [List.take_length] at hacc6
      exact .inl ⟨w1.stops H6 (e6.trans gw6.s), F6, acc6, gw6, hF6D, hH6D, by rw [hts]; exact hacc6⟩
  · have e : i' = ds.length := by omega
    subst e
    rw [List.take_length] at hacc
    exact .inl ⟨w.stops H' (gw.f.trans gw.s), k D' acc F' H' (g2.trans gw) (g2.fresh hD) hFD hHD hacc⟩
end
end R
end
section
set_option Elab.async false
set_option linter.all false
set_option maxRecDepth 100000
set_option maxHeartbeats 4000000
namespace R
open PySem L2 Evl
section
variable {q : Option Addr} {X : Cx} {σ : L2.St} {F H F0 H0 : Hp} {tg it a b e : Expr} {pos p p2 : Pos} {x s : Str} {ds : List PyData} {d : PyData} {T : TyP} {D : Ends}
theorem xi_LT (h : XD q X it σ F H d) (hd : d = .list ds ∨ d = .tuple ds) : XI q X tg it σ F H ds := by
  rcases hd with rfl | rfl
  · exact xi_lst h
  · exact xi_tup h
theorem xd_lenQT (B : Bn X.mg) (h : XD q X a σ F H d) (hd : d = .list ds ∨ d = .tuple ds) (hg : Gl X "len" := by rfl) (he : starEach [a] X.env = [(false, eval a X.env)] := by rfl) : XD q X (.Call (.Name "len" p) [a] [] pos) σ F H (.int ds.length) := by
  rcases hd with rfl | rfl
  · exact xd_lenL B h hg he
  · exact xd_lenT B h hg he
theorem xd_sumL {ns : List Int} (hc : X.calm = true) (B : Bn X.mg) (ha : XD q X a σ F H (.list (ns.map .int))) (hg : Gl X "sum" := by rfl) (he : starEach [a] X.env = [(false, eval a X.env)] := by rfl) : XD q X (.Call (.Name "sum" p) [a] [] pos) σ F H (.int ns.sum) :=
  x_callB (cr_sum hc) B.sum (by decide +kernel) (xa_cons mono_dt ha xa_nil he) (fun vs F1 H1 g h Q kq => by
    obtain ⟨v, rfl, hv⟩ := h.one
    obtain ⟨l, xs, rfl, h1, h2⟩ := ds_lst hv
    rw [h2.ints] at h1
    exact ⟨l, ns, rfl, SqL.of (g.s _ _ h1), kq _ F1 H1 g.end (.int _)⟩) hg (he := he)
end
end R
end
section
set_option Elab.async false
set_option linter.all false
set_option maxRecDepth 100000
set_option maxHeartbeats 4000000
namespace K01
open PySem L2 Evl R
theorem nd_len {α : Type} [DecidableEq α] : ∀ (l S : List α), l.Nodup → (∀ x ∈ l, x ∈ S) → l.length ≤ S.length
  | [], S, _, _ => Nat.zero_le _
  | x :: l, S, hn, hs => by
    rw [List.nodup_cons] at hn
    have h1 := nd_len l (S.erase x) hn.2 fun y hy => (List.mem_erase_of_ne (fun e : y = x => hn.1 (e ▸ hy))).mpr (hs y (List.mem_cons_of_mem _ hy))
    have h2 := List.length_erase_of_mem (hs x List.mem_cons_self)
    have h3 := List.length_pos_of_mem (hs x List.mem_cons_self)
    rw [List.length_cons]; omega
def susLT (d : PyData) (ss : List (List Str)) : Prop := d = .list (ss.map seenD) ∨ d = .tuple (ss.map seenD)
section
variable {P : Program} {w : World} {K : PySem.W.Frag} {mg : Str → Option Value} {base : Heap} {C : Addr}
/-! check_suspicions, of a list or a tuple -/
def pCssLT (C : Addr) : List V → Hp → TyP → Prop := fun vs F T => ∃ (a : Addr) (rs : List Row) (v : V) (dd : PyData) (ss : List (List Str)), vs = [.ref a, v] ∧ Wd C rs a F ∧ Ds F v dd ∧ susLT dd ss ∧ (∀ s ∈ ss, Susp rs s) ∧ 1 ≤ ss.length ∧ ss.length ≤ 3 ∧ T = dt .none
theorem ok_cssLT (CC : Cal P w K mg base "check_suspicion" 4 ["world", "suspicion"] (spD (pSu C .none))) (B : Bn mg) (Cs : Cst mg) {f : Addr} {fd : FuncData} (Fn : Fun K "check_suspicions" "check_suspicions" sCss f fd) : FnOk P w K mg base CX0 5 f fd ["world", "suspicions"] (spD (pCssLT C)) := by
  refine Fn.ok scCss (fun vs H Q E h => ?_) (fun cdv A outer s H vs Q E hr h => ⟨_, wSs_ok, ?_⟩)
  · obtain ⟨F, T, _, ⟨a, rs, v, dd, s, rfl, _⟩, _⟩ := h
    rfl
  obtain ⟨F, T, s0, ⟨a, rs, v, dd, ss, rfl, hw, hv, hdd, hS, hl1, hl2, rfl⟩, kq⟩ := h
  obtain ⟨t1, c1⟩ := Cs.susp
  have g0 := Grow.start s0
  refine ss_cons (s_skip (XW.xt (xw_or (u := false) (v := false) (xt_not (u := true) (xt_val (xd_isLT B (xv 1 hv) (by rcases hdd with rfl | rfl; exact .inl rfl; exact .inr rfl)))) fun _ => xw_or1 (xt_not (u := true) (XT.eq (xt_chain (f := fun i j => decide (i ≤ j)) (g' := fun i j => decide (i ≤ j)) op_le op_le xd_int (xd_lenQT (ds := ss.map seenD) B (xv 1 hv) hdd) (xd_globI c1)) ?_)))) g0 fun F1 H1 g1 => ?_)
  · rw [List.length_map, decide_eq_true (by omega : (1 : Int) ≤ ss.length), decide_eq_true (by omega : (ss.length : Int) ≤ 3)]; rfl
  refine ss_cons (s_for (asg := fun σ vs => σ.set 2 vs.head?) (gx := gName 2) (esf := fun d => [d]) rfl PassesOwn.never (xi_LT (ds := ss.map seenD) (xv 1 (hv.mono g1.f)) hdd) (pg_name (i := 2) scCss.nd rfl (.inl rfl)) (fun d _ => tgt_name) g1
    (fun i σ F' H' => ∃ (t : Option V), σ = [some (.ref a), some v, t]) ?_ ⟨_, rfl⟩ ?_ ?_)
  · rintro i σ' F' H' F'' H'' h _
    exact h
  · rintro i d vs σ' F' H' hd e1 gg ⟨t, rfl⟩ hvs
    obtain ⟨x, rfl, hx⟩ := hvs.one
    obtain ⟨sn, hsm, rfl⟩ := List.mem_map.mp (List.mem_of_getElem? hd)
    refine ss_cons (s_expr (T := dt .none) (xc CC hr (by decide) (xa_cons (T := is (.ref a)) mono_is (xvi 0) (xa_cons mono_dt (xv 2 hx) xa_nil)) ?_) gg fun v3 F3 H3 g3 _ => ss_nil ⟨F3, g3.f, gg.trans g3, _, rfl⟩)
    rintro vs F3 e ht
    obtain ⟨v1, v2, rfl, rfl, h3⟩ := ht.two
    exact ⟨a, rs, v2, sn, rfl, hw.mono ((g1.f.trans e1).trans e), h3, hS sn hsm, rfl⟩
  · rintro σ' F' H' e1 gg ⟨t, rfl⟩
    exact ss_nil (kq _ F' H' gg .non)
end
end K01
end
section
set_option Elab.async false
set_option linter.all false
set_option maxRecDepth 100000
set_option maxHeartbeats 4000000
namespace K01
open PySem L2 Evl R
theorem last_at (sm : List Row) (r : Row) (h : sm.getLast? = some r) : atI (sm.map fun r => pairD r.key) (-1) = some (pairD r.key) := by
  rw [R.atI_last _ (by intro e; rw [List.map_eq_nil_iff] at e; rw [e] at h; cases h), List.getLast?_map, h]; rfl
section
variable {P : Program} {w : World} {K : PySem.W.Frag} {mg : Str → Option Value} {base : Heap} {C : Addr}
/-! needed -/
abbrev sNe : Stmt := top 37
abbrev nNe : List Str := ["world", "suspicions", "lost", "suspicion", "secret", "use"]
theorem scNe : FnScope nNe ["world", "suspicions"] (defScope sNe) := ⟨rfl, rfl, rfl, by decide +kernel, rfl, by decide +kernel, by decide +kernel⟩
def pNe (C : Addr) : List V → Hp → TyP → Prop := fun vs F T => ∃ (a : Addr) (rs : List Row) (v : V) (dd : PyData) (ss : List (List Str)), vs = [.ref a, v] ∧ Wd C rs a F ∧ Ds F v dd ∧ susLT dd ss ∧ (∀ s ∈ ss, Susp rs s) ∧ 1 ≤ ss.length ∧ ss.length ≤ 3 ∧ T = dt (.list ((neededL rs ss).map pairD))
theorem exposedL_len {rs : List Row} {s : List Str} (hW : WorldOk rs) : (exposedL rs s).length ≤ 12 := Nat.le_trans (List.length_filter_le _ _) hW.len_sec
theorem ok_ne (W : WC K C) (MU : PCal P w K mg base C "uses" 1 ["self"] (spD (pProp C usesD))) (CW : Cal P w K mg base "check_world" 1 ["world"] (spD (pCw C))) (CS : Cal P w K mg base "check_suspicions" 5 ["world", "suspicions"] (spD (pCssLT C))) (CE : Cal P w K mg base "exposed" 7 ["world", "suspicion"] (spD (pEx C))) (B : Bn mg)
    {f : Addr} {fd : FuncData} (Fn : Fun K "needed" "needed" sNe f fd) : FnOk P w K mg base CX0 8 f fd ["world", "suspicions"] (spD (pNe C)) := by
  refine Fn.ok scNe (fun vs H Q E h => ?_) (fun cdv A outer s H vs Q E hr h => ⟨_, wSs_ok, ?_⟩)
  · obtain ⟨F, T, _, ⟨a, rs, v, dd, ss, rfl, _⟩, _⟩ := h
    rfl
  obtain ⟨F, T, s0, ⟨a, rs, v, dd, ss, rfl, hw, hv, hdd, hS, hl1, hl3, rfl⟩, kq⟩ := h
  obtain ⟨dx, u, c, p, sv, se, h1, _⟩ := id hw.at_
  have g0 := Grow.start s0
  refine ss_cons (s_expr (T := dt .none) (xc CW hr (by decide) (xa_cons (T := is (.ref a)) mono_is (xvi 0) xa_nil) ?_) g0 fun v1 F1 H1 g1 _ => ?_)
  · rintro vs F3 e ht
    obtain ⟨v1, rfl, rfl⟩ := ht.one
    exact ⟨a, rs, rfl, hw.mono e, rfl⟩
  refine ss_cons (s_expr (T := dt .none) (xc CS hr (by decide) (xa_cons (T := is (.ref a)) mono_is (xvi 0) (xa_cons mono_dt (xv 1 (hv.mono g1.f)) xa_nil)) ?_) g1 fun v2 F2 H2 g2 _ => ?_)
  · rintro vs F3 e ht
    obtain ⟨v1, v2, rfl, rfl, h3⟩ := ht.two
    exact ⟨a, rs, v2, dd, ss, rfl, hw.mono (g1.f.trans e), h3, hdd, hS, hl1, hl3, rfl⟩
  have gg2 := g1.trans g2
  have hlen := hw.ok.len
  refine ss_cons (s_setM (i := 2) scNe.nd rfl (xm_lc2 (j1 := 3) (j2 := 4) (own := [("suspicion", 3), ("secret", 4)]) (ds := ss.map seenD) (es := fun d => (exposedL rs (dseen d)).map .str) (gm := fun d => d) rfl scNe.nd (blkOk_by (N := nNe) (sc := defScope sNe) (by decide +kernel)) (by simp) (fun _ _ _ _ _ => pg_name (i := 3) scNe.nd rfl (.inl rfl)) (fun _ _ _ _ _ => pg_name (i := 4) scNe.nd rfl (.inl rfl))
    (xi_LT (ds := ss.map seenD) (xv 1 (hv.mono gg2.f)) hdd) ?_ (fun _ => rfl) (fun _ _ => rfl) (fun d vv F3 H3 hd g3 hvv => ?_) (fun d vv e z F3 H3 hd he g3 hz => ?_)) gg2 (fun l xs F3 H3 g3 hno hF3 hH3 hxs => ?_) (.inr rfl))
  · rw [List.flatMap_map, List.length_flatMap]
    have : ∀ (l : List (List Str)), (l.map fun s => (((exposedL rs (dseen (seenD s))).map PyData.str).map fun d => d).length).sum ≤ 12 * l.length := fun l => by
      induction l with
      | nil => simp
      | cons x l ih =>
        have := exposedL_len (s := dseen (seenD x)) hw.ok
        simp only [List.map_cons, List.sum_cons, List.length_map, List.length_cons] at ih ⊢
        omega
    have := this ss
    omega
  · intro s' H0' C' cl fp
    obtain ⟨sn, hsn, rfl⟩ := List.mem_map.mp hd
    rw [dseen_d]
    refine xi_lst (xc CE hr (by decide) (xa_cons (T := is (.ref a)) mono_is (xvi 0) (xa_cons mono_dt (xv 3 hvv) xa_nil)) (T := dt (strsD (exposedL rs sn))) ?_)
    rintro vs F4 e ht
    obtain ⟨v1, v2, rfl, rfl, h3⟩ := ht.two
    exact ⟨a, rs, v2, sn, rfl, hw.mono ((gg2.f.trans g3.f).trans e), h3, hS sn hsn, rfl⟩
  · intro s' H0' C' cl fp
    exact xv 4 hz
  have gg3 := gg2.trans g3
  obtain ⟨gf, hdl⟩ := gg3.freeze (gg2.fresh hno) hF3 hH3 hxs
  have hlost : (List.map seenD ss).flatMap (fun d => (((exposedL rs (dseen d)).map PyData.str).map fun d => d)) = (ss.flatMap fun s => exposedL rs s).map PyData.str := by
    rw [List.flatMap_map, List.map_flatMap]
    congr 1
    funext s
    rw [dseen_d, List.map_id']
  rw [hlost] at hdl
  refine ss_cons (s_ret (XD.eq (XM.xd (xm_lcIf (own := [("use", 5)]) (gx := gName 5) (asg := fun σ vs => σ.set 5 vs.head?) (esf := fun d => [d]) (ds := rs.map fun r : Row => pairD r.key) (pr := fun d => decide (dsnd d ∈ ss.flatMap fun s => exposedL rs s)) (gm := fun d => d)
    ⟨rfl, scNe.nd, blkOk_by (N := nNe) (sc := defScope sNe) (by decide +kernel), fun _ _ _ _ _ => pg_name (i := 5) scNe.nd rfl (.inl rfl), fun _ => rfl⟩ (xi_lst (x_prop MU W.cls hr (by decide) (xvi 0) (gf.s _ _ (gf.f _ _ h1)) (T := dt (usesD rs)) fun F4 e => ⟨a, rs, rfl, hw.mono (gf.f.trans e), rfl⟩)) (fun d _ => tgt_name) (by rw [List.length_map]; omega) (fun _ => rfl) (fun d vs F4 H4 hd g4 hvs => ?_) (fun d vs F4 H4 hd _ g4 hvs => ?_))) ?_) gf fun v F4 H4 g4 hv4 => kq v F4 H4 (gf.trans g4) hv4)
  · intro s' H0' C' cl fp
    obtain ⟨r, hrm, rfl⟩ := List.mem_map.mp hd
    obtain ⟨y, rfl, hy⟩ := hvs.one
    exact xt_cmp (c_inLS (xd_ixT (ds := [.str r.sv, .str r.se]) (xv 5 hy) xd_int rfl) (xv 2 (hdl.mono g4.f)))
  · intro s' H0' C' cl fp
    obtain ⟨y, rfl, hy⟩ := hvs.one
    exact xv 5 hy
  · rw [List.map_id', List.filter_map]
    unfold neededL
    rw [List.map_map]
    congr 1
    show List.map (fun r : Row => pairD r.key) _ = List.map (fun r : Row => pairD r.key) _
    congr 1
    refine List.filter_congr fun r _ => ?_
    show decide (r.se ∈ ss.flatMap fun s => exposedL rs s) = ss.any fun s => decide (r.se ∈ exposedL rs s)
    rw [Bool.eq_iff_iff, decide_eq_true_eq, List.any_eq_true, List.mem_flatMap]
    exact ⟨fun ⟨s, h1, h2⟩ => ⟨s, h1, decide_eq_true h2⟩, fun ⟨s, h1, h2⟩ => ⟨s, h1, of_decide_eq_true h2⟩⟩
end
end K01
end
section
set_option Elab.async false
set_option linter.all false
set_option maxRecDepth 100000
set_option maxHeartbeats 4000000
namespace K01
open PySem L2 Evl R
theorem svs_nm : ∀ s ∈ svs, isNm s = true ∧ s.length ≤ 1000 := by decide +kernel
theorem ses_nm : ∀ s ∈ ses, isNm s = true ∧ s.length ≤ 1000 := by decide +kernel
theorem Valid.sec4 {m : Nat} {rs : List Row} (h : Valid m rs) : (secretsD rs).length ≤ 4 := nd_len _ ses (secretsD_nd rs) fun x hx => by
  obtain ⟨r, hr, rfl⟩ := mem_secretsD.mp hx
  exact h.se r hr
theorem Valid.world {m : Nat} {rs : List Row} (h : Valid m rs) (hm : m ≤ 12) : WorldOk rs where
  ne := h.ne
  len := Nat.le_trans h.len hm
  rows := fun r hr => by
    obtain ⟨c1, c2, c3⟩ := h.ch r hr
    refine ⟨(svs_nm _ (h.sv r hr)).1, (ses_nm _ (h.se r hr)).1, (svs_nm _ (h.sv r hr)).2, (ses_nm _ (h.se r hr)).2, svs_ok _ (h.sv r hr), ses_ok _ (h.se r hr), c2, c1, fun c hc => ?_, h.co r hr⟩
    obtain ⟨h1, h2⟩ := c3 c hc
    obtain ⟨r', hr', e⟩ := List.mem_map.mp h2
    have e' : r'.se = c := congrArg Prod.snd e
    have h3 := h.se r' hr'
    rw [e'] at h3
    exact ⟨(ses_nm _ h3).1, (ses_nm _ h3).2, ses_ok _ h3, h2, h1⟩
  uses := by
    refine ⟨by rw [List.length_map]; have := h.len; omega, fun p hp => ?_, fun p hp => ?_⟩
    · obtain ⟨r, hr, rfl⟩ := List.mem_map.mp hp
      exact svs_ok _ (h.sv r hr)
    · obtain ⟨r, hr, rfl⟩ := List.mem_map.mp hp
      exact ses_ok _ (h.se r hr)
  nd := h.nd
  six := Nat.le_trans (show (secretsD rs).length ≤ 4 from h.sec4) (by decide)
theorem linesD_snoc (rs : List Row) (r : Row) : linesD rs ++ [(r.kk, valD r)] = linesD (rs ++ [r]) := by
  unfold linesD; rw [List.map_append]; rfl
theorem kk_inj {a b : Row} (h : a.kk = b.kk) : a.key = b.key := by
  unfold Row.kk at h
  simp only [List.cons.injEq, Sum.inr.injEq, and_true] at h
  exact Prod.ext h.1 h.2
/-- a key is new: it stands at its own place alone -/
theorem kk_new {rs : List Row} {i : Nat} {r : Row} (nd : (rs.map Row.key).Nodup) (h : rs[i]? = some r) : r.kk ∉ (linesD (rs.take i)).map (·.1) := by
  intro hm
  unfold linesD at hm
  rw [List.map_map] at hm
  obtain ⟨r', hr', e⟩ := List.mem_map.mp hm
  have e1 := kk_inj e
  have h2 : (rs.take (i + 1)).map Row.key = (rs.take i).map Row.key ++ [r.key] := by
    rw [List.take_add_one, h, List.map_append]; rfl
  have nd2 : ((rs.take (i + 1)).map Row.key).Nodup := nd.sublist ((List.take_sublist _ _).map _)
  rw [h2, List.nodup_append] at nd2
  exact nd2.2.2 _ (List.mem_map_of_mem hr') _ (by simp) e1
section
variable {P : Program} {w : World} {K : PySem.W.Frag} {mg : Str → Option Value} {base : Heap} {C : Addr}
/-- World(..) -/
def MkW (P : Program) (w : World) (K : PySem.W.Frag) (mg : Str → Option Value) (base : Heap) (C : Addr) : Prop := ∃ f fd, FnOk P w K mg base CX0 5 f fd ["self", "uses"] (spMake C (pMk C)) ∧ Mk K C f ∧ Binds K fd ["self", "uses"] []
/-! _law_built -/
abbrev sBu : Stmt := top 58
abbrev nBu : List Str := ["_law_rows", "_law_lines", "_law_service", "_law_secret", "_law_channel_here", "_law_price"]
theorem scBu : FnScope nBu ["_law_rows"] (defScope sBu) := ⟨rfl, rfl, rfl, by decide +kernel, rfl, by decide +kernel, by decide +kernel⟩
def tWd (C : Addr) (rs : List Row) : TyP := fun v F => ∃ a, v = .ref a ∧ Wd C rs a F
def pBu (C : Addr) : List V → Hp → TyP → Prop := fun vs F T => ∃ (v : V) (rs : List Row), vs = [v] ∧ Ds F v (rowsD rs) ∧ WorldOk rs ∧ T = tWd C rs
theorem ok_bu (hMk : MkW P w K mg base C) (hC : mg "World" = some (.ref C)) {f : Addr} {fd : FuncData} (Fn : Fun K "_law_built" "_law_built" sBu f fd) : FnOk P w K mg base CX0 7 f fd ["_law_rows"] (spD (pBu C)) := by
  refine Fn.ok scBu (fun vs H Q E h => ?_) (fun cdv A outer s H vs Q E hr h => ⟨_, wSs_ok, ?_⟩)
  · obtain ⟨F, T, _, ⟨v, rs, rfl, _⟩, _⟩ := h
    rfl
  obtain ⟨F, T, s0, ⟨v, rs, rfl, hv, hW, rfl⟩, kq⟩ := h
  have g0 := Grow.start s0
  have hlen := hW.len
  have hv' : Ds F v (.list (rs.map Row.d)) := hv
  refine ss_cons (s_setMT (i := 1) scBu.nd rfl xm_d0 g0 fun l kvs F1 H1 g1 h0l hF1 hH1 hD1 => ?_)
  refine ss_cons (s_for (asg := fun σ vs => (((σ.set 2 vs[0]?).set 3 vs[1]?).set 4 vs[2]?).set 5 vs[3]?) (gx := gTup K 4 (gCons (gName 2) (gCons (gName 3) (gCons (gName 4) (gCons (gName 5) gNil))))) (esf := fun d => match d with | .tuple es => es | _ => []) rfl PassesOwn.never (xi_lst (ds := rs.map Row.d) (xv 0 (hv'.mono g1.f))) (pg_tup rfl (pgs_cons (pg_name (i := 2) scBu.nd rfl (.inl rfl)) (pgs_cons (pg_name (i := 3) scBu.nd rfl (.inl rfl)) (pgs_cons (pg_name (i := 4) scBu.nd rfl (.inl rfl)) (pgs_cons (pg_name (i := 5) scBu.nd rfl (.inl rfl)) pgs_nil))))) (fun d hd => ?_) g1
    (fun i σ F' H' => ∃ (t1 t2 t3 t4 : Option V) (kvs : List (List Key × V)), σ = [some v, some (.ref l), t1, t2, t3, t4] ∧ F' l = none ∧ H' l = some (.dT kvs) ∧ DTs F' kvs (linesD (rs.take i))) ?_ ⟨_, _, _, _, kvs, rfl, hF1, hH1, hD1⟩ ?_ ?_)
  · obtain ⟨x, _, rfl⟩ := List.mem_map.mp hd
    exact tgt_tup4
  · rintro i σ' F' H' F'' H'' ⟨t1, t2, t3, t4, kvs, rfl, h2, h3, h4⟩ g
    exact ⟨t1, t2, t3, t4, kvs, rfl, g.nT _ _ h2 h3, g.h _ _ (by simp) h3, h4.mono g.f⟩
  · rintro i d vs σ' F' H' hdi e1 gg ⟨t1, t2, t3, t4, kvs, rfl, hF', hH', hD'⟩ hvs
    rw [List.getElem?_map] at hdi
    obtain ⟨r, hri, rfl⟩ := Option.map_eq_some_iff.mp hdi
    obtain ⟨v1, v2, v3, v4, rfl, a1, a2, a3, a4⟩ := hvs.four
    have hl' : kvs.length ≤ 12 := by rw [hD'.len, linesD, List.length_map, List.length_take]; omega
    refine ss_cons (s_dput (i := 1) (T := dt (valD r)) (k := r.kk) hr.u1 rfl rfl hF' h0l hH' (by omega) mono_dt (xd_tup (ds := [.tuple (r.ch.map .str), .int r.co]) (xa_cons mono_dt (xv 4 a3) (xa_cons mono_dt (xv 5 a4) xa_nil))) (xd_tup (ds := [.str r.sv, .str r.se]) (xa_cons mono_dt (xv 2 a1) (xa_cons mono_dt (xv 3 a2) xa_nil))) ?_ gg fun vz F3 H3 g3 gg3 hz hF3 => ss_nil ?_)
    · rw [hD'.keys]
      exact kk_new hW.nd hri
    · refine ⟨F3, g3.f, gg3, _, _, _, _, _, rfl, hF3, upd_same, ?_⟩
      rw [List.take_add_one, hri]
      show DTs F3 _ (linesD (rs.take i ++ [r]))
      rw [← linesD_snoc]
      exact (hD'.mono g3.f).snoc hz
  · rintro σ' F' H' e1 gg ⟨t1, t2, t3, t4, kvs, rfl, hF', hH', hD'⟩
    rw [List.length_map, List.take_length] at hD'
    refine ss_cons (s_ret (x_make (P := pMk C) (W := WorldAt C rs) hMk hC hr (by decide) (xa_cons (T := is (.ref l)) mono_is (xvi 1) xa_nil) (fun vs F3 H3 g3 ht Hx ex => ?_) fun a F F' e h => h.mono e) gg fun v F3 H3 g3 ⟨a, e, h⟩ => kq v F3 H3 (gg.trans g3) ⟨a, e, ⟨h, hW⟩⟩)
    obtain ⟨v1, rfl, rfl⟩ := ht.one
    exact ⟨l, kvs, rs, rfl, ex _ _ (g3.h l _ (by simp) hH'), hD'.mono g3.f, hW, rfl⟩
end
end K01
end
section
set_option Elab.async false
set_option linter.all false
set_option maxRecDepth 100000
set_option maxHeartbeats 4000000
namespace R
open PySem L2 Evl
section
variable {q : Option Addr} {X : Cx} {σ : L2.St} {F H F0 H0 : Hp} {a b e : Expr} {es : List Expr} {pos p p2 : Pos} {x : Str} {d : PyData} {ds : List PyData} {R1 : Int → Prop} {ps : List Str} {kk j k : Nat} {Ts : List TyP}
/-- two bools: is not -/
theorem c_notB {u v : Bool} (ha : XD q X a σ F H (.bool u)) (hb : XD q X b σ F H (.bool v)) (hm : behindInMarks .IsNot b = false := by exact nomark _) : XCm q X .IsNot a b σ F H (!decide (u = v)) :=
  x_cmp op_isnot_bl mono_dt ha hb (fun x y F1 H1 g hx hy Q kq => by
    cases hx; cases hy
    exact ⟨u, v, rfl, rfl, kq F1 H1 g.end⟩) hm
/-- an item at a place that is not known -/
theorem x_ixE (ha : XD q X a σ F H (.list ds)) (hb : XP q X b σ F H (tZ R1)) (hR : ∀ i, R1 i → 0 ≤ i ∧ i < ds.length) (hs : PlainIx b := by exact fun _ _ => rfl) : XP q X (.Subscript a b pos) σ F H (tE fun e => e ∈ ds) := fun F1 H1 g Q kq =>
  wE_of (pe_ix ix_list wE_ok wE_ok hs) (ha F1 H1 g _ fun x F2 H2 g2 hx => hb F2 H2 (g.trans g2) _ fun y F3 H3 g3 ⟨i, ey, hi⟩ => by
    subst ey
    obtain ⟨l, xs, rfl, h1, h2⟩ := ds_lst (hx.mono g3.f)
    obtain ⟨i0, i1⟩ := hR i hi
    obtain ⟨n, rfl⟩ : ∃ n : Nat, i = (n : Int) := ⟨i.toNat, by omega⟩
    have hn : n < ds.length := by omega
    obtain ⟨v, hv, hd⟩ := h2.get' (show ds[n]? = some ds[n] by simp [hn])
    exact ⟨l, _, _, v, rfl, rfl, SqL.of (g3.s _ _ h1), atI_nat hv, kq _ F3 H3 (g2.trans g3) ⟨_, hd, List.getElem_mem hn⟩⟩)
/-- a call that makes a list of which something is known -/
theorem xmn_cs {sp : Sp} {RR : List PyData → Prop} (C : Cal X.prog X.w X.K X.mg X.base x kk ps sp) (hr : Room j X.A) (hj : kk ≤ j) (ha : XA q X (e :: es) σ F H Ts)
    (hs : ∀ vs F1 H1, Grow q F H F1 H1 → AllT Ts vs F1 → ∀ Q : VK, (∀ l xs ds F2 H2, Grow q F1 H1 F2 H2 → H1 l = none → F2 l = none → H2 l = some (.lst xs) → DsAll F2 xs ds → RR ds → Q (.ref l) H2) → sp vs H1 Q E0) (hg : Gl X x := by rfl)
    (hdb : (x == ("__debug__" : Str)) = false := by decide) (he : starEach (e :: es) X.env = (false, eval e X.env) :: starEach es X.env := by rfl) (hpl : (backTo pos (starEach es X.env)).any (·.1) = false := by rfl) :
    XMn q X (.Call (.Name x p) (e :: es) [] pos) σ F H RR := fun F1 H1 g Q kq => by
  obtain ⟨f, fd, G, hm, hk, hb⟩ := C
  refine wE_of (pe_call G (hr.mono hj) hg hm hk hb .nil pass0 wA_ok hdb he hpl) (ha F1 H1 g _ fun vs F2 H2 g2 hvs => ?_)
  rw [List.append_nil]
  exact hs vs F2 H2 (g.trans g2) hvs Q fun l xs ds F3 H3 g3 h1 h2 h3 h4 h5 => kq l xs ds F3 H3 (g2.trans g3) (g2.fresh h1) h2 h3 h4 h5
/-- a slice of a list, however it stands -/
theorem xm_slQ {l : Addr} {ns : List Int} {i : Int} {k2 : Nat} {p3 : Pos} (ha : XP q X a σ F H (tQ X.K l (ns.map .int))) : XMn q X (.Subscript a (.Slice none (some (.Constant (.int i) k2 p3)) none p2) pos) σ F H (fun ds => ds = (cutL ns none (some i)).map .int) := fun F1 H1 g Q kq =>
  wE_of (pe_slice sl_list wE_ok po_none (po_some wE_ok)) (ha F1 H1 g _ fun v F2 H2 g2 ⟨e, h⟩ => xz_c F2 H2 (g.trans g2) _ fun y F3 H3 g3 ⟨n, e2, hn⟩ => ⟨n, e2, by
    subst hn
    have gg := g2.trans g3
    exact ⟨l, ns.map .int, e, ex_l (g3.f.trans g3.s) h, fun t ht => kq t _ _ F3 _ (gg.trans (gg.mut ht)) (gg.fresh ht) (fresh_back gg.s ht) upd_same ((DsAll.of_ints ns).cut none (some n)) (cutL_map _ _ _ _)⟩⟩)
end
end R
end
section
set_option Elab.async false
set_option linter.all false
set_option maxRecDepth 100000
set_option maxHeartbeats 4000000
/-! R: four new things at once; three stores at once; a dict that is locked and walked; data in a list that may change; count -/
namespace R
open PySem PySem.Spec L2 PyProof.Rows Evl
/-- the lock is off again -/
theorem Grow.unl {F H F' H' : Hp} {d : Addr} {u z : HO} (s : Ex F H) (hF : F d = none) (hH : H d = some u) (g : Grow none (upd F d z) (upd H d z) F' H') : Grow none F H (R.del F' d) (upd H' d u) := by
  refine ⟨fun a o h => ?_, fun a o _ h => ?_, fun a o h => ?_, fun a o h => ?_, fun a o h1 h2 hm => ?_, fun _ h => (nomatch h), fun _ h => nomatch h⟩
  · have hne : a ≠ d := ne_of_none h hF
    unfold R.del
    rw [if_neg hne]
    exact g.f a o ((upd_ne hne).trans h)
  · by_cases e : a = d
    · subst e; rw [upd_same]; rw [hH] at h; exact h
    · rw [upd_ne e]; exact g.h a o (by simp) ((upd_ne e).trans h)
  · by_cases e : a = d
    · subst e; exact ⟨_, upd_same⟩
    · rw [upd_ne e]; exact g.v a o ((upd_ne e).trans h)
  · have hne : a ≠ d := fun e => by rw [e, del_at] at h; cases h
    rw [upd_ne hne]
    exact g.s a o (del_ex a o h)
  · by_cases e : a = d
    · rw [e]; exact del_at
    · unfold R.del
      rw [if_neg e]
      exact g.n0 a o ((upd_ne e).trans h1) ((upd_ne e).trans h2) hm
theorem lock_ex {F H : Hp} {d : Addr} {z : HO} (s : Ex F H) (hF : F d = none) : Ex (upd F d z) (upd H d z) := fun a o h => by
  by_cases e : a = d
  · subst e; rw [upd_same] at h ⊢; exact h
  · rw [upd_ne e] at h ⊢; exact s a o h
section
variable {X : Cx} {σ : L2.St} {F H F0 H0 : Hp} {a b c e : Expr} {pos p p' : Pos} {D : Ends} {d l : Addr}
/-- what the ends are while the thing at d is locked -/
def lockD (D : Ends) (d : Addr) (u : HO) (od : Obj) : Ends := ⟨fun σ' H' => H' d = some (.frz od u) ∧ D.nx σ' (upd H' d u), fun v H' => H' d = some (.frz od u) ∧ D.rt v (upd H' d u), fun σ' H' => H' d = some (.frz od u) ∧ D.bk σ' (upd H' d u), fun σ' H' => H' d = some (.frz od u) ∧ D.ct σ' (upd H' d u)⟩
theorem s_lock {st : Stmt} {u : HO} (hH : H d = some u) (mu : Mut (some u)) (k : ∀ od, wS X st (lockD D d u od) σ (upd H d (.frz od u))) : wS X st D σ H := wS_of (ps_lock wS_ok) ⟨d, u, hH, mu, k⟩
theorem walkD_keysT {F2 : Hp} {od : Obj} {kvs : List (List Key × V)} {ks : List (List Key)} (h : F2 d = some (.frz od (.dT kvs))) (hk : kvs.map (·.1) = ks) : WalkD (Itkt d od kvs) F2 (ks.map keyD) := by
  have hl : (ks.map keyD).length = kvs.length := by rw [← hk, List.length_map, List.length_map]
  refine ⟨fun i H hi e => ⟨e _ _ h, by omega⟩, fun H e => ⟨e _ _ h, by omega⟩, fun i H x H' F' hi e1 e2 y => ?_⟩
  obtain ⟨rfl, k, v, q, h1, rfl, h3⟩ := y
  have g := (Grow.start e2).learn [q] (Ex.refl H') (fun a ha => .inr ⟨k.map kV, by rw [List.mem_singleton.mp ha]; exact h3⟩)
  refine ⟨_, keyD k, g, ?_, key_ds (learn_at e2 h3 (by simp))⟩
  rw [List.getElem?_map, ← hk, List.getElem?_map, h1]; rfl
theorem xi_keysT {tg : Expr} {od : Obj} {kvs : List (List Key × V)} {ks : List (List Key)} (ha : XP none X a σ F H (is (.ref d))) (h : F d = some (.frz od (.dT kvs))) (hk : kvs.map (·.1) = ks) : XI none X tg a σ F H (ks.map keyD) := fun F1 H1 g R r =>
  wI_of (pi_keys wE_ok) (ha F1 H1 g _ fun v F2 H2 g2 hv => by
    subst hv
    have h2 := (g.trans g2).f _ _ h
    exact ⟨d, od, rfl, .inr ⟨kvs, g2.s _ _ h2, r _ F2 H2 g2 (walkD_keysT h2 hk)⟩⟩)
/-- d[k], d locked -/
theorem xd_getL {od : Obj} {kvs : List (List Key × V)} {ps : List (List Key × PyData)} {k : List Key} {dv : PyData} (hu : X.A.units + 1 < cLine) (ha : XP none X a σ F H (is (.ref d))) (hb : XD none X b σ F H (keyD k)) (hd : F d = some (.frz od (.dT kvs))) (hD : DGs F kvs ps) (hv : getD ps k = some dv) (hs : NoSl b := by exact fun _ _ => rfl) : XD none X (.Subscript a b pos) σ F H dv := fun F1 H1 g Q kq =>
  wE_of (pe_dget hu wE_ok wE_ok hs) (ha F1 H1 g _ fun v F2 H2 g2 ev => hb F2 H2 (g.trans g2) _ fun y F3 H3 g3 hy => by
    subst ev
    have gg := g.trans (g2.trans g3)
    obtain ⟨v, e1, e2⟩ := DGs.get hD.keys hD.vals hv
    obtain ⟨b, rfl, hb'⟩ := ds_key hy
    exact ⟨d, v, rfl, .inr ⟨kvs, k, b, .inr ⟨od, gg.s _ _ (gg.f _ _ hd)⟩, rfl, g3.s _ _ hb', e1.symm⟩, kq v F3 H3 (g2.trans g3) (e2.mono gg.f)⟩)
/-- data in a list that may change -/
theorem c_inM {q : Option Addr} {dd : PyData} {ds : List PyData} {vs : List V} (hu : X.A.units + 65 < cLine) (ha : XD q X a σ F H dd) (hb : XP q X b σ F H (is (.ref l))) (hH : H l = some (.lst vs)) (hD : DsAll F vs ds) (hq : q ≠ some l) (s1 : SeqAt.shaped dd = true) (s2 : SeqAt.shaped (.list ds) = true) (hm : behindInMarks .In b = false := by rfl) :
    XCm q X .In a b σ F H (ds.any fun z => PyData.eqv z dd) :=
  x_cmp (op_inD hu) mono_dt ha hb (fun x y F1 H1 g hx hy Q k => ⟨dd, ds, (hx.mono g.s).dp, by subst hy; exact .lst (SqL.of (g.h _ _ hq hH)) (((hD.mono g.f).mono g.s).dp), s1, s2, k F1 H1 g.end⟩) hm
theorem c_niM {q : Option Addr} {dd : PyData} {ds : List PyData} {vs : List V} (hu : X.A.units + 65 < cLine) (ha : XD q X a σ F H dd) (hb : XP q X b σ F H (is (.ref l))) (hH : H l = some (.lst vs)) (hD : DsAll F vs ds) (hq : q ≠ some l) (s1 : SeqAt.shaped dd = true) (s2 : SeqAt.shaped (.list ds) = true) (hm : behindInMarks .NotIn b = false := by rfl) :
    XCm q X .NotIn a b σ F H (!ds.any fun z => PyData.eqv z dd) :=
  x_cmp (op_notInD hu) mono_dt ha hb (fun x y F1 H1 g hx hy Q k => ⟨dd, ds, (hx.mono g.s).dp, by subst hy; exact .lst (SqL.of (g.h _ _ hq hH)) (((hD.mono g.f).mono g.s).dp), s1, s2, k F1 H1 g.end⟩) hm
/-- a, b, c, d = {}, {}, [], {} -/
theorem s_new4 {i1 i2 i3 i4 kt k2 : Nat} {x1 x2 x3 x4 : Str} {px1 px2 px3 px4 pe1 pe2 pe3 pe4 pt pt2 : Pos} (hc : X.calm = true) (hN : X.N.Nodup) (h1 : X.N[i1]? = some x1) (h2 : X.N[i2]? = some x2) (h3 : X.N[i3]? = some x3) (h4 : X.N[i4]? = some x4) (g0 : Grow none F0 H0 F H)
    (k : ∀ p1 p2 p3 p4 F2 H2, Grow none F H F2 H2 → H p1 = none → H p2 = none → H p3 = none → H p4 = none → F2 p1 = none → F2 p2 = none → F2 p3 = none → F2 p4 = none → H2 p1 = some (.dK []) → H2 p2 = some (.dT []) → H2 p3 = some (.lst []) → H2 p4 = some (.dT []) → p2 ≠ p4 →
      D.nx ((((σ.set i1 (some (.ref p1))).set i2 (some (.ref p2))).set i3 (some (.ref p3))).set i4 (some (.ref p4))) H2)
    (l1 : Loc X.env.scope x1 := by first | exact Or.inl rfl | exact Or.inr rfl) (l2 : Loc X.env.scope x2 := by first | exact Or.inl rfl | exact Or.inr rfl) (l3 : Loc X.env.scope x3 := by first | exact Or.inl rfl | exact Or.inr rfl) (l4 : Loc X.env.scope x4 := by first | exact Or.inl rfl | exact Or.inr rfl)
    (f1 : X.fn x1 = true ∨ X.env.scope.names.lookup x1 = some .local := by first | exact .inl rfl | exact .inr rfl) (f2 : X.fn x2 = true ∨ X.env.scope.names.lookup x2 = some .local := by first | exact .inl rfl | exact .inr rfl) (f3 : X.fn x3 = true ∨ X.env.scope.names.lookup x3 = some .local := by first | exact .inl rfl | exact .inr rfl) (f4 : X.fn x4 = true ∨ X.env.scope.names.lookup x4 = some .local := by first | exact .inl rfl | exact .inr rfl)
    (hs : swapsWithSole [.Tuple [.Name x1 px1, .Name x2 px2, .Name x3 px3, .Name x4 px4] kt pt] (.Tuple [.Dict [] [] pe1, .Dict [] [] pe2, .List [] pe3, .Dict [] [] pe4] k2 pt2) pos.line X.env = pure false := by rfl)
    (hw : swappedStores [.Tuple [.Name x1 px1, .Name x2 px2, .Name x3 px3, .Name x4 px4] kt pt] (.Tuple [.Dict [] [] pe1, .Dict [] [] pe2, .List [] pe3, .Dict [] [] pe4] k2 pt2) X.env = pure none := by rfl) :
    wS X (.Assign [.Tuple [.Name x1 px1, .Name x2 px2, .Name x3 px3, .Name x4 px4] kt pt] (.Tuple [.Dict [] [] pe1, .Dict [] [] pe2, .List [] pe3, .Dict [] [] pe4] k2 pt2) pos) D σ H := by
  refine wS_of (ps_asg (pe_tup (pa_cons pe_dnewK (pa_cons pe_dnewT (pa_cons (pe_lst pa_nil) (pa_cons pe_dnewT pa_nil))))) (pg_tup hc (pgs_cons (pg_name hN h1 l1 f1) (pgs_cons (pg_name hN h2 l2 f2) (pgs_cons (pg_name hN h3 l3 f3) (pgs_cons (pg_name hN h4 l4 f4) pgs_nil))))) hs hw) ?_
  intro p1 e1 p2 e2
  refine ⟨by show 0 ≤ sizeLine; decide, fun p3 e3 p4 e4 => ⟨by show 4 ≤ sizeLine; decide, fun t et => ?_⟩⟩
  have g1 : Grow none F H F (upd H p1 (.dK [])) := g0.mut e1
  have g2 := g1.trans (g1.mut (o := .dT []) e2)
  have g3 := g2.trans (g2.mut (o := .lst []) e3)
  have g4 := g3.trans (g3.mut (o := .dT []) e4)
  have g5 := g4.trans (g4.new (o := .tup [.ref p1, .ref p2, .ref p3, .ref p4]) et)
  refine ⟨t, _, rfl, SqT.of upd_same, rfl, _, _, rfl, _, _, rfl, _, _, rfl, _, _, rfl, rfl, ?_⟩
  have n12 : p2 ≠ p1 := fun e => by rw [e, upd_same] at e2; cases e2
  have n13 : p3 ≠ p1 := fun e => by rw [e, upd_ne (Ne.symm n12), upd_same] at e3; cases e3
  have n23 : p3 ≠ p2 := fun e => by rw [e, upd_same] at e3; cases e3
  have n14 : p4 ≠ p1 := fun e => by rw [e, upd_ne (Ne.symm n13), upd_ne (Ne.symm n12), upd_same] at e4; cases e4
  have n24 : p4 ≠ p2 := fun e => by rw [e, upd_ne (Ne.symm n23), upd_same] at e4; cases e4
  have n34 : p4 ≠ p3 := fun e => by rw [e, upd_same] at e4; cases e4
  have q1 := ((((g0.mut (o := .dK []) e1).trans (g1.mut (o := .dT []) e2)).trans (g2.mut (o := .lst []) e3)).trans (g3.mut (o := .dT []) e4))
  have w1 : (upd (upd (upd (upd H p1 (.dK [])) p2 (.dT [])) p3 (.lst [])) p4 (.dT [])) p1 = some (.dK []) := by rw [upd_ne (Ne.symm n14), upd_ne (Ne.symm n13), upd_ne (Ne.symm n12), upd_same]
  have w2 : (upd (upd (upd (upd H p1 (.dK [])) p2 (.dT [])) p3 (.lst [])) p4 (.dT [])) p2 = some (.dT []) := by rw [upd_ne (Ne.symm n24), upd_ne (Ne.symm n23), upd_same]
  have w3 : (upd (upd (upd (upd H p1 (.dK [])) p2 (.dT [])) p3 (.lst [])) p4 (.dT [])) p3 = some (.lst []) := by rw [upd_ne (Ne.symm n34), upd_same]
  have w4 : (upd (upd (upd (upd H p1 (.dK [])) p2 (.dT [])) p3 (.lst [])) p4 (.dT [])) p4 = some (.dT []) := upd_same
  have h2n := g1.fresh e2
  have h3n := g2.fresh e3
  have h4n := g3.fresh e4
  refine k p1 p2 p3 p4 _ _ g5 e1 h2n h3n h4n ?_ ?_ ?_ ?_ ?_ ?_ ?_ ?_ (Ne.symm n24)
  · rw [upd_ne (ne_of_none w1 et)]; exact fresh_back g0.s e1
  · rw [upd_ne (ne_of_none w2 et)]; exact fresh_back g0.s h2n
  · rw [upd_ne (ne_of_none w3 et)]; exact fresh_back g0.s h3n
  · rw [upd_ne (ne_of_none w4 et)]; exact fresh_back g0.s h4n
  · rw [upd_ne (ne_of_none w1 et)]; exact w1
  · rw [upd_ne (ne_of_none w2 et)]; exact w2
  · rw [upd_ne (ne_of_none w3 et)]; exact w3
  · rw [upd_ne (ne_of_none w4 et)]; exact w4
/-- a[x], b[y], c[z] = v, w, u -/
theorem s_sub3 {kt k2 : Nat} {pt pt2 q1 q2 q3 : Pos} {o1 o2 o3 x1 x2 x3 v1 v2 v3 : Expr} {d1 d2 d3 : Addr} {s : Str} {ka kb : List Key} {y1 y2 y3 : PyData} {kv1 : List (Key × V)} {kv2 kv3 : List (List Key × V)} (hc : X.calm = true) (hu : X.A.units + 1 < cLine) (hv : XA none X [v1, v2, v3] σ F H [dt y1, dt y2, dt y3])
    (a1 : ∀ F' H', Grow none F0 H0 F' H' → XP none X o1 σ F' H' (is (.ref d1))) (a2 : ∀ F' H', Grow none F0 H0 F' H' → XP none X o2 σ F' H' (is (.ref d2))) (a3 : ∀ F' H', Grow none F0 H0 F' H' → XP none X o3 σ F' H' (is (.ref d3)))
    (b1 : ∀ F' H', Grow none F0 H0 F' H' → Ex F F' → XD none X x1 σ F' H' (.str s)) (b2 : ∀ F' H', Grow none F0 H0 F' H' → Ex F F' → XD none X x2 σ F' H' (keyD ka)) (b3 : ∀ F' H', Grow none F0 H0 F' H' → Ex F F' → XD none X x3 σ F' H' (keyD kb)) (g0 : Grow none F0 H0 F H)
    (n1 : H0 d1 = none) (n2 : H0 d2 = none) (n3 : H0 d3 = none) (m1 : F d1 = none) (m2 : F d2 = none) (m3 : F d3 = none) (w1 : H d1 = some (.dK kv1)) (w2 : H d2 = some (.dT kv2)) (w3 : H d3 = some (.dT kv3)) (hne : d2 ≠ d3) (z1 : kv1.length < 100000) (z2 : kv2.length < 100000) (z3 : kv3.length < 100000)
    (k : ∀ u1 u2 u3 F2 H2, Grow none F0 H0 F2 H2 → Ex F F2 → Ds F2 u1 y1 → Ds F2 u2 y2 → Ds F2 u3 y3 → F2 d1 = none → F2 d2 = none → F2 d3 = none → H2 d1 = some (.dK (putK kv1 (.inr s) u1)) → H2 d2 = some (.dT (putK kv2 ka u2)) → H2 d3 = some (.dT (putK kv3 kb u3)) → (∀ x xs, F x = none → H x = some (.lst xs) → F2 x = none ∧ H2 x = some (.lst xs)) → D.nx σ H2)
    (hn : (assignEach [.Subscript o1 x1 q1, .Subscript o2 x2 q2, .Subscript o3 x3 q3] X.env).length = 3 := by rfl) (hst : (assignEach [.Subscript o1 x1 q1, .Subscript o2 x2 q2, .Subscript o3 x3 q3] X.env).findIdx? (·.1) = none := by rfl)
    (e1 : (assignEach [.Subscript o1 x1 q1, .Subscript o2 x2 q2, .Subscript o3 x3 q3] X.env).map (·.2) = assign (.Subscript o1 x1 q1) X.env :: (assignEach [.Subscript o2 x2 q2, .Subscript o3 x3 q3] X.env).map (·.2) := by rfl)
    (e2 : (assignEach [.Subscript o2 x2 q2, .Subscript o3 x3 q3] X.env).map (·.2) = assign (.Subscript o2 x2 q2) X.env :: (assignEach [.Subscript o3 x3 q3] X.env).map (·.2) := by rfl)
    (e3 : (assignEach [.Subscript o3 x3 q3] X.env).map (·.2) = assign (.Subscript o3 x3 q3) X.env :: (assignEach [] X.env).map (·.2) := by rfl)
    (g1 : PG X (.Subscript o1 x1 q1) (gSub (wE X o1) (wE X x1) rSetD)) (g2 : PG X (.Subscript o2 x2 q2) (gSub (wE X o2) (wE X x2) rSetD)) (g3 : PG X (.Subscript o3 x3 q3) (gSub (wE X o3) (wE X x3) rSetD))
    (hs : swapsWithSole [.Tuple [.Subscript o1 x1 q1, .Subscript o2 x2 q2, .Subscript o3 x3 q3] kt pt] (.Tuple [v1, v2, v3] k2 pt2) pos.line X.env = pure false := by rfl)
    (hw : swappedStores [.Tuple [.Subscript o1 x1 q1, .Subscript o2 x2 q2, .Subscript o3 x3 q3] kt pt] (.Tuple [v1, v2, v3] k2 pt2) X.env = pure none := by rfl) :
    wS X (.Assign [.Tuple [.Subscript o1 x1 q1, .Subscript o2 x2 q2, .Subscript o3 x3 q3] kt pt] (.Tuple [v1, v2, v3] k2 pt2) pos) D σ H := by
  refine wS_of (ps_asg (pe_tup wA_ok) (pg_tup hc (pgs_cons g1 (pgs_cons g2 (pgs_cons g3 pgs_nil e3) e2) e1) hn hst) hs hw) (hv F H g0.end _ fun vs F1 H1 j1 ht => ?_)
  obtain ⟨u1, u2, u3, rfl, t1, t2, t3⟩ := ht.three
  refine ⟨by show 3 ≤ sizeLine; decide, fun p hp => ?_⟩
  have j2 := j1.trans (j1.new (o := .tup [u1, u2, u3]) hp)
  have J2 := g0.trans j2
  have ef : Ex F1 (upd F1 p (.tup [u1, u2, u3])) := Ex.new (fresh_back j1.s hp)
  refine ⟨p, _, rfl, SqT.of upd_same, rfl, u1, [u2, u3], rfl, a1 _ _ J2 _ _ J2.end _ fun v F3 H3 j3 hv => ?_⟩
  subst hv
  have j23 := j2.trans j3
  refine b1 _ _ (J2.trans j3) j23.f _ _ (J2.trans j3).end _ fun x F4 H4 j4 hx => ?_
  have j24 := j23.trans j4
  have J4 := g0.trans j24
  rw [ds_str hx]
  have w14 := j24.h _ _ (by simp) w1
  have m14 := j24.nK _ _ m1 w1
  refine ⟨d1, _, rfl, DPut.k (k := .inr s) w14 (sz_lt z1), ?_⟩
  have J5 := J4.put (o := .dK (putK kv1 (.inr s) u1)) n1 m14
  have h21 : d2 ≠ d1 := fun e => by rw [e, w1] at w2; cases w2
  have h31 : d3 ≠ d1 := fun e => by rw [e, w1] at w3; cases w3
  refine ⟨u2, [u3], rfl, a2 _ _ J5 _ _ J5.end _ fun v F6 H6 j6 hv => ?_⟩
  subst hv
  refine b2 _ _ (J5.trans j6) (j24.f.trans j6.f) _ _ (J5.trans j6).end _ fun x F7 H7 j7 hx => ?_
  obtain ⟨kb1, rfl, hkb⟩ := ds_key hx
  have j57 := j6.trans j7
  have J7 := J5.trans j57
  have w24 := j24.h _ _ (by simp) w2
  have m24 := j24.nT _ _ m2 w2
  have w25 : (upd H4 d1 (.dK (putK kv1 (.inr s) u1))) d2 = some (.dT kv2) := (upd_ne h21).trans w24
  have w27 := j57.h _ _ (by simp) w25
  have m27 := j57.nT _ _ m24 w25
  refine ⟨d2, _, rfl, DPut.t w27 (j7.s _ _ hkb) (sz_lt z2), ?_⟩
  have J8 := J7.put (o := .dT (putK kv2 ka u2)) n2 m27
  refine ⟨u3, [], rfl, a3 _ _ J8 _ _ J8.end _ fun v F9 H9 j9 hv => ?_⟩
  subst hv
  refine b3 _ _ (J8.trans j9) ((j24.f.trans j57.f).trans j9.f) _ _ (J8.trans j9).end _ fun x F10 H10 j10 hx => ?_
  obtain ⟨kb2, rfl, hkb2⟩ := ds_key hx
  have j810 := j9.trans j10
  have J10 := J8.trans j810
  have w34 := j24.h _ _ (by simp) w3
  have m34 := j24.nT _ _ m3 w3
  have w35 : (upd H4 d1 (.dK (putK kv1 (.inr s) u1))) d3 = some (.dT kv3) := (upd_ne h31).trans w34
  have w37 := j57.h _ _ (by simp) w35
  have m37 := j57.nT _ _ m34 w35
  have w38 : (upd H7 d2 (.dT (putK kv2 ka u2))) d3 = some (.dT kv3) := (upd_ne (Ne.symm hne)).trans w37
  have w310 := j810.h _ _ (by simp) w38
  have m310 := j810.nT _ _ m37 w38
  refine ⟨d3, _, rfl, DPut.t w310 (j10.s _ _ hkb2) (sz_lt z3), rfl, ?_⟩
  have J11 := J10.put (o := .dT (putK kv3 kb u3)) n3 m310
  -- the first two, at the end
  have w15 : (upd H4 d1 (.dK (putK kv1 (.inr s) u1))) d1 = some (.dK (putK kv1 (.inr s) u1)) := upd_same
  have w17 := j57.h _ _ (by simp) w15
  have m17 := j57.nK _ _ m14 w15
  have w18 : (upd H7 d2 (.dT (putK kv2 ka u2))) d1 = some (.dK (putK kv1 (.inr s) u1)) := (upd_ne (Ne.symm h21)).trans w17
  have w110 := j810.h _ _ (by simp) w18
  have m110 := j810.nK _ _ m17 w18
  have w28 : (upd H7 d2 (.dT (putK kv2 ka u2))) d2 = some (.dT (putK kv2 ka u2)) := upd_same
  have w210 := j810.h _ _ (by simp) w28
  have m210 := j810.nT _ _ m27 w28
  have E1 : Ex F1 F10 := ((ef.trans (j3.trans j4).f).trans j57.f).trans j810.f
  refine k u1 u2 u3 F10 _ J11 ((j24.f.trans j57.f).trans j810.f) (Ds.mono E1 t1) (Ds.mono E1 t2) (Ds.mono E1 t3) m110 m210 m310 ((upd_ne (Ne.symm h31)).trans w110) ((upd_ne hne).trans w210) upd_same fun x xs f0 h0 => ?_
  have y1 : x ≠ d1 := fun e => by rw [e, w1] at h0; cases h0
  have y2 : x ≠ d2 := fun e => by rw [e, w2] at h0; cases h0
  have y3 : x ≠ d3 := fun e => by rw [e, w3] at h0; cases h0
  have f4 := j24.n _ _ f0 h0
  have h4 := (upd_ne (o := .dK (putK kv1 (.inr s) u1)) y1).trans (j24.h _ _ (by simp) h0)
  have f7 := j57.n _ _ f4 h4
  have h7 := (upd_ne (o := .dT (putK kv2 ka u2)) y2).trans (j57.h _ _ (by simp) h4)
  exact ⟨j810.n _ _ f7 h7, (upd_ne y3).trans (j810.h _ _ (by simp) h7)⟩
/-- l.count(x): how many are equal -/
def rCountD (K : PySem.W.Frag) : V → List V → Hp → VK → Prop := fun x xs H Q => ∃ (a : Addr) (y : V) (d : PyData) (ds : List PyData), x = V.ref a ∧ xs = [y] ∧ Dp K H (V.ref a) (.list ds) ∧ Dp K H y d ∧ SeqAt.shaped (.list ds) = true ∧ SeqAt.shaped d = true ∧ Q (.int (ds.countP fun z => PyData.eqv z d : Nat)) H
theorem mt_countD (hu : X.A.units + 65 < cLine) : MtR X "list.count" (rCountD X.K) := by
  intro pins s σ H x xs v us Q I rx rxs h
  obtain ⟨a, y, d, ds, rfl, rfl, hl, hy, sl, sd, q⟩ := h
  cases rx
  obtain ⟨uy, rfl, ry⟩ := rxs.one
  obtain ⟨bs, r1⟩ := Dp.reads I d y uy hy ry
  have hxs : PyData.canLayAll0 ds = true := SeqAt.canLay_of_shaped sl
  have hroom : X.A.units + 1 + min (PyData.depthAll ds) d.depth < cLine := room_in_shaped sd hu
  cases hl with
  | lst hs ha =>
    obtain ⟨its, rv, ⟨⟨cls, dd, data, sls⟩, n, ho, hc, hdn, hdt⟩, hlen⟩ := I.list hs
    simp only at hc hdt
    subst hc hdt
    obtain ⟨as, h4⟩ := Dp.readsAll I ds _ its ha rv
    have hmap : its.map (SeqAt.readOf s.heap) = ds := SeqAt.readsAll_map ds its as hxs h4
    refine call_meets PySem.F.slot_list_count ⟨_, ho, rfl⟩ PySem.F.entry_list_count (PySem.F.args_list_count_2 _ _)
      (SeqAt.list_countAt a its.toArray n dd sls uy (fun u => PyData.eqv (SeqAt.readOf s.heap u) d)) ⟨ho, SeqAt.items_eqAt (vs := its.toArray) (show ReadsAll s.heap its.toArray.toList ds as from h4) r1 hxs (SeqAt.canLay_of_shaped sd) hroom, ?_⟩
    have ec : its.toArray.toList.countP (fun u => PyData.eqv (SeqAt.readOf s.heap u) d) = ds.countP fun z => PyData.eqv z d := by
      show its.countP (fun u => PyData.eqv (SeqAt.readOf s.heap u) d) = _
      rw [← hmap, List.countP_map]; rfl
    rw [ec]
    exact ⟨.int (ds.countP fun z => PyData.eqv z d : Nat), H, I.tok _, ⟨s.toks, rfl⟩, q⟩
theorem xd_count {q : Option Addr} {ds : List PyData} {dd : PyData} {apos cpos : Pos} (hu : X.A.units + 65 < cLine) (ha : XD q X a σ F H (.list ds)) (hb : XD q X b σ F H dd) (s1 : SeqAt.shaped (.list ds) = true) (s2 : SeqAt.shaped dd = true)
    (hbase : attributeBase a "count" X.env (eval a X.env) = eval a X.env := by rfl)
    (hfew : ((backTo cpos (starEach [b] X.env)).all (fun x => !x.1) && (backToKw cpos (keywordEach [] X.env)).all (fun x => x.1.isSome)
      && decide (([b] : List Expr).length + ([] : List Keyword).length + (if ([] : List Keyword).isEmpty then 0 else 1) < 30)) = true := by rfl)
    (hline : (apos.endLine == cpos.line) = true := by rfl) (hst : starEach [b] X.env = [(false, eval b X.env)] := by rfl) : XD q X (.Call (.Attribute a "count" apos) [b] [] cpos) σ F H (.int (ds.countP fun z => PyData.eqv z dd : Nat)) := fun F1 H1 g Q kq =>
  wE_of (pe_bm PySem.F.plainAttrs_list PySem.F.slot_list_count PySem.F.type_list_count (mt_countD hu) wE_ok (pa_cons wE_ok pa_nil hst) hbase hfew hline hst (by rfl))
    (ha F1 H1 g _ fun v F2 H2 g2 hv => by
      obtain ⟨l, xs, rfl, h1, h2⟩ := ds_lst hv
      exact ⟨.inl ⟨rfl, _, SqL.of (g2.s _ _ h1)⟩, hb F2 H2 (g.trans g2) _ fun y F3 H3 g3 hy => ⟨l, y, dd, ds, rfl, rfl, .lst (SqL.of (g3.s _ _ (g3.f _ _ h1))) (((h2.mono g3.f).mono g3.s).dp), (hy.mono g3.s).dp, s1, s2, kq _ F3 H3 (g2.trans g3) (.int _)⟩⟩)
end
end R
end
section
set_option Elab.async false
set_option linter.all false
set_option maxRecDepth 100000
set_option maxHeartbeats 4000000
/-! R: tests of which only something is known, with or; a comprehension that takes all that are sure; tuples joined; x = name.pop(e) -/
namespace R
open PySem L2 Evl
section
variable {q : Option Addr} {X : Cx} {σ : L2.St} {F H F0 H0 : Hp} {a b c e tg elt iter : Expr} {pos spos p p2 py : Pos} {x y : Str} {l : Addr} {vs : List V} {ds es : List PyData} {D : Ends} {B1 B2 : Bool → Prop} {R1 : Int → Prop} {T : TyP}
theorem xwn_or1 (ha : XTn q X a σ F H B1) : XWn q X (.BoolOp .Or [a] pos) σ F H B1 := fun F1 H1 g Q kq => wW_of (pw_or1 wT_ok) (ha F1 H1 g Q kq)
theorem xwn_or {u : Bool} {r : List Expr} (ha : XT q X a σ F H u) (hb : u = false → XWn q X (.BoolOp .Or (b :: r) pos) σ F H (fun _ => True)) : XWn q X (.BoolOp .Or (a :: b :: r) pos) σ F H (fun z => u = true → z = true) := fun F1 H1 g Q kq =>
  wW_of (pw_or wT_ok wW_ok) (ha F1 H1 g _ fun F2 H2 g2 => by
    cases u with
    | true => exact kq true F2 H2 g2 fun _ => rfl
    | false => exact hb rfl F2 H2 (g.trans g2) Q fun v F3 H3 g3 _ => kq v F3 H3 (g2.trans g3) fun e => nomatch e)
theorem xd_catT (ha : XD q X a σ F H (.tuple ds)) (hb : XD q X b σ F H (.tuple es)) (hl : ds.length + es.length ≤ 100000 := by simp) : XD q X (.BinOp a .Add b pos) σ F H (.tuple (ds ++ es)) := fun F1 H1 g Q kq =>
  wE_of (pe_op op_catA wE_ok wE_ok) (ha F1 H1 g _ fun x F2 H2 g2 hx => hb F2 H2 (g.trans g2) _ fun y F3 H3 g3 hy => by
    obtain ⟨p, xs, rfl, h1, h2⟩ := ds_tup (hx.mono g3.f)
    obtain ⟨p', ys, rfl, h3, h4⟩ := ds_tup hy
    refine ⟨p, p', xs, ys, rfl, rfl, SqT.of (g3.s _ _ h1), SqT.of (g3.s _ _ h3), sz_of (by rw [h2.length, h4.length]; exact hl), fun e => ?_, fun _ e => ?_, fun _ _ t ht => ?_⟩
    · subst e
      cases h2
      exact kq _ F3 H3 (g2.trans g3) (.tup h3 h4)
    · subst e
      cases h4
      rw [List.append_nil] at kq
      exact kq _ F3 H3 (g2.trans g3) (.tup h1 h2)
    · have g4 := g3.end.new (o := .tup (xs ++ ys)) ht
      exact kq _ _ _ ((g2.trans g3).trans g4) (.tup upd_same ((h2.append h4).mono g4.f)))
/-- x = name.pop(e) -/
theorem s_setPop {i j : Nat} {ap1 cp1 : Pos} (hN : X.N.Nodup) (hi : X.N[i]? = some y) (hj : X.N[j]? = some x) (hσ : σ[j]? = some (some (.ref l))) (hf : F l = none) (h0 : H0 l = none) (hH : H l = some (.lst vs)) (ha : XP q X a σ F H (tZ R1)) (g0 : Grow q F0 H0 F H) (hR : ∀ j, R1 j → 0 ≤ j ∧ j < vs.length) (hz : vs.length < 100000)
    (k : ∀ (n : Nat) v F2 H2, Grow q F H F2 H2 → vs[n]? = some v → F2 l = none → D.nx (σ.set i (some v)) (upd H2 l (.lst (vs.eraseIdx n)))) (hx : Loc X.env.scope y := by first | exact Or.inl rfl | exact Or.inr rfl) (hv : Vis X.env.scope x := by first | exact Or.inl rfl | exact Or.inr (Or.inl rfl) | exact Or.inr (Or.inr rfl))
    (hsw : swapsWith (.Call (.Attribute (.Name x p) "pop" ap1) [a] [] cp1) (some (.Name y py)) pos.line X.env = pure false := by rfl)
    (hbase : attributeBase (.Name x p) "pop" X.env (eval (.Name x p) X.env) = eval (.Name x p) X.env := by rfl)
    (hfew : ((backTo cp1 (starEach [a] X.env)).all (fun x => !x.1) && (backToKw cp1 (keywordEach [] X.env)).all (fun x => x.1.isSome)
      && decide (([a] : List Expr).length + ([] : List Keyword).length + (if ([] : List Keyword).isEmpty then 0 else 1) < 30)) = true := by rfl)
    (hline : (ap1.endLine == cp1.line) = true := by rfl) (hst : starEach [a] X.env = [(false, eval a X.env)] := by rfl)
    (hd : (x == ("__debug__" : Str)) = false := by decide) (hcd : (x == ("__classdict__" : Str)) = false := by decide)
    (hfn : X.fn y = true ∨ X.env.scope.names.lookup y = some .local := by first | exact .inl rfl | exact .inr rfl) :
    wS X (.Assign [.Name y py] (.Call (.Attribute (.Name x p) "pop" ap1) [a] [] cp1) pos) D σ H :=
  wS_of (ps_set hN hi hx (pe_bm PySem.F.plainAttrs_list PySem.F.slot_list_pop PySem.F.type_list_pop mt_popAt (pe_var hj hv hd hcd) (pa_cons wE_ok pa_nil hst) hbase hfew hline hst (by rfl)) hsw hfn)
    ⟨_, hσ, .inl ⟨rfl, _, SqL.of hH⟩, ha F H g0.end _ fun z F2 H2 g2 ⟨r, ez, hr⟩ => by
      subst ez
      obtain ⟨r0, r1⟩ := hR r hr
      obtain ⟨n, rfl⟩ : ∃ n : Nat, r = (n : Int) := ⟨r.toNat, by omega⟩
      have hn : n < vs.length := by omega
      have e1 := g2.h l _ (g0.a0.ne h0) hH
      have hw : (vs.length : Int) < 100000 := by omega
      refine ⟨l, vs, n, n, vs[n], rfl, rfl, e1, by omega, by omega, ?_, by simp [hn], k n vs[n] F2 H2 g2 (by simp [hn]) (g2.n l _ hf hH)⟩
      unfold seqIndex?
      simp [hn]
      rw [if_neg (by omega : ¬ (n : Int) < 0)]
      exact ⟨⟨by omega, by omega⟩, by omega⟩⟩
end
theorem lcDp {q : Option Addr} {ds : List PyData} {σ : L2.St} {J : It} {F0 H0 F2 H2 : Hp} {gx : TG} {tt : TT} {te : TE} {vs : List Nat} {pr : PyData → Bool} {gm : PyData → PyData} {Q : VK} (g2 : Grow q F0 H0 F2 H2) (w : WalkD J F2 ds) (hl : ds.length ≤ 100000)
    (hb : ∀ d x F' H', d ∈ ds → Grow q F2 H2 F' H' → Ds F' x d → ∀ R : L2.St → Hp → Prop, (∀ σ2, wipe σ2 vs = wipe σ vs → (∀ Q : Bool → Hp → Prop, (∀ b F3 H3, Grow q F' H' F3 H3 → (pr d = true → b = true) → Q b H3) → tt σ2 H' Q) →
        (∀ F3 H3, Grow q F' H' F3 H3 → ∀ Q : VK, (∀ v F4 H4, Grow q F3 H3 F4 H4 → Ds F4 v (gm d) → Q v H4) → te σ2 H3 Q) → R σ2 H') → gx x (wipe σ vs) H' R)
    (kq : ∀ p xs sub F3 H3, Grow q F2 H2 F3 H3 → H2 p = none → F3 p = none → H3 p = some (.lst xs) → List.Sublist sub ds → (∀ d ∈ ds, pr d = true → d ∈ sub) → DsAll F3 xs (sub.map gm) → Q (.ref p) H3) :
    ∀ D, H2 D = none → ∃ W : Nat → Nat → Hp → Prop, (∃ m, W 0 m (upd H2 D (.lst []))) ∧ ∀ i m H, W i m H →
      (J.stop i H ∧ Q (.ref D) H) ∨ (J.go i H ∧ ∃ Nx : Hp → Prop, (∀ H', Nx H' → ∃ m', m' < m ∧ W (i + 1) m' H') ∧ ∀ x H', J.yld i H x H' → gx x (wipe σ vs) H' fun σ2 H2 => wipe σ2 vs = wipe σ vs ∧ tt σ2 H2 fun b H3 =>
        if b = true then te σ2 H3 fun y H4 => ∃ acc, H4 D = some (.lst acc) ∧ acc.length < sizeLine ∧ Nx (upd H4 D (.lst (acc ++ [y]))) else Nx H3) := by
  intro D hD
  let Pv : Nat → Hp → Prop := fun i H' => ∃ F' acc sub, Grow q F2 H2 F' H' ∧ F' D = none ∧ H' D = some (.lst acc) ∧ List.Sublist sub (ds.take i) ∧ (∀ d ∈ ds.take i, pr d = true → d ∈ sub) ∧ DsAll F' acc (sub.map gm)
  refine ⟨fun i m H => m = ds.length - i ∧ i ≤ ds.length ∧ Pv i H, ⟨ds.length, by simp, Nat.zero_le _, F2, [], [], g2.mut hD, fresh_back g2.s hD, upd_same, List.nil_sublist _, by simp, .nil⟩, ?_⟩
  rintro i m H ⟨rfl, hi, F', acc, sub, gw, hFD, hHD, hsub, hall, hacc⟩
  by_cases hlt : i < ds.length
  · refine .inr ⟨w.goes i H hlt (gw.f.trans gw.s), Pv (i + 1), fun H' p' => ⟨ds.length - (i + 1), by omega, rfl, hlt, p'⟩, fun x H' y => ?_⟩
    obtain ⟨F'', d, g3, hd, hx⟩ := w.yields i H x H' F' hlt gw.f gw.s y
    have hmem : d ∈ ds := List.mem_of_getElem? hd
    have hqD : q ≠ some D := g2.a1.ne hD
    have g4 := gw.trans (g3.weak gw.a1)
    have hF''D : F'' D = none := g3.n D _ hFD hHD
    have hH'D := g3.h D _ (by simp) hHD
    have htk : ds.take (i + 1) = ds.take i ++ [d] := by rw [List.take_succ, hd]; rfl
    refine hb d x F'' H' hmem g4 hx _ fun σ2 hw ht he => ⟨hw, ht _ fun b F3 H3 g5 hbp => ?_⟩
    have hF3D : F3 D = none := g5.n D _ hF''D hH'D
    have hH3D := g5.h D _ hqD hH'D
    by_cases hp : b = true
    · rw [if_pos hp]
      refine he F3 H3 g5 _ fun v F4 H4 g6 hv => ?_
      have hF4D : F4 D = none := g6.n D _ hF3D hH3D
      have hH4D := g6.h D _ hqD hH3D
      have gg := (g4.trans g5).trans g6
      refine ⟨acc, hH4D, ?_, F4, acc ++ [v], sub ++ [d], gg.put hD hF4D, hF4D, upd_same, ?_, ?_, ?_⟩
      · have : acc.length ≤ i := by
          rw [hacc.length, List.length_map]
          exact Nat.le_trans hsub.length_le (by rw [List.length_take]; omega)
        exact sz_lt (by omega)
      · rw [htk]
        exact hsub.append (List.Sublist.refl _)
      · intro z hz hpz
        rw [htk] at hz
        rcases List.mem_append.mp hz with h | h
        · exact List.mem_append_left _ (hall z h hpz)
        · exact List.mem_append_right _ h
      · rw [List.map_append]
        exact (hacc.mono (g3.f.trans (g5.f.trans g6.f))).append (.cons hv .nil)
    · rw [if_neg hp]
      refine ⟨F3, acc, sub, g4.trans g5, hF3D, hH3D, by rw [htk]; exact hsub.trans (List.sublist_append_left _ _), fun z hz hpz => ?_, hacc.mono (g3.f.trans g5.f)⟩
      rw [htk] at hz
      rcases List.mem_append.mp hz with h | h
      · exact hall z h hpz
      · rw [List.mem_singleton.mp h] at hpz
        exact absurd (hbp hpz) hp
  · have e : i = ds.length := by omega
    subst e
    rw [List.take_length] at hsub hall
    exact .inl ⟨w.stops H (gw.f.trans gw.s), kq D acc sub F' H gw hD hFD hHD hsub hall hacc⟩
section
variable {q : Option Addr} {X : Cx} {σ : L2.St} {F H F0 H0 : Hp} {c tg elt iter : Expr} {pos spos py : Pos} {y : Str} {ds : List PyData} {D : Ends} {scope : Scope} {own : List (Str × Nat)} {gx : TG} {pr : PyData → Bool} {gm : PyData → PyData} {asg : L2.St → List V → L2.St} {esf : PyData → List PyData} {i : Nat}
/-- [elt for tg in iter if c], c true for the sure ones -/
theorem xmn_lcP (L : LcOk X tg scope own iter gx) (hi : XI q X tg iter σ F H ds) (hT : ∀ d, d ∈ ds → Tgt gx asg d (esf d)) (hl : ds.length ≤ 100000) (hw : ∀ vs, wipe (asg (wipe σ (own.map (·.2))) vs) (own.map (·.2)) = wipe σ (own.map (·.2)))
    (hp : ∀ d vs F1 H1, d ∈ ds → Grow q F H F1 H1 → DsAll F1 vs (esf d) → InB X scope fun Y => XTn q Y c (asg (wipe σ (own.map (·.2))) vs) F1 H1 (fun b => pr d = true → b = true))
    (he : ∀ d vs F1 H1, d ∈ ds → Grow q F H F1 H1 → DsAll F1 vs (esf d) → InB X scope fun Y => XD q Y elt (asg (wipe σ (own.map (·.2))) vs) F1 H1 (gm d)) :
    XMn q X (.ListComp elt [⟨tg, iter, [c], 0⟩] scope pos) σ F H (fun zs => ∃ sub, List.Sublist sub ds ∧ (∀ d ∈ ds, pr d = true → d ∈ sub) ∧ zs = sub.map gm) := fun F1 H1 g Q kq =>
  wE_of (pe_lcIf L) (by
    refine hi F1 H1 g _ fun J F2 H2 g2 w => lcDp (pr := pr) (gm := gm) g2 w hl (fun d x F' H' hd gw hx R r => hT d hd F' H' x _ _ gw.s hx fun vs hvs => ?_) fun p xs sub F3 H3 g3 h1 h2 h3 h4 h5 h6 => kq p xs _ F3 H3 (g2.trans g3) (g2.fresh h1) h2 h3 h6 ⟨sub, h4, h5, rfl⟩
    refine r _ (hw vs) (fun Q kq s H0 C cl fp => hp d vs F' H' hd (g.trans (g2.trans gw)) hvs s H0 C cl fp F' H' gw.end Q kq) fun F3 H3 g3 Q kq s H0 C cl fp => ?_
    exact he d vs F' H' hd (g.trans (g2.trans gw)) hvs s H0 C cl fp F3 H3 g3 Q kq)
end
/-- a list that may change -/
structure LstAt (l : Addr) (ds : List PyData) (F H : Hp) : Prop where
  f : F l = none
  h : ∃ ws, H l = some (.lst ws) ∧ DsAll F ws ds
theorem LstAt.mono {q : Option Addr} {l : Addr} {ds : List PyData} {F H F' H' : Hp} (h : LstAt l ds F H) (g : Grow q F H F' H') (hq : q ≠ some l) : LstAt l ds F' H' := by
  obtain ⟨h1, ws, h2, h3⟩ := h
  exact ⟨g.n _ _ h1 h2, ws, g.h _ _ hq h2, h3.mono g.f⟩
theorem LstAt.upd {l : Addr} {ds : List PyData} {F H : Hp} {ws : List V} (hf : F l = none) (hd : DsAll F ws ds) : LstAt l ds F (L2.upd H l (.lst ws)) := ⟨hf, ws, upd_same, hd⟩
theorem LstAt.other {l m : Addr} {o : HO} {ds : List PyData} {F H : Hp} (h : LstAt l ds F H) (hne : l ≠ m) : LstAt l ds F (L2.upd H m o) := by
  obtain ⟨h1, ws, h2, h3⟩ := h
  exact ⟨h1, ws, (upd_ne hne).trans h2, h3⟩
theorem DsAll.erase {F : Hp} {vs : List V} {ds : List PyData} (h : DsAll F vs ds) (n : Nat) : DsAll F (vs.eraseIdx n) (ds.eraseIdx n) := by
  rw [List.eraseIdx_eq_take_drop_succ, List.eraseIdx_eq_take_drop_succ]
  exact (h.take n).append (h.drop (n + 1))
theorem map_erase {α β : Type} (f : α → β) (xs : List α) (n : Nat) : (xs.map f).eraseIdx n = (xs.eraseIdx n).map f := by
  rw [List.eraseIdx_eq_take_drop_succ, List.eraseIdx_eq_take_drop_succ, List.map_append, List.map_take, List.map_drop]
end R
end
section
set_option Elab.async false
set_option linter.all false
set_option maxRecDepth 100000
set_option maxHeartbeats 4000000
/-! R: data in a tuple or a list; not of a list -/
namespace R
open PySem PySem.Spec L2 PyProof.Rows Evl
section
variable {q : Option Addr} {X : Cx} {σ : L2.St} {F H : Hp} {a b : Expr} {pos p : Pos} {d dd : PyData} {ds : List PyData}
def rInDT (K : PySem.W.Frag) : R2 := fun x y H Q => ∃ d ds, Dp K H x d ∧ Dp K H y (.tuple ds) ∧ SeqAt.shaped d = true ∧ SeqAt.shaped (.tuple ds) = true ∧ Q (.bl (ds.any fun z => PyData.eqv z d)) H
theorem op_inDT (hu : X.A.units + 65 < cLine) : OpR X (compareOp .In) (rInDT X.K) := by
  intro pins s σ H x y v u Q I rx ry h
  obtain ⟨d, ds, hd, he, sd, se, q⟩ := h
  obtain ⟨as, r1⟩ := Dp.reads I d x v hd rx
  obtain ⟨bs, r2⟩ := Dp.reads I (.tuple ds) y u he ry
  exact SeqAt.in_tuple_reads r2 r1 (SeqAt.canLay_of_shaped se) (SeqAt.canLay_of_shaped sd) (room_in_shaped sd hu) ⟨.bl _, H, I, rfl, q⟩
theorem c_inDT (hu : X.A.units + 65 < cLine) (ha : XD q X a σ F H d) (hb : XD q X b σ F H (.tuple ds)) (s1 : SeqAt.shaped d = true) (s2 : SeqAt.shaped (.tuple ds) = true) (hm : behindInMarks .In b = false := by rfl) : XCm q X .In a b σ F H (ds.any fun z => PyData.eqv z d) :=
  x_cmp (op_inDT hu) mono_dt ha hb (fun x y F1 H1 g hx hy Q q => ⟨d, ds, (hx.mono g.s).dp, (hy.mono g.s).dp, s1, s2, q F1 H1 g.end⟩) hm
theorem shaped_lt (h : SeqAt.shaped (.list ds) = true) : SeqAt.shaped (.tuple ds) = true := by
  have e1 : PyData.canLay0 (.tuple ds) = PyData.canLay0 (.list ds) := by simp only [PyData.canLay0]
  have e2 : PyData.depth (.tuple ds) = PyData.depth (.list ds) := by simp only [PyData.depth]
  unfold SeqAt.shaped at h ⊢
  rw [e1, e2]; exact h
/-- in a list or a tuple -/
theorem c_inLT (hu : X.A.units + 65 < cLine) (ha : XD q X a σ F H d) (hb : XD q X b σ F H dd) (hd : dd = .list ds ∨ dd = .tuple ds) (s1 : SeqAt.shaped d = true) (s2 : SeqAt.shaped (.list ds) = true) (hm : behindInMarks .In b = false := by rfl) : XCm q X .In a b σ F H (ds.any fun z => PyData.eqv z d) := by
  rcases hd with rfl | rfl
  · exact c_inD hu ha hb s1 s2 hm
  · exact c_inDT hu ha hb s1 (shaped_lt s2) hm
def rNotInDT (K : PySem.W.Frag) : R2 := fun x y H Q => ∃ d ds, Dp K H x d ∧ Dp K H y (.tuple ds) ∧ SeqAt.shaped d = true ∧ SeqAt.shaped (.tuple ds) = true ∧ Q (.bl (!ds.any fun z => PyData.eqv z d)) H
theorem op_niDT (hu : X.A.units + 65 < cLine) : OpR X (compareOp .NotIn) (rNotInDT X.K) := by
  intro pins s σ H x y v u Q I rx ry h
  obtain ⟨d, ds, hd, he, sd, se, q⟩ := h
  obtain ⟨as, r1⟩ := Dp.reads I d x v hd rx
  obtain ⟨bs, r2⟩ := Dp.reads I (.tuple ds) y u he ry
  exact SeqAt.notIn_tuple_reads r2 r1 (SeqAt.canLay_of_shaped se) (SeqAt.canLay_of_shaped sd) (room_in_shaped sd hu) ⟨.bl _, H, I, rfl, q⟩
theorem c_niDT (hu : X.A.units + 65 < cLine) (ha : XD q X a σ F H d) (hb : XD q X b σ F H (.tuple ds)) (s1 : SeqAt.shaped d = true) (s2 : SeqAt.shaped (.tuple ds) = true) (hm : behindInMarks .NotIn b = false := by rfl) : XCm q X .NotIn a b σ F H (!ds.any fun z => PyData.eqv z d) :=
  x_cmp (op_niDT hu) mono_dt ha hb (fun x y F1 H1 g hx hy Q q => ⟨d, ds, (hx.mono g.s).dp, (hy.mono g.s).dp, s1, s2, q F1 H1 g.end⟩) hm
theorem c_niLT (hu : X.A.units + 65 < cLine) (ha : XD q X a σ F H d) (hb : XD q X b σ F H dd) (hd : dd = .list ds ∨ dd = .tuple ds) (s1 : SeqAt.shaped d = true) (s2 : SeqAt.shaped (.list ds) = true) (hm : behindInMarks .NotIn b = false := by rfl) : XCm q X .NotIn a b σ F H (!ds.any fun z => PyData.eqv z d) := by
  rcases hd with rfl | rfl
  · exact c_niD hu ha hb s1 s2 hm
  · exact c_niDT hu ha hb s1 (shaped_lt s2) hm
/-- not l -/
theorem xd_notL (ha : XD q X a σ F H (.list ds)) : XD q X (.UnaryOp .Not a pos) σ F H (.bool ds.isEmpty) := fun F1 H1 g Q k =>
  wE_of (pe_notT wE_ok) (ha F1 H1 g _ fun x F2 H2 g2 hx => by
    obtain ⟨a, xs, rfl, h1, h2⟩ := ds_lst hx
    refine ⟨!ds.isEmpty, .inl ⟨xs, SqL.of (g2.s _ _ h1), ?_⟩, ?_⟩
    · have := h2.length
      cases xs <;> cases ds <;> first | rfl | simp at this
    · rw [Bool.not_not]
      exact k _ F2 H2 g2 (.bl _))
end
end R
end
section
set_option Elab.async false
set_option linter.all false
set_option maxRecDepth 100000
set_option maxHeartbeats 4000000
namespace K01
open PySem L2 Evl R
/-! uses told by their names -/
abbrev Ver := Str × Str
def dver : PyData → Ver
  | .tuple (.str a :: .str b :: _) => (a, b)
  | _ => (Str.empty, Str.empty)
theorem dver_p (p : Ver) : dver (pairD p) = p := rfl
def usesKT (d : PyData) (ks : List Ver) : Prop := d = .list (ks.map pairD) ∨ d = .tuple (ks.map pairD)
theorem key_row {rs : List Row} {k : Ver} (h : k ∈ rs.map Row.key) : ∃ r ∈ rs, r.key = k := List.mem_map.mp h
theorem eqv_pair (a b : Ver) : PyData.eqv (pairD a) (pairD b) = decide (a = b) := by
  have e : PyData.eqv (pairD a) (pairD b) = ((a.1 == b.1) && ((a.2 == b.2) && true)) := by simp only [pairD, PyData.eqv, PyData.eqvAll]
  rw [e, Bool.and_true, Bool.eq_iff_iff, Bool.and_eq_true, beq_iff_eq, beq_iff_eq, decide_eq_true_eq]
  exact ⟨fun ⟨h1, h2⟩ => Prod.ext h1 h2, fun h => ⟨congrArg Prod.fst h, congrArg Prod.snd h⟩⟩
theorem any_pair (ks : List Ver) (k : Ver) : ((ks.map pairD).any fun z => PyData.eqv z (pairD k)) = decide (k ∈ ks) := by
  rw [List.any_map, Bool.eq_iff_iff, List.any_eq_true, decide_eq_true_eq]
  constructor
  · rintro ⟨x, h1, h2⟩
    have : decide (x = k) = true := by rw [← eqv_pair]; exact h2
    exact of_decide_eq_true this ▸ h1
  · intro h
    exact ⟨k, h, by show PyData.eqv (pairD k) (pairD k) = true; rw [eqv_pair, decide_eq_true rfl]⟩
/-- the uses are of these rows -/
def Of (rs : List Row) (ks : List Ver) : Prop := ∀ k ∈ ks, k ∈ rs.map Row.key
theorem key_ok {rs : List Row} (hW : WorldOk rs) {k : Ver} (h : k ∈ rs.map Row.key) : PyData.strOk k.1 = true ∧ PyData.strOk k.2 = true := by
  obtain ⟨r, hr, rfl⟩ := key_row h
  exact ⟨(hW.rows r hr).osv, (hW.rows r hr).ose⟩
theorem ks_shaped {rs : List Row} (hW : WorldOk rs) {ks : List Ver} (h : Of rs ks) : SeqAt.shaped (.list (ks.map pairD)) = true := shaped_lst (fun k hk => pair_lay (key_ok hW (h k hk)).1 (key_ok hW (h k hk)).2) fun k _ => pair_dep k
theorem key_shaped {rs : List Row} (hW : WorldOk rs) {k : Ver} (h : k ∈ rs.map Row.key) : SeqAt.shaped (pairD k) = true := by
  have := pair_dep k
  show ((pairD k).canLay0 && decide ((pairD k).depth ≤ 64)) = true
  rw [Bool.and_eq_true]
  exact ⟨pair_lay (key_ok hW h).1 (key_ok hW h).2, decide_eq_true (by omega)⟩
theorem Of.sub {rs : List Row} {ks ks' : List Ver} (h : Of rs ks) (s : ∀ k ∈ ks', k ∈ ks) : Of rs ks' := fun k hk => h k (s k hk)
theorem Of.len {rs : List Row} {ks : List Ver} (h : Of rs ks) (hn : ks.Nodup) : ks.length ≤ rs.length := by
  have := nd_len ks (rs.map Row.key) hn h
  rwa [List.length_map] at this
def chOf (rs : List Row) (k : Ver) : List Str := ((rs.find? fun r => decide (r.key = k)).map (·.ch)).getD []
theorem key_uniq' {rs : List Row} (nd : (rs.map Row.key).Nodup) {r r' : Row} (h1 : r ∈ rs) (h2 : r' ∈ rs) (e : r'.key = r.key) : r' = r := by
  induction rs with
  | nil => cases h1
  | cons x rs ih =>
    rw [List.map_cons, List.nodup_cons] at nd
    rcases List.mem_cons.mp h1 with rfl | a <;> rcases List.mem_cons.mp h2 with rfl | b
    · rfl
    · exact absurd (e ▸ List.mem_map_of_mem b) nd.1
    · exact absurd (e ▸ List.mem_map_of_mem a) nd.1
    · exact ih nd.2 a b
theorem chOf_eq {rs : List Row} (hnd : (rs.map Row.key).Nodup) {r : Row} (h : r ∈ rs) : chOf rs r.key = r.ch := by
  unfold chOf
  cases e : rs.find? (fun x => decide (x.key = r.key)) with
  | none => exact absurd (List.find?_eq_none.mp e r h) (by simp)
  | some r' =>
    have h0 := List.find?_some e
    have h1 : r'.key = r.key := of_decide_eq_true h0
    rw [key_uniq' hnd h (List.mem_of_find?_eq_some e) h1]; rfl
/-! knots -/
noncomputable def barB (rs : List Row) (ss : List (List Str)) (ks : List Ver) (k : Ver) : Bool := ss.any fun s => (chOf rs k).all fun c => decide (c ∈ exposedL rs s) && decide ((k.1, c) ∈ ks)
theorem bar_mono {rs : List Row} {ss : List (List Str)} {ks ks' : List Ver} (h : ∀ k ∈ ks, k ∈ ks') {k : Ver} (hb : barB rs ss ks k = true) : barB rs ss ks' k = true := by
  unfold barB at hb ⊢
  obtain ⟨s, hs, h1⟩ := List.any_eq_true.mp hb
  refine List.any_eq_true.mpr ⟨s, hs, List.all_eq_true.mpr fun c hc => ?_⟩
  have := List.all_eq_true.mp h1 c hc
  rw [Bool.and_eq_true] at this ⊢
  exact ⟨this.1, decide_eq_true (h _ (of_decide_eq_true this.2))⟩
noncomputable def nxt (rs : List Row) (ss : List (List Str)) (ks : List Ver) : List Ver := ks.filter (barB rs ss ks)
noncomputable def gk (rs : List Row) (ss : List (List Str)) (ks : List Ver) : List Ver :=
  if h : (nxt rs ss ks).length < ks.length then gk rs ss (nxt rs ss ks) else ks
termination_by ks.length
decreasing_by exact h
theorem gk_step {rs : List Row} {ss : List (List Str)} {ks : List Ver} (h : (ks.filter (barB rs ss ks)).length < ks.length) : gk rs ss ks = gk rs ss (ks.filter (barB rs ss ks)) := by
  rw [gk, dif_pos (show (nxt rs ss ks).length < ks.length from h)]; rfl
theorem gk_fix {rs : List Row} {ss : List (List Str)} {ks : List Ver} (h : ¬ (ks.filter (barB rs ss ks)).length < ks.length) : gk rs ss ks = ks := by
  rw [gk, dif_neg (show ¬ (nxt rs ss ks).length < ks.length from h)]
theorem filt_all {α : Type} (p : α → Bool) : ∀ l : List α, ¬ (l.filter p).length < l.length → ∀ x ∈ l, p x = true
  | [], _ => fun x h => by cases h
  | y :: l, h => fun x hx => by
    have hl : (l.filter p).length ≤ l.length := List.length_filter_le _ _
    rw [List.filter_cons] at h
    by_cases q : p y = true
    · rw [if_pos q, List.length_cons, List.length_cons] at h
      rcases List.mem_cons.mp hx with rfl | hx
      · exact q
      · exact filt_all p l (by omega) x hx
    · rw [if_neg q, List.length_cons] at h; omega
theorem gk_ind {rs : List Row} {ss : List (List Str)} (Pr : List Ver → List Ver → Prop) (h1 : ∀ ks, (∀ k ∈ ks, barB rs ss ks k = true) → Pr ks ks) (h2 : ∀ ks g, Pr (ks.filter (barB rs ss ks)) g → Pr ks g) : ∀ (n : Nat) (ks : List Ver), ks.length ≤ n → Pr ks (gk rs ss ks)
  | 0, ks, h => by
    have : ks = [] := List.length_eq_zero_iff.mp (by omega)
    subst this
    rw [gk_fix (by simp)]
    exact h1 [] (by simp)
  | n + 1, ks, h => by
    by_cases q : (ks.filter (barB rs ss ks)).length < ks.length
    · rw [gk_step q]
      exact h2 ks _ (gk_ind Pr h1 h2 n _ (by omega))
    · rw [gk_fix q]
      exact h1 ks (filt_all _ _ q)
theorem gk_sub (rs : List Row) (ss : List (List Str)) (ks : List Ver) : List.Sublist (gk rs ss ks) ks :=
  gk_ind (fun ks g => List.Sublist g ks) (fun ks _ => List.Sublist.refl ks) (fun ks g h => h.trans List.filter_sublist) _ ks (Nat.le_refl _)
theorem gk_tied (rs : List Row) (ss : List (List Str)) (ks : List Ver) : ∀ k ∈ gk rs ss ks, barB rs ss (gk rs ss ks) k = true :=
  gk_ind (fun _ g => ∀ k ∈ g, barB rs ss g k = true) (fun ks h => h) (fun ks g h => h) _ ks (Nat.le_refl _)
theorem gk_max {rs : List Row} {ss : List (List Str)} {K : List Ver} (hK : ∀ k ∈ K, barB rs ss K k = true) (ks : List Ver) : (∀ k ∈ K, k ∈ ks) → ∀ k ∈ K, k ∈ gk rs ss ks :=
  gk_ind (fun ks g => (∀ k ∈ K, k ∈ ks) → ∀ k ∈ K, k ∈ g) (fun ks _ h => h) (fun ks g h hs => h fun k hk => List.mem_filter.mpr ⟨hs k hk, bar_mono hs (hK k hk)⟩) _ ks (Nat.le_refl _)
/-- what is left of a list, by what is in another -/
theorem filt_in {ks gs : List Ver} (h : List.Sublist gs ks) (hn : ks.Nodup) : ks.filter (fun k => decide (k ∈ gs)) = gs := by
  induction h with
  | slnil => rfl
  | @cons l1 l2 a s ih =>
    rw [List.nodup_cons] at hn
    rw [List.filter_cons, if_neg (by simpa using fun z => hn.1 (s.subset z)), ih hn.2]
  | @cons_cons l1 l2 a s ih =>
    rw [List.nodup_cons] at hn
    rw [List.filter_cons, if_pos (by simp)]
    congr 1
    rw [← ih hn.2]
    refine List.filter_congr fun x hx => ?_
    have : x ≠ a := fun e => hn.1 (e ▸ hx)
    rw [ih hn.2]
    simp [this]
/-! all choices -/
def subs : List Ver → List (List Ver) → List (List Ver)
  | [], acc => acc
  | k :: ks, acc => subs ks (acc ++ acc.map fun l => l ++ [k])
theorem subs_mem : ∀ (ks : List Ver) (acc : List (List Ver)) (x : List Ver), x ∈ subs ks acc ↔ ∃ a ∈ acc, ∃ s, List.Sublist s ks ∧ x = a ++ s
  | [], acc, x => by
    constructor
    · intro h; exact ⟨x, h, [], List.Sublist.refl _, by simp⟩
    · rintro ⟨a, ha, s, hs, rfl⟩
      rw [List.sublist_nil] at hs
      subst hs
      rw [List.append_nil]; exact ha
  | k :: ks, acc, x => by
    show x ∈ subs ks (acc ++ acc.map fun l => l ++ [k]) ↔ _
    rw [subs_mem ks]
    constructor
    · rintro ⟨a, ha, s, hs, rfl⟩
      rcases List.mem_append.mp ha with h | h
      · exact ⟨a, h, s, hs.cons _, rfl⟩
      · obtain ⟨b, hb, rfl⟩ := List.mem_map.mp h
        exact ⟨b, hb, k :: s, hs.cons_cons _, by simp⟩
    · rintro ⟨a, ha, s, hs, rfl⟩
      cases hs with
      | cons _ h => exact ⟨a, List.mem_append_left _ ha, s, h, rfl⟩
      | @cons_cons s' _ _ h => exact ⟨a ++ [k], List.mem_append_right _ (List.mem_map.mpr ⟨a, ha, rfl⟩), s', h, by simp⟩
theorem subs_len : ∀ (ks : List Ver) (acc : List (List Ver)), (subs ks acc).length = acc.length * 2 ^ ks.length
  | [], acc => by simp [subs]
  | k :: ks, acc => by
    show (subs ks (acc ++ acc.map fun l => l ++ [k])).length = _
    rw [subs_len ks, List.length_append, List.length_map, List.length_cons, Nat.pow_succ]
    rw [Nat.add_mul, ← Nat.mul_two, Nat.mul_assoc]
/-- enough: every knot is hit -/
theorem enough_hit {rs : List Row} {ss : List (List Str)} {nd some : List Ver} (hn : nd.Nodup) (hs : List.Sublist some nd) :
    (gk rs ss (nd.filter fun k => !decide (k ∈ some))).isEmpty = ((subs nd [[]]).filter fun s => !s.isEmpty && s.all (barB rs ss s)).all fun K => K.any fun k => decide (k ∈ some) := by
  have hmem : ∀ x : List Ver, x ∈ subs nd [[]] ↔ List.Sublist x nd := fun x => by
    rw [subs_mem]
    constructor
    · rintro ⟨a, ha, s, h1, rfl⟩
      rw [List.mem_singleton.mp ha]; exact h1
    · intro h; exact ⟨[], by simp, x, h, rfl⟩
  rw [Bool.eq_iff_iff, List.all_eq_true, List.isEmpty_iff]
  constructor
  · intro h K hK
    obtain ⟨h1, h2⟩ := List.mem_filter.mp hK
    rw [Bool.and_eq_true, List.all_eq_true] at h2
    by_cases q : K.any (fun k => decide (k ∈ some)) = true
    · exact q
    · exfalso
      have hno : ∀ k ∈ K, k ∉ some := fun k hk hin => q (List.any_eq_true.mpr ⟨k, hk, decide_eq_true hin⟩)
      have hKs := (hmem K).mp h1
      have hin := gk_max (rs := rs) (ss := ss) h2.2 (nd.filter fun k => !decide (k ∈ some)) fun k hk => List.mem_filter.mpr ⟨hKs.subset hk, by rw [decide_eq_false (hno k hk)]; rfl⟩
      cases K with
      | nil => have := h2.1; cases this
      | cons k K =>
        have := hin k List.mem_cons_self
        rw [h] at this; cases this
  · intro h
    by_cases q : gk rs ss (nd.filter fun k => !decide (k ∈ some)) = []
    · exact q
    · exfalso
      have hsub := gk_sub rs ss (nd.filter fun k => !decide (k ∈ some))
      have htie := gk_tied rs ss (nd.filter fun k => !decide (k ∈ some))
      have := h (gk rs ss (nd.filter fun k => !decide (k ∈ some))) (List.mem_filter.mpr ⟨(hmem _).mpr (hsub.trans List.filter_sublist), by
        rw [Bool.and_eq_true, List.all_eq_true]
        refine ⟨?_, htie⟩
        cases e : gk rs ss (nd.filter fun k => !decide (k ∈ some)) with
        | nil => exact absurd e q
        | cons _ _ => rfl⟩)
      obtain ⟨k, hk, hin⟩ := List.any_eq_true.mp this
      have h3 := (List.mem_filter.mp (hsub.subset hk)).2
      rw [decide_eq_true (of_decide_eq_true hin)] at h3; cases h3
end K01
end
section
set_option Elab.async false
set_option linter.all false
set_option maxRecDepth 100000
set_option maxHeartbeats 4000000
namespace K01
open PySem L2 Evl R
noncomputable def leaksD (rs : List Row) (ss : List (List Str)) : PyData := .list (ss.map fun s => strsD (exposedL rs s))
theorem usesKT.tn {d : PyData} {ks : List Ver} (h : usesKT d ks) : tyName d = "list" ∨ tyName d = "tuple" := by
  rcases h with rfl | rfl
  · exact .inl rfl
  · exact .inr rfl
theorem all_true {α : Type} (l : List α) : (l.map fun _ => true).all id = true := by
  rw [List.all_map]
  exact List.all_eq_true.mpr fun _ _ => rfl
section
variable {P : Program} {w : World} {K : PySem.W.Frag} {mg : Str → Option Value} {base : Heap} {C : Addr}
/-! is_choice -/
abbrev sIc : Stmt := top 30
abbrev nIc : List Str := ["world", "uses", "value", "use"]
theorem scIc : FnScope nIc ["world", "uses", "value"] (defScope sIc) := ⟨rfl, rfl, rfl, by decide +kernel, rfl, by decide +kernel, by decide +kernel⟩
def pIc (C : Addr) : List V → Hp → TyP → Prop := fun vs F T => ∃ (a : Addr) (rs : List Row) (u v : V) (nd ks : List Ver) (d : PyData), vs = [.ref a, u, v] ∧ Wd C rs a F ∧ Ds F u (.list (nd.map pairD)) ∧ Ds F v d ∧ usesKT d ks ∧ Of rs nd ∧ nd.Nodup ∧ List.Sublist ks nd ∧ T = dt (.bool true)
theorem ok_ic (W : WC K C) (MU : MCal P w K mg base C "has_use" 3 ["self", "value"] (spD (pHu C))) (B : Bn mg) {f : Addr} {fd : FuncData} (Fn : Fun K "is_choice" "is_choice" sIc f fd) : FnOk P w K mg base CX0 4 f fd ["world", "uses", "value"] (spD (pIc C)) := by
  refine Fn.ok scIc (fun vs H Q E h => ?_) (fun cdv A outer s H vs Q E hr h => ⟨_, wSs_ok, ?_⟩)
  · obtain ⟨F, T, _, ⟨a, rs, u, v, nd, ks, d, rfl, _⟩, _⟩ := h
    rfl
  obtain ⟨F, T, s0, ⟨a, rs, u, v, nd, ks, d, rfl, hw, hu, hv, hd, hof, hnd, hsub, rfl⟩, kq⟩ := h
  obtain ⟨dx, ux, c, p, sv, se, h1, _⟩ := id hw.at_
  have g0 := Grow.start s0
  have hlen := hw.ok.len
  have hofk : Of rs ks := hof.sub fun k hk => hsub.subset hk
  have hkl := hofk.len (hsub.nodup hnd)
  have hndl := hof.len hnd
  refine ss_cons (s_skip (XW.xt (xw_or (u := false) (v := false) (xt_not (u := true) (xt_val (xd_isLT B (xv 2 hv) hd.tn))) fun _ => xw_or1 (xt_not (u := true) (xt_val (XD.eq (xd_all (bs := ks.map fun _ => true) rfl B (XM.xd (xm_lc (own := [("use", 3)]) (gx := gName 3) (asg := fun σ vs => σ.set 3 vs.head?) (esf := fun d => [d]) (ds := ks.map pairD) (gm := fun _ => .bool true)
    ⟨rfl, scIc.nd, blkOk_by (N := nIc) (sc := defScope sIc) (by decide +kernel), fun _ _ _ _ _ => pg_name (i := 3) scIc.nd rfl (.inl rfl), fun _ => rfl⟩ (xi_LT (xv 2 hv) hd) (fun d _ => tgt_name) (by rw [List.length_map]; omega) (fun _ => rfl) (fun d vs F2 H2 hd g2 hvs => ?_))) ?_) (congrArg PyData.bool (all_true ks))))))) g0 fun F1 H1 g1 => ?_)
  · intro s' H0' C' cl fp
    obtain ⟨k, hk, rfl⟩ := List.mem_map.mp hd
    obtain ⟨x, rfl, hx⟩ := hvs.one
    obtain ⟨r, hrm, rfl⟩ := key_row (hofk k hk)
    refine x_meth MU W.cls hr (by decide) (xvi 0) (g2.s _ _ (g2.f _ _ h1)) (fl_no (by decide +kernel)) (xa_cons (T := dt (pairD r.key)) mono_dt (xv 3 hx) xa_nil) (T := dt (.bool true)) ?_
    rintro vs F3 e ht
    obtain ⟨v1, rfl, h3⟩ := ht.one
    exact ⟨a, rs, v1, r, rfl, hw.mono (g2.f.trans e), h3, hrm, rfl⟩
  · rw [List.map_map, List.map_map]; rfl
  have hsh := ks_shaped hw.ok hofk
  have hv1 := hv.mono g1.f
  refine ss_cons (s_ret (T := dt (.bool true)) (XD.eq (xd_cmp (c_eq (d1 := .list (ks.map pairD)) (d2 := .list (ks.map pairD)) hr.units (XM.xd (xm_list B ?_)) (XM.xd (XM.eq (xm_lcIf (own := [("use", 3)]) (gx := gName 3) (asg := fun σ vs => σ.set 3 vs.head?) (esf := fun d => [d]) (ds := nd.map pairD) (pr := fun d => decide (dver d ∈ ks)) (gm := fun d => pairD (dver d))
    ⟨rfl, scIc.nd, blkOk_by (N := nIc) (sc := defScope sIc) (by decide +kernel), fun _ _ _ _ _ => pg_name (i := 3) scIc.nd rfl (.inl rfl), fun _ => rfl⟩ (xi_lst (xv 1 (hu.mono g1.f))) (fun d _ => tgt_name) (by rw [List.length_map]; omega) (fun _ => rfl) (fun d vs F2 H2 hd' g2 hvs => ?_) (fun d vs F2 H2 hd' _ g2 hvs => ?_)) ?_)) hsh hsh)) ?_) g1 fun v' F3 H3 g3 h3 => kq v' F3 H3 (g1.trans g3) h3)
  · rcases hd with rfl | rfl
    · exact .inl (xv 2 hv1)
    · exact .inr (xv 2 hv1)
  · intro s' H0' C' cl fp
    obtain ⟨k, hk, rfl⟩ := List.mem_map.mp hd'
    obtain ⟨x, rfl, hx⟩ := hvs.one
    exact XT.eq (xt_cmp (c_inLT hr.u65 (xv 3 hx) (xv 2 (hv1.mono g2.f)) hd (key_shaped hw.ok (hof k hk)) hsh)) (any_pair ks k)
  · intro s' H0' C' cl fp
    obtain ⟨k, hk, rfl⟩ := List.mem_map.mp hd'
    obtain ⟨x, rfl, hx⟩ := hvs.one
    exact xv 3 hx
  · rw [filt_map pairD dver dver_p (fun k => decide (k ∈ ks)) pairD, filt_in hsub hnd]
  · have : (PyData.list (ks.map pairD)).canLay0 = true := SeqAt.canLay_of_shaped hsh
    rw [SeqAt.eqv_refl _ this]
/-! all_leaks -/
abbrev sLe : Stmt := top 39
abbrev nLe : List Str := ["world", "suspicions", "suspicion"]
theorem scLe : FnScope nLe ["world", "suspicions"] (defScope sLe) := ⟨rfl, rfl, rfl, by decide +kernel, rfl, by decide +kernel, by decide +kernel⟩
def pLe (C : Addr) : List V → Hp → TyP → Prop := fun vs F T => ∃ (a : Addr) (rs : List Row) (v : V) (dd : PyData) (ss : List (List Str)), vs = [.ref a, v] ∧ Wd C rs a F ∧ Ds F v dd ∧ susLT dd ss ∧ (∀ s ∈ ss, Susp rs s) ∧ ss.length ≤ 3 ∧ T = dt (leaksD rs ss)
theorem ok_le (CE : Cal P w K mg base "exposed" 7 ["world", "suspicion"] (spD (pEx C))) {f : Addr} {fd : FuncData} (Fn : Fun K "all_leaks" "all_leaks" sLe f fd) : FnOk P w K mg base CX0 8 f fd ["world", "suspicions"] (spD (pLe C)) := by
  refine Fn.ok scLe (fun vs H Q E h => ?_) (fun cdv A outer s H vs Q E hr h => ⟨_, wSs_ok, ?_⟩)
  · obtain ⟨F, T, _, ⟨a, rs, v, dd, ss, rfl, _⟩, _⟩ := h
    rfl
  obtain ⟨F, T, s0, ⟨a, rs, v, dd, ss, rfl, hw, hv, hdd, hS, hl, rfl⟩, kq⟩ := h
  refine ss_cons (s_ret (XD.eq (XM.xd (xm_lc (own := [("suspicion", 2)]) (gx := gName 2) (asg := fun σ vs => σ.set 2 vs.head?) (esf := fun d => [d]) (ds := ss.map seenD) (gm := fun d => strsD (exposedL rs (dseen d)))
    ⟨rfl, scLe.nd, blkOk_by (N := nLe) (sc := defScope sLe) (by decide +kernel), fun _ _ _ _ _ => pg_name (i := 2) scLe.nd rfl (.inl rfl), fun _ => rfl⟩ (xi_LT (ds := ss.map seenD) (xv 1 hv) hdd) (fun d _ => tgt_name) (by rw [List.length_map]; omega) (fun _ => rfl) (fun d vs F2 H2 hd g2 hvs => ?_))) ?_) (Grow.start s0) fun v' F3 H3 g3 h3 => kq v' F3 H3 g3 h3)
  · intro s' H0' C' cl fp
    obtain ⟨sn, hsn, rfl⟩ := List.mem_map.mp hd
    obtain ⟨x, rfl, hx⟩ := hvs.one
    rw [dseen_d]
    refine xc CE hr (by decide) (xa_cons (T := is (.ref a)) mono_is (xvi 0) (xa_cons mono_dt (xv 2 hx) xa_nil)) (T := dt (strsD (exposedL rs sn))) ?_
    rintro vs F4 e ht
    obtain ⟨v1, v2, rfl, rfl, h3⟩ := ht.two
    exact ⟨a, rs, v2, sn, rfl, hw.mono (g2.f.trans e), h3, hS sn hsn, rfl⟩
  · unfold leaksD
    rw [List.map_map]
    refine congrArg PyData.list (List.map_congr_left fun s _ => ?_)
    show strsD (exposedL rs (dseen (seenD s))) = _
    rw [dseen_d]
/-! is_barred -/
abbrev sBa : Stmt := top 40
abbrev nBa : List Str := ["world", "leaks", "use", "stale", "service", "_", "channel", "leak", "other"]
theorem scBa : FnScope nBa ["world", "leaks", "use", "stale"] (defScope sBa) := ⟨rfl, rfl, rfl, by decide +kernel, rfl, by decide +kernel, by decide +kernel⟩
def pBa (C : Addr) : List V → Hp → TyP → Prop := fun vs F T => ∃ (a : Addr) (rs : List Row) (v u t : V) (ss : List (List Str)) (k : Ver) (ks : List Ver) (d : PyData), vs = [.ref a, v, u, t] ∧ Wd C rs a F ∧ Ds F v (leaksD rs ss) ∧ Ds F u (pairD k) ∧ k ∈ rs.map Row.key ∧ Ds F t d ∧ usesKT d ks ∧ Of rs ks ∧ T = dt (.bool (barB rs ss ks k))
theorem ok_ba (W : WC K C) (MC : MCal P w K mg base C "channel" 4 ["self", "use"] (spD (pOf C fun r => .tuple (r.ch.map .str)))) (B : Bn mg) {f : Addr} {fd : FuncData} (Fn : Fun K "is_barred" "is_barred" sBa f fd) : FnOk P w K mg base CX0 5 f fd ["world", "leaks", "use", "stale"] (spD (pBa C)) := by
  refine Fn.ok scBa (fun vs H Q E h => ?_) (fun cdv A outer s H vs Q E hr h => ⟨_, wSs_ok, ?_⟩)
  · obtain ⟨F, T, _, ⟨a, rs, v, u, t, ss, k, ks, d, rfl, _⟩, _⟩ := h
    rfl
  obtain ⟨F, T, s0, ⟨a, rs, v, u, t, ss, k, ks, d, rfl, hw, hv, hu, hk, ht, hd, hof, rfl⟩, kq⟩ := h
  obtain ⟨dx, ux, c, p, sv, se, h1, _⟩ := id hw.at_
  obtain ⟨r, hrm, rfl⟩ := key_row hk
  have rok := hw.ok.rows r hrm
  have hch := chOf_eq hw.ok.nd hrm
  refine ss_cons (s_unp2 (i := 4) (j := 5) (d := .str r.sv) (d' := .str r.se) rfl scBa.nd rfl rfl (xv 2 hu) (Grow.start s0) fun v4 v5 F1 H1 g1 h4 h5 => ?_)
  cases h4
  cases h5
  refine ss_cons (s_set (i := 6) (T := dt (.tuple (r.ch.map .str))) scBa.nd rfl (x_meth MC W.cls hr (by decide) (xvi 0) (g1.s _ _ (g1.f _ _ h1)) (fl_no (by decide +kernel)) (xa_cons mono_dt (xv 2 (hu.mono g1.f)) xa_nil) ?_) g1 fun v6 F2 H2 g2 h6 => ?_)
  · rintro vs F3 e ht
    obtain ⟨v1, rfl, h3⟩ := ht.one
    exact ⟨a, rs, v1, r, rfl, hw.mono (g1.f.trans e), h3, hrm, rfl⟩
  have gg2 := g1.trans g2
  have hv2 : Ds F2 v (.list (ss.map fun s => strsD (exposedL rs s))) := hv.mono gg2.f
  have ht2 := ht.mono gg2.f
  have hsh := ks_shaped hw.ok hof
  refine ss_cons (s_for (asg := fun σ vs => σ.set 7 vs.head?) (gx := gName 7) (esf := fun d => [d]) rfl PassesOwn.never (xi_lst (xv 1 hv2)) (pg_name (i := 7) scBa.nd rfl (.inr rfl)) (fun d _ => tgt_name) gg2
    (fun i σ F' H' => ∃ (t7 : Option V), σ = [some (.ref a), some v, some u, some t, some (.str r.sv), some (.str r.se), some v6, t7, none] ∧ ∀ s ∈ ss.take i, ((chOf rs r.key).all fun c => decide (c ∈ exposedL rs s) && decide ((r.key.1, c) ∈ ks)) = false) ?_ ⟨_, rfl, by simp⟩ ?_ ?_)
  · rintro i σ' F' H' F'' H'' h _
    exact h
  · rintro i d' vs σ' F3 H3 hdi e3 gg3 ⟨t7, rfl, hno⟩ hvs
    rw [List.getElem?_map] at hdi
    obtain ⟨s, hsi, rfl⟩ := Option.map_eq_some_iff.mp hdi
    obtain ⟨x, rfl, hx⟩ := hvs.one
    have hx' : Ds F3 x (.list ((exposedL rs s).map .str)) := hx
    have h63 : Ds F3 v6 (.tuple (r.ch.map .str)) := Ds.mono e3 h6
    refine ss_cons (s_if (u := (chOf rs r.key).all fun c => decide (c ∈ exposedL rs s) && decide ((r.key.1, c) ∈ ks)) (XT.eq (xt_val (xd_all (bs := r.ch.map fun c => decide (c ∈ exposedL rs s) && decide ((r.sv, c) ∈ ks)) rfl B (XM.xd (xm_lc (own := [("other", 8)]) (gx := gName 8) (asg := fun σ vs => σ.set 8 vs.head?) (esf := fun d => [d]) (ds := r.ch.map .str) (gm := fun d => .bool (decide (dstr d ∈ exposedL rs s) && decide ((r.sv, dstr d) ∈ ks)))
      ⟨rfl, scBa.nd, blkOk_by (N := nBa) (sc := defScope sBa) (by decide +kernel), fun _ _ _ _ _ => pg_name (i := 8) scBa.nd rfl (.inl rfl), fun _ => rfl⟩ (xi_tup (xv 6 h63)) (fun d _ => tgt_name) (by rw [List.length_map]; have := rok.chl; omega) (fun _ => rfl) (fun d vs F4 H4 hd' g4 hvs => ?_))) ?_)) ?_) gg3 (fun hb F4 H4 g4 => ?_) (fun hb F4 H4 g4 => ?_))
    · intro s' H0' C' cl fp
      obtain ⟨c', hc', rfl⟩ := List.mem_map.mp hd'
      obtain ⟨y, rfl, hy⟩ := hvs.one
      have hsh2 : SeqAt.shaped (pairD (r.sv, c')) = true := by
        have := pair_dep (r.sv, c')
        show ((pairD (r.sv, c')).canLay0 && decide ((pairD (r.sv, c')).depth ≤ 64)) = true
        rw [Bool.and_eq_true]
        exact ⟨pair_lay rok.osv (rok.ch c' hc').2.2.1, decide_eq_true (by omega)⟩
      exact xd_and (xd_cmp (c_inLS (xv 8 hy) (xv 7 (hx'.mono g4.f)))) fun _ => xd_one (XD.eq (xd_cmp (c_inLT (d := pairD (r.sv, c')) hr.u65 (xd_tup (ds := [.str r.sv, .str c']) (xa_cons mono_dt (xv 4 (.str r.sv)) (xa_cons mono_dt (xv 8 hy) xa_nil))) (xv 3 (ht2.mono (e3.trans g4.f))) hd hsh2 hsh)) (congrArg PyData.bool (any_pair ks (r.sv, c'))))
    · rw [map_map' PyData.str dstr dstr_str (fun c => PyData.bool (decide (c ∈ exposedL rs s) && decide ((r.sv, c) ∈ ks))), List.map_map]; rfl
    · rw [hch, List.all_map]; rfl
    · refine ss_cons (s_ret xd_bl (gg3.trans g4) fun v8 F5 H5 g5 h5 => ?_)
      have : barB rs ss ks r.key = true := List.any_eq_true.mpr ⟨s, List.mem_of_getElem? hsi, hb⟩
      refine kq v8 F5 H5 ((gg3.trans g4).trans g5) ?_
      rw [this]; exact h5
    · refine ss_nil (ss_nil ⟨F4, g4.f, gg3.trans g4, _, rfl, fun s' hs' => ?_⟩)
      rw [List.take_add_one, hsi] at hs'
      rcases List.mem_append.mp hs' with q | q
      · exact hno s' q
      · have : s' = s := by simpa using q
        rw [this]; exact hb
  · rintro σ' F3 H3 e3 gg3 ⟨t7, rfl, hno⟩
    rw [List.length_map, List.take_length] at hno
    refine ss_cons (s_ret xd_bl gg3 fun v8 F5 H5 g5 h5 => ?_)
    have : barB rs ss ks r.key = false := List.any_eq_false.mpr fun s hs => by rw [hno s hs]; simp
    refine kq v8 F5 H5 (gg3.trans g5) ?_
    rw [this]; exact h5
end
end K01
end
section
set_option Elab.async false
set_option linter.all false
set_option maxRecDepth 100000
set_option maxHeartbeats 4000000
namespace K01
open PySem L2 Evl R
/-- what is sent: all but the greatest knot -/
def Sent (rs : List Row) (ss : List (List Str)) (ks sent : List Ver) : Prop := Of rs sent ∧ sent.length ≤ ks.length ∧ ∀ k ∈ ks, k ∈ sent ↔ k ∉ gk rs ss ks
theorem filt_len2 {α : Type} (p : α → Bool) : ∀ l : List α, (l.filter p).length + (l.filter fun x => !p x).length = l.length
  | [] => rfl
  | x :: l => by
    have ih := filt_len2 p l
    rw [List.filter_cons, List.filter_cons, List.length_cons]
    cases p x <;> simp <;> omega
section
variable {P : Program} {w : World} {K : PySem.W.Frag} {mg : Str → Option Value} {base : Heap} {C : Addr}
/-! unread_sends -/
abbrev sUn : Stmt := top 41
abbrev nUn : List Str := ["world", "leaks", "stale", "sent", "left", "free", "use"]
theorem scUn : FnScope nUn ["world", "leaks", "stale"] (defScope sUn) := ⟨rfl, rfl, rfl, by decide +kernel, rfl, by decide +kernel, by decide +kernel⟩
def pUn (C : Addr) : List V → Hp → TyP → Prop := fun vs F T => ∃ (a : Addr) (rs : List Row) (v t : V) (ss : List (List Str)) (ks : List Ver), vs = [.ref a, v, t] ∧ Wd C rs a F ∧ Ds F v (leaksD rs ss) ∧ Ds F t (.list (ks.map pairD)) ∧ Of rs ks ∧ ks.Nodup ∧ T = tE (fun e => ∃ sent : List Ver, e = .list (sent.map pairD) ∧ Sent rs ss ks sent)
theorem ok_un (CB : Cal P w K mg base "is_barred" 5 ["world", "leaks", "use", "stale"] (spD (pBa C))) (B : Bn mg) {f : Addr} {fd : FuncData} (Fn : Fun K "unread_sends" "unread_sends" sUn f fd) : FnOk P w K mg base CX0 6 f fd ["world", "leaks", "stale"] (spD (pUn C)) := by
  refine Fn.ok scUn (fun vs H Q E h => ?_) (fun cdv A outer s H vs Q E hr h => ⟨_, wSs_ok, ?_⟩)
  · obtain ⟨F, T, _, ⟨a, rs, v, t, ss, ks, rfl, _⟩, _⟩ := h
    rfl
  obtain ⟨F, T, s0, ⟨a, rs, v, t, ss, ks, rfl, hw, hv, ht, hof, hnd, rfl⟩, kq⟩ := h
  have g0 := Grow.start s0
  have hlen := hw.ok.len
  have hkl := hof.len hnd
  refine ss_cons (s_set (i := 3) (T := dt (.list (([] : List Ver).map pairD))) scUn.nd rfl (XM.xd (xm_lst (ds := []) xa_nil)) g0 fun v3 F1 H1 g1 h3 => ?_)
  refine ss_cons (s_set (i := 4) (T := dt (.list (ks.map pairD))) scUn.nd rfl (xv 2 (ht.mono g1.f)) g1 (fun v4 F2 H2 g2 h4 => ?_) (.inr rfl))
  have gg2 := g1.trans g2
  refine ss_cons (R.s_while PassesOwn.never (fun m σ' F' H' => ∃ (v3 v4 : V) (t5 : Option V) (sent left : List Ver), σ' = [some (.ref a), some v, some t, some v3, some v4, t5, none] ∧ Ds F' v3 (.list (sent.map pairD)) ∧ Ds F' v4 (.list (left.map pairD)) ∧ List.Sublist left ks ∧ gk rs ss left = gk rs ss ks ∧ Of rs sent ∧ sent.length + left.length = ks.length ∧ (∀ k ∈ ks, k ∈ sent ↔ k ∉ left) ∧ m = left.length) ks.length ⟨_, _, _, [], ks, rfl, Ds.mono g2.f h3, h4, List.Sublist.refl _, rfl, fun k hk => (nomatch hk), by simp, fun k hk => by simp [hk], rfl⟩ gg2 ?_)
  rintro m σ' F3 H3 e3 gg3 ⟨v3, v4, t5, sent, left, rfl, hs3, hl4, hsub, hgk, hofs, hsum, hpart, rfl⟩
  refine ⟨true, xt_val xd_bl, fun _ F4 H4 g4 => ?_, fun h => by cases h⟩
  have gg4 := gg3.trans g4
  have hofl : Of rs left := hof.sub fun k hk => hsub.subset hk
  have hll : left.length ≤ ks.length := hsub.length_le
  have hlsh := ks_shaped hw.ok hofl
  have hl44 := hl4.mono g4.f
  refine ⟨fun σ3 H3' => ∃ (F' : Hp), Ex F3 F' ∧ Grow none F H F' H3' ∧ ∃ (v3 v4 : V) (t5 : Option V) (sent' left' : List Ver), left'.length < left.length ∧ σ3 = [some (.ref a), some v, some t, some v3, some v4, t5, none] ∧ Ds F' v3 (.list (sent'.map pairD)) ∧ Ds F' v4 (.list (left'.map pairD)) ∧ List.Sublist left' ks ∧ gk rs ss left' = gk rs ss ks ∧ Of rs sent' ∧ sent'.length + left'.length = ks.length ∧ (∀ k ∈ ks, k ∈ sent' ↔ k ∉ left'), fun σ3 H3' ⟨F', b1, b2, v3, v4, t5, sent', left', b3, b4, b5, b6, b7, b8, b9, b10, b11⟩ => ⟨left'.length, F', b3, b1, b2, v3, v4, t5, sent', left', b4, b5, b6, b7, b8, b9, b10, b11, rfl⟩, ?_⟩
  refine ss_cons (s_set (i := 5) (T := dt (.list ((left.filter fun k => !barB rs ss left k).map pairD))) scUn.nd rfl (XD.eq (XM.xd (xm_lcIf (own := [("use", 6)]) (gx := gName 6) (asg := fun σ vs => σ.set 6 vs.head?) (esf := fun d => [d]) (ds := left.map pairD) (pr := fun d => !barB rs ss left (dver d)) (gm := fun d => pairD (dver d))
    ⟨rfl, scUn.nd, blkOk_by (N := nUn) (sc := defScope sUn) (by decide +kernel), fun _ _ _ _ _ => pg_name (i := 6) scUn.nd rfl (.inl rfl), fun _ => rfl⟩ (xi_lst (xv 4 hl44)) (fun d _ => tgt_name) (by rw [List.length_map]; omega) (fun _ => rfl) (fun d vs F5 H5 hd' g5 hvs => ?_) (fun d vs F5 H5 hd' _ g5 hvs => ?_))) (congrArg PyData.list (filt_map pairD dver dver_p (fun k => !barB rs ss left k) pairD left))) gg4 (fun v5 F5 H5 g5 h5 => ?_) (.inr rfl))
  · intro s' H0' C' cl fp
    obtain ⟨k, hk, rfl⟩ := List.mem_map.mp hd'
    obtain ⟨x, rfl, hx⟩ := hvs.one
    refine xt_not (xt_val (xc CB hr (by decide) (xa_cons (T := is (.ref a)) mono_is (xvi 0) (xa_cons mono_dt (xv 1 (hv.mono (gg4.f.trans g5.f))) (xa_cons mono_dt (xv 6 hx) (xa_cons mono_dt (xv 4 (hl44.mono g5.f)) xa_nil)))) (T := dt (.bool (barB rs ss left k))) ?_))
    rintro vs F6 e ht'
    obtain ⟨w1, w2, w3, w4, rfl, rfl, a2, a3, a4⟩ := ht'.four
    exact ⟨a, rs, w2, w3, w4, ss, k, left, _, rfl, hw.mono ((gg4.f.trans g5.f).trans e), a2, a3, hofl k hk, a4, .inl rfl, hofl, rfl⟩
  · intro s' H0' C' cl fp
    obtain ⟨k, hk, rfl⟩ := List.mem_map.mp hd'
    obtain ⟨x, rfl, hx⟩ := hvs.one
    exact xv 6 hx
  have gg5 := gg4.trans g5
  have hsp := filt_len2 (barB rs ss left) left
  have h5' : Ds F5 v5 (.list ((left.filter fun k => !barB rs ss left k).map pairD)) := h5
  have hs35 := hs3.mono (g4.f.trans g5.f)
  have hl45 := hl44.mono g5.f
  refine ss_cons (s_if (u := ((left.filter fun k => !barB rs ss left k).map pairD).isEmpty) (XT.eq (xt_not (xt_lst (xv 5 h5'))) (Bool.not_not _)) gg5 (fun hb F6 H6 g6 => ?_) (fun hb F6 H6 g6 => ?_))
  · have hnil : (left.filter fun k => !barB rs ss left k) = [] := by
      cases e : left.filter fun k => !barB rs ss left k with
      | nil => rfl
      | cons _ _ => rw [e] at hb; cases hb
    have h00 : (left.filter fun k => !barB rs ss left k).length = 0 := by rw [hnil]; rfl
    have hfix : gk rs ss left = left := gk_fix (by omega)
    refine ss_cons (s_ret (T := dt (.list (sent.map pairD))) (xv 3 (hs35.mono g6.f)) (gg5.trans g6) fun v' F7 H7 g7 h7 => kq v' F7 H7 ((gg5.trans g6).trans g7) ⟨_, h7, sent, rfl, hofs, by omega, fun k hk => ?_⟩)
    rw [← hgk, hfix]
    exact hpart k hk
  · have hne : 0 < (left.filter fun k => !barB rs ss left k).length := by
      cases e : left.filter fun k => !barB rs ss left k with
      | nil => rw [e] at hb; cases hb
      | cons _ _ => simp
    have gg6 := gg5.trans g6
    have hoff : Of rs (left.filter fun k => !barB rs ss left k) := hofl.sub fun k hk => (List.mem_filter.mp hk).1
    refine ss_nil (ss_cons (s_set (i := 3) (T := dt (.list ((sent ++ left.filter fun k => !barB rs ss left k).map pairD))) scUn.nd rfl (XD.eq (XM.xd (xm_cat (xv 3 (hs35.mono g6.f)) (xv 5 (h5'.mono g6.f)) (by rw [List.length_map, List.length_map]; omega))) (by rw [List.map_append])) gg6 fun v3' F7 H7 g7 h3' => ?_))
    have gg7 := gg6.trans g7
    have hl47 := hl45.mono (g6.f.trans g7.f)
    have h57 := h5'.mono (g6.f.trans g7.f)
    have hmem : ∀ k ∈ left, k ∈ (left.filter fun k => !barB rs ss left k) ↔ barB rs ss left k = false := fun k hk => by
      rw [List.mem_filter]
      simp [hk]
    refine ss_cons (s_set (i := 4) (T := dt (.list ((left.filter (barB rs ss left)).map pairD))) scUn.nd rfl (XD.eq (XM.xd (xm_lcIf (own := [("use", 6)]) (gx := gName 6) (asg := fun σ vs => σ.set 6 vs.head?) (esf := fun d => [d]) (ds := left.map pairD) (pr := fun d => !decide (dver d ∈ left.filter fun k => !barB rs ss left k)) (gm := fun d => pairD (dver d))
      ⟨rfl, scUn.nd, blkOk_by (N := nUn) (sc := defScope sUn) (by decide +kernel), fun _ _ _ _ _ => pg_name (i := 6) scUn.nd rfl (.inl rfl), fun _ => rfl⟩ (xi_lst (xv 4 hl47)) (fun d _ => tgt_name) (by rw [List.length_map]; omega) (fun _ => rfl) (fun d vs F8 H8 hd' g8 hvs => ?_) (fun d vs F8 H8 hd' _ g8 hvs => ?_))) ?_) gg7 (fun v4' F8 H8 g8 h4' => ss_nil ?_) (.inr rfl))
    · intro s' H0' C' cl fp
      obtain ⟨k, hk, rfl⟩ := List.mem_map.mp hd'
      obtain ⟨x, rfl, hx⟩ := hvs.one
      exact XT.eq (xt_cmp (c_niD hr.u65 (xv 6 hx) (xv 5 (h57.mono g8.f)) (key_shaped hw.ok (hofl k hk)) (ks_shaped hw.ok hoff))) (by rw [any_pair]; rfl)
    · intro s' H0' C' cl fp
      obtain ⟨k, hk, rfl⟩ := List.mem_map.mp hd'
      obtain ⟨x, rfl, hx⟩ := hvs.one
      exact xv 6 hx
    · rw [filt_map pairD dver dver_p (fun k => !decide (k ∈ left.filter fun k => !barB rs ss left k)) pairD left]
      refine congrArg (fun l : List Ver => PyData.list (l.map pairD)) (List.filter_congr fun k hk => ?_)
      cases q : barB rs ss left k with
      | true => rw [decide_eq_false (fun z => by rw [(hmem k hk).mp z] at q; cases q)]; rfl
      | false => rw [decide_eq_true ((hmem k hk).mpr q)]; rfl
    · have hlt : (left.filter (barB rs ss left)).length < left.length := by omega
      refine ⟨F8, g4.f.trans (g5.f.trans (g6.f.trans (g7.f.trans g8.f))), gg7.trans g8, _, _, _, sent ++ left.filter fun k => !barB rs ss left k, left.filter (barB rs ss left), hlt, rfl, Ds.mono g8.f h3', h4', List.filter_sublist.trans hsub, (gk_step hlt).symm.trans hgk, fun k hk => ?_, by rw [List.length_append]; omega, fun k hk => ?_⟩
      · rcases List.mem_append.mp hk with h | h
        · exact hofs k h
        · exact hoff k h
      · rw [List.mem_append, hpart k hk, List.mem_filter, List.mem_filter]
        by_cases q : k ∈ left
        · cases barB rs ss left k <;> simp [q]
        · simp [q]
/-! greatest_knot -/
abbrev sGk : Stmt := top 42
abbrev nGk : List Str := ["world", "leaks", "stale", "sent", "use"]
theorem scGk : FnScope nGk ["world", "leaks", "stale"] (defScope sGk) := ⟨rfl, rfl, rfl, by decide +kernel, rfl, by decide +kernel, by decide +kernel⟩
def pGk (C : Addr) : List V → Hp → TyP → Prop := fun vs F T => ∃ (a : Addr) (rs : List Row) (v t : V) (ss : List (List Str)) (ks : List Ver), vs = [.ref a, v, t] ∧ Wd C rs a F ∧ Ds F v (leaksD rs ss) ∧ Ds F t (.list (ks.map pairD)) ∧ Of rs ks ∧ ks.Nodup ∧ T = dt (.list ((gk rs ss ks).map pairD))
theorem ok_gk (CU : Cal P w K mg base "unread_sends" 6 ["world", "leaks", "stale"] (spD (pUn C))) {f : Addr} {fd : FuncData} (Fn : Fun K "greatest_knot" "greatest_knot" sGk f fd) : FnOk P w K mg base CX0 7 f fd ["world", "leaks", "stale"] (spD (pGk C)) := by
  refine Fn.ok scGk (fun vs H Q E h => ?_) (fun cdv A outer s H vs Q E hr h => ⟨_, wSs_ok, ?_⟩)
  · obtain ⟨F, T, _, ⟨a, rs, v, t, ss, ks, rfl, _⟩, _⟩ := h
    rfl
  obtain ⟨F, T, s0, ⟨a, rs, v, t, ss, ks, rfl, hw, hv, ht, hof, hnd, rfl⟩, kq⟩ := h
  have hlen := hw.ok.len
  have hkl := hof.len hnd
  refine ss_cons (s_set (i := 3) (T := tE (fun e => ∃ sent : List Ver, e = .list (sent.map pairD) ∧ Sent rs ss ks sent)) scGk.nd rfl (xc CU hr (by decide) (xa_cons (T := is (.ref a)) mono_is (xvi 0) (xa_cons mono_dt (xv 1 hv) (xa_cons mono_dt (xv 2 ht) xa_nil))) ?_) (Grow.start s0) (fun v3 F1 H1 g1 h3 => ?_) (.inr rfl))
  · rintro vs F3 e ht'
    obtain ⟨w1, w2, w3, rfl, rfl, a2, a3⟩ := ht'.three
    exact ⟨a, rs, w2, w3, ss, ks, rfl, hw.mono e, a2, a3, hof, hnd, rfl⟩
  obtain ⟨_, hs3, sent, rfl, hS1, hS2, hS3⟩ := h3
  refine ss_cons (s_ret (XD.eq (XM.xd (xm_lcIf (own := [("use", 4)]) (gx := gName 4) (asg := fun σ vs => σ.set 4 vs.head?) (esf := fun d => [d]) (ds := ks.map pairD) (pr := fun d => !decide (dver d ∈ sent)) (gm := fun d => pairD (dver d))
    ⟨rfl, scGk.nd, blkOk_by (N := nGk) (sc := defScope sGk) (by decide +kernel), fun _ _ _ _ _ => pg_name (i := 4) scGk.nd rfl (.inl rfl), fun _ => rfl⟩ (xi_lst (xv 2 (ht.mono g1.f))) (fun d _ => tgt_name) (by rw [List.length_map]; omega) (fun _ => rfl) (fun d vs F2 H2 hd' g2 hvs => ?_) (fun d vs F2 H2 hd' _ g2 hvs => ?_))) ?_) g1 fun v' F3 H3 g3 h3 => kq v' F3 H3 (g1.trans g3) h3)
  · intro s' H0' C' cl fp
    obtain ⟨k, hk, rfl⟩ := List.mem_map.mp hd'
    obtain ⟨x, rfl, hx⟩ := hvs.one
    exact XT.eq (xt_cmp (c_niD hr.u65 (xv 4 hx) (xv 3 (hs3.mono g2.f)) (key_shaped hw.ok (hof k hk)) (ks_shaped hw.ok hS1))) (by rw [any_pair]; rfl)
  · intro s' H0' C' cl fp
    obtain ⟨k, hk, rfl⟩ := List.mem_map.mp hd'
    obtain ⟨x, rfl, hx⟩ := hvs.one
    exact xv 4 hx
  · rw [filt_map pairD dver dver_p (fun k => !decide (k ∈ sent)) pairD ks]
    refine congrArg (fun l : List Ver => PyData.list (l.map pairD)) ?_
    refine Eq.trans (List.filter_congr fun k hk => ?_) (filt_in (gk_sub rs ss ks) hnd)
    by_cases q : k ∈ gk rs ss ks
    · rw [decide_eq_false (fun z => (hS3 k hk).mp z q), decide_eq_true q]; rfl
    · rw [decide_eq_true ((hS3 k hk).mpr q), decide_eq_false q]; rfl
/-! _is_tied -/
abbrev sTi : Stmt := top 44
abbrev nTi : List Str := ["world", "leaks", "uses", "use"]
theorem scTi : FnScope nTi ["world", "leaks", "uses"] (defScope sTi) := ⟨rfl, rfl, rfl, by decide +kernel, rfl, by decide +kernel, by decide +kernel⟩
def pTi (C : Addr) : List V → Hp → TyP → Prop := fun vs F T => ∃ (a : Addr) (rs : List Row) (v t : V) (ss : List (List Str)) (ks : List Ver) (d : PyData), vs = [.ref a, v, t] ∧ Wd C rs a F ∧ Ds F v (leaksD rs ss) ∧ Ds F t d ∧ usesKT d ks ∧ Of rs ks ∧ ks.Nodup ∧ T = dt (.bool (ks.all (barB rs ss ks)))
theorem ok_ti (CB : Cal P w K mg base "is_barred" 5 ["world", "leaks", "use", "stale"] (spD (pBa C))) (B : Bn mg) {f : Addr} {fd : FuncData} (Fn : Fun K "_is_tied" "_is_tied" sTi f fd) : FnOk P w K mg base CX0 6 f fd ["world", "leaks", "uses"] (spD (pTi C)) := by
  refine Fn.ok scTi (fun vs H Q E h => ?_) (fun cdv A outer s H vs Q E hr h => ⟨_, wSs_ok, ?_⟩)
  · obtain ⟨F, T, _, ⟨a, rs, v, t, ss, ks, d, rfl, _⟩, _⟩ := h
    rfl
  obtain ⟨F, T, s0, ⟨a, rs, v, t, ss, ks, d, rfl, hw, hv, ht, hd, hof, hnd, rfl⟩, kq⟩ := h
  have hlen := hw.ok.len
  have hkl := hof.len hnd
  refine ss_cons (s_ret (XD.eq (xd_all (bs := ks.map (barB rs ss ks)) rfl B (XM.xd (xm_lc (own := [("use", 3)]) (gx := gName 3) (asg := fun σ vs => σ.set 3 vs.head?) (esf := fun d => [d]) (ds := ks.map pairD) (gm := fun d => .bool (barB rs ss ks (dver d)))
    ⟨rfl, scTi.nd, blkOk_by (N := nTi) (sc := defScope sTi) (by decide +kernel), fun _ _ _ _ _ => pg_name (i := 3) scTi.nd rfl (.inl rfl), fun _ => rfl⟩ (xi_LT (xv 2 ht) hd) (fun d _ => tgt_name) (by rw [List.length_map]; omega) (fun _ => rfl) (fun d' vs F2 H2 hd' g2 hvs => ?_))) ?_) ?_) (Grow.start s0) fun v' F3 H3 g3 h3 => kq v' F3 H3 g3 h3)
  · intro s' H0' C' cl fp
    obtain ⟨k, hk, rfl⟩ := List.mem_map.mp hd'
    obtain ⟨x, rfl, hx⟩ := hvs.one
    refine xc CB hr (by decide) (xa_cons (T := is (.ref a)) mono_is (xvi 0) (xa_cons mono_dt (xv 1 (hv.mono g2.f)) (xa_cons mono_dt (xv 3 hx) (xa_cons mono_dt (xv 2 (ht.mono g2.f)) xa_nil)))) (T := dt (.bool (barB rs ss ks k))) ?_
    rintro vs F6 e ht'
    obtain ⟨w1, w2, w3, w4, rfl, rfl, a2, a3, a4⟩ := ht'.four
    exact ⟨a, rs, w2, w3, w4, ss, k, ks, d, rfl, hw.mono (g2.f.trans e), a2, a3, hof k hk, a4, hd, hof, rfl⟩
  · rw [List.map_map, List.map_map]; rfl
  · rw [List.all_map]; rfl
/-! is_enough -/
abbrev sEn : Stmt := top 45
abbrev nEn : List Str := ["world", "suspicions", "uses", "wanted", "stale", "use"]
theorem scEn : FnScope nEn ["world", "suspicions", "uses"] (defScope sEn) := ⟨rfl, rfl, rfl, by decide +kernel, rfl, by decide +kernel, by decide +kernel⟩
def pEn (C : Addr) : List V → Hp → TyP → Prop := fun vs F T => ∃ (a : Addr) (rs : List Row) (v u : V) (dd d : PyData) (ss : List (List Str)) (ks : List Ver), vs = [.ref a, v, u] ∧ Wd C rs a F ∧ Ds F v dd ∧ susLT dd ss ∧ (∀ s ∈ ss, Susp rs s) ∧ 1 ≤ ss.length ∧ ss.length ≤ 3 ∧ Ds F u d ∧ usesKT d ks ∧ List.Sublist ks (neededL rs ss) ∧ T = dt (.bool (gk rs ss ((neededL rs ss).filter fun k => !decide (k ∈ ks))).isEmpty)
theorem need_of (rs : List Row) (ss : List (List Str)) : Of rs (neededL rs ss) := fun k hk => by
  unfold neededL at hk
  obtain ⟨r, hr, rfl⟩ := List.mem_map.mp hk
  exact List.mem_map_of_mem (List.mem_filter.mp hr).1
theorem need_nd {rs : List Row} (ss : List (List Str)) (h : (rs.map Row.key).Nodup) : (neededL rs ss).Nodup := h.sublist (List.Sublist.map _ List.filter_sublist)
theorem ok_en (CW : Cal P w K mg base "check_world" 1 ["world"] (spD (pCw C))) (CSS : Cal P w K mg base "check_suspicions" 5 ["world", "suspicions"] (spD (pCssLT C))) (CN : Cal P w K mg base "needed" 8 ["world", "suspicions"] (spD (pNe C))) (CI : Cal P w K mg base "is_choice" 4 ["world", "uses", "value"] (spD (pIc C))) (CL : Cal P w K mg base "all_leaks" 8 ["world", "suspicions"] (spD (pLe C))) (CG : Cal P w K mg base "greatest_knot" 7 ["world", "leaks", "stale"] (spD (pGk C))) {f : Addr} {fd : FuncData} (Fn : Fun K "is_enough" "is_enough" sEn f fd) : FnOk P w K mg base CX0 9 f fd ["world", "suspicions", "uses"] (spD (pEn C)) := by
  refine Fn.ok scEn (fun vs H Q E h => ?_) (fun cdv A outer s H vs Q E hr h => ⟨_, wSs_ok, ?_⟩)
  · obtain ⟨F, T, _, ⟨a, rs, v, u, dd, d, ss, ks, rfl, _⟩, _⟩ := h
    rfl
  obtain ⟨F, T, s0, ⟨a, rs, v, u, dd, d, ss, ks, rfl, hw, hv, hdd, hss, hs1, hs3, hu, hd, hsub, rfl⟩, kq⟩ := h
  have g0 := Grow.start s0
  have hof := need_of rs ss
  have hnd := need_nd ss hw.ok.nd
  have hlen := hw.ok.len
  have hnl := hof.len hnd
  have hofk : Of rs ks := hof.sub fun k hk => hsub.subset hk
  refine ss_cons (s_expr (T := dt .none) (xc CW hr (by decide) (xa_cons (T := is (.ref a)) mono_is (xvi 0) xa_nil) ?_) g0 fun v1 F1 H1 g1 _ => ?_)
  · rintro vs F3 e ht
    obtain ⟨v1, rfl, rfl⟩ := ht.one
    exact ⟨a, rs, rfl, hw.mono e, rfl⟩
  refine ss_cons (s_expr (T := dt .none) (xc CSS hr (by decide) (xa_cons (T := is (.ref a)) mono_is (xvi 0) (xa_cons mono_dt (xv 1 (hv.mono g1.f)) xa_nil)) ?_) g1 fun v2 F2 H2 g2 _ => ?_)
  · rintro vs F3 e ht
    obtain ⟨v1, v2, rfl, rfl, h3⟩ := ht.two
    exact ⟨a, rs, v2, dd, ss, rfl, hw.mono (g1.f.trans e), h3, hdd, hss, hs1, hs3, rfl⟩
  have gg2 := g1.trans g2
  refine ss_cons (s_set (i := 3) (T := dt (.list ((neededL rs ss).map pairD))) scEn.nd rfl (xc CN hr (by decide) (xa_cons (T := is (.ref a)) mono_is (xvi 0) (xa_cons mono_dt (xv 1 (hv.mono gg2.f)) xa_nil)) ?_) gg2 fun v3 F3 H3 g3 h3 => ?_)
  · rintro vs F3 e ht
    obtain ⟨v1, v2, rfl, rfl, h3⟩ := ht.two
    exact ⟨a, rs, v2, dd, ss, rfl, hw.mono (gg2.f.trans e), h3, hdd, hss, hs1, hs3, rfl⟩
  have gg3 := gg2.trans g3
  have h3' : Ds F3 v3 (.list ((neededL rs ss).map pairD)) := h3
  refine ss_cons (s_skip (xt_not (u := true) (xt_val (xc CI hr (by decide) (xa_cons (T := is (.ref a)) mono_is (xvi 0) (xa_cons mono_dt (xv 3 h3') (xa_cons mono_dt (xv 2 (hu.mono gg3.f)) xa_nil))) (T := dt (.bool true)) ?_))) gg3 fun F4 H4 g4 => ?_)
  · rintro vs F5 e ht
    obtain ⟨v1, v2, v3, rfl, rfl, h2, h3⟩ := ht.three
    exact ⟨a, rs, v2, v3, neededL rs ss, ks, d, rfl, hw.mono (gg3.f.trans e), h2, h3, hd, hof, hnd, hsub, rfl⟩
  have gg4 := gg3.trans g4
  have h34 := h3'.mono g4.f
  have hoff : Of rs ((neededL rs ss).filter fun k => !decide (k ∈ ks)) := hof.sub fun k hk => (List.mem_filter.mp hk).1
  refine ss_cons (s_lcIf (i := 4) (own := [("use", 5)]) (gx := gName 5) (asg := fun σ vs => σ.set 5 vs.head?) (esf := fun d => [d]) (ds := (neededL rs ss).map pairD) (pr := fun d => !decide (dver d ∈ ks)) (gm := fun d => pairD (dver d)) rfl rfl (sw_true rfl rfl rfl (by decide +kernel)) gg4 (fun l5 ws5 F5 H5 g5 h05 hF5 hH5 hds5 => ?_)
    ⟨rfl, scEn.nd, blkOk_by (N := nEn) (sc := defScope sEn) (by decide +kernel), fun _ _ _ _ _ => pg_name (i := 5) scEn.nd rfl (.inl rfl), fun _ => rfl⟩ (xi_lst (xv 3 h34)) (fun d _ => tgt_name) (by rw [List.length_map]; omega) (fun _ => rfl) (fun d' vs F5 H5 hd' g5 hvs => ?_) (fun d' vs F5 H5 hd' _ g5 hvs => ?_))
  rotate_left
  · intro s' H0' C' cl fp
    obtain ⟨k, hk, rfl⟩ := List.mem_map.mp hd'
    obtain ⟨x, rfl, hx⟩ := hvs.one
    exact XT.eq (xt_cmp (c_niLT hr.u65 (xv 5 hx) (xv 2 (hu.mono (gg4.f.trans g5.f))) hd (key_shaped hw.ok (hof k hk)) (ks_shaped hw.ok hofk))) (by rw [any_pair]; rfl)
  · intro s' H0' C' cl fp
    obtain ⟨k, hk, rfl⟩ := List.mem_map.mp hd'
    obtain ⟨x, rfl, hx⟩ := hvs.one
    exact xv 5 hx
  rw [filt_map pairD dver dver_p (fun k => !decide (k ∈ ks)) pairD] at hds5
  obtain ⟨gg5, h5⟩ := (gg4.trans g5).freeze (gg4.fresh h05) hF5 hH5 hds5
  refine ss_cons (s_ret (XD.eq (xd_notL (xc CG hr (by decide) (xa_cons (T := is (.ref a)) mono_is (xvi 0) (xa_cons mono_dt (xc CL hr (by decide) (xa_cons (T := is (.ref a)) mono_is (xvi 0) (xa_cons mono_dt (xv 1 (hv.mono gg5.f)) xa_nil)) (T := dt (leaksD rs ss)) ?_) (xa_cons mono_dt (xv 4 h5) xa_nil))) (T := dt (.list ((gk rs ss ((neededL rs ss).filter fun k => !decide (k ∈ ks))).map pairD))) ?_)) (by rw [List.isEmpty_map])) gg5 fun v' F6 H6 g6 h6 => kq v' F6 H6 (gg5.trans g6) h6)
  · rintro vs F6 e ht
    obtain ⟨v1, v2, rfl, rfl, h2⟩ := ht.two
    exact ⟨a, rs, v2, dd, ss, rfl, hw.mono (gg5.f.trans e), h2, hdd, hss, hs3, rfl⟩
  · rintro vs F6 e ht
    obtain ⟨v1, v2, v3, rfl, rfl, h2, h3⟩ := ht.three
    exact ⟨a, rs, v2, v3, ss, _, rfl, hw.mono (gg5.f.trans e), h2, h3, hoff, hnd.filter _, rfl⟩
/-! is_knot -/
abbrev sKn : Stmt := top 46
theorem scKn : FnScope ["world", "suspicions", "uses"] ["world", "suspicions", "uses"] (defScope sKn) := ⟨rfl, rfl, rfl, by decide +kernel, rfl, by decide +kernel, by decide +kernel⟩
def pKn (C : Addr) : List V → Hp → TyP → Prop := fun vs F T => ∃ (a : Addr) (rs : List Row) (v u : V) (dd d : PyData) (ss : List (List Str)) (ks : List Ver), vs = [.ref a, v, u] ∧ Wd C rs a F ∧ Ds F v dd ∧ susLT dd ss ∧ (∀ s ∈ ss, Susp rs s) ∧ 1 ≤ ss.length ∧ ss.length ≤ 3 ∧ Ds F u d ∧ usesKT d ks ∧ List.Sublist ks (neededL rs ss) ∧ ks ≠ [] ∧ T = dt (.bool (ks.all (barB rs ss ks)))
theorem ok_kn (CW : Cal P w K mg base "check_world" 1 ["world"] (spD (pCw C))) (CSS : Cal P w K mg base "check_suspicions" 5 ["world", "suspicions"] (spD (pCssLT C))) (CN : Cal P w K mg base "needed" 8 ["world", "suspicions"] (spD (pNe C))) (CI : Cal P w K mg base "is_choice" 4 ["world", "uses", "value"] (spD (pIc C))) (CL : Cal P w K mg base "all_leaks" 8 ["world", "suspicions"] (spD (pLe C))) (CT : Cal P w K mg base "_is_tied" 6 ["world", "leaks", "uses"] (spD (pTi C))) (B : Bn mg) {f : Addr} {fd : FuncData} (Fn : Fun K "is_knot" "is_knot" sKn f fd) : FnOk P w K mg base CX0 9 f fd ["world", "suspicions", "uses"] (spD (pKn C)) := by
  refine Fn.ok scKn (fun vs H Q E h => ?_) (fun cdv A outer s H vs Q E hr h => ⟨_, wSs_ok, ?_⟩)
  · obtain ⟨F, T, _, ⟨a, rs, v, u, dd, d, ss, ks, rfl, _⟩, _⟩ := h
    rfl
  obtain ⟨F, T, s0, ⟨a, rs, v, u, dd, d, ss, ks, rfl, hw, hv, hdd, hss, hs1, hs3, hu, hd, hsub, hne, rfl⟩, kq⟩ := h
  have g0 := Grow.start s0
  have hof := need_of rs ss
  have hnd := need_nd ss hw.ok.nd
  have hofk : Of rs ks := hof.sub fun k hk => hsub.subset hk
  have hkpos : 0 < ks.length := List.length_pos_iff.mpr hne
  refine ss_cons (s_expr (T := dt .none) (xc CW hr (by decide) (xa_cons (T := is (.ref a)) mono_is (xvi 0) xa_nil) ?_) g0 fun v1 F1 H1 g1 _ => ?_)
  · rintro vs F3 e ht
    obtain ⟨v1, rfl, rfl⟩ := ht.one
    exact ⟨a, rs, rfl, hw.mono e, rfl⟩
  refine ss_cons (s_expr (T := dt .none) (xc CSS hr (by decide) (xa_cons (T := is (.ref a)) mono_is (xvi 0) (xa_cons mono_dt (xv 1 (hv.mono g1.f)) xa_nil)) ?_) g1 fun v2 F2 H2 g2 _ => ?_)
  · rintro vs F3 e ht
    obtain ⟨v1, v2, rfl, rfl, h3⟩ := ht.two
    exact ⟨a, rs, v2, dd, ss, rfl, hw.mono (g1.f.trans e), h3, hdd, hss, hs1, hs3, rfl⟩
  have gg2 := g1.trans g2
  refine ss_cons (s_skip (XW.xt (xw_or (u := false) (v := false) (xt_not (u := true) (xt_val (xc CI hr (by decide) (xa_cons (T := is (.ref a)) mono_is (xvi 0) (xa_cons mono_dt (xc CN hr (by decide) (xa_cons (T := is (.ref a)) mono_is (xvi 0) (xa_cons mono_dt (xv 1 (hv.mono gg2.f)) xa_nil)) (T := dt (.list ((neededL rs ss).map pairD))) ?_) (xa_cons mono_dt (xv 2 (hu.mono gg2.f)) xa_nil))) (T := dt (.bool true)) ?_))) fun _ => xw_or1 (xt_cmp (XCm.eq (c_eqI (xd_lenQT (ds := ks.map pairD) B (xv 2 (hu.mono gg2.f)) hd) xd_int) (by rw [List.length_map]; exact decide_eq_false (by omega)))))) gg2 fun F4 H4 g4 => ?_)
  · rintro vs F3 e ht
    obtain ⟨v1, v2, rfl, rfl, h3⟩ := ht.two
    exact ⟨a, rs, v2, dd, ss, rfl, hw.mono (gg2.f.trans e), h3, hdd, hss, hs1, hs3, rfl⟩
  · rintro vs F5 e ht
    obtain ⟨v1, v2, v3, rfl, rfl, h2, h3⟩ := ht.three
    exact ⟨a, rs, v2, v3, neededL rs ss, ks, d, rfl, hw.mono (gg2.f.trans e), h2, h3, hd, hof, hnd, hsub, rfl⟩
  have gg4 := gg2.trans g4
  refine ss_cons (s_ret (xc CT hr (by decide) (xa_cons (T := is (.ref a)) mono_is (xvi 0) (xa_cons mono_dt (xc CL hr (by decide) (xa_cons (T := is (.ref a)) mono_is (xvi 0) (xa_cons mono_dt (xv 1 (hv.mono gg4.f)) xa_nil)) (T := dt (leaksD rs ss)) ?_) (xa_cons mono_dt (xv 2 (hu.mono gg4.f)) xa_nil))) ?_) gg4 fun v' F6 H6 g6 h6 => kq v' F6 H6 (gg4.trans g6) h6)
  · rintro vs F6 e ht
    obtain ⟨v1, v2, rfl, rfl, h2⟩ := ht.two
    exact ⟨a, rs, v2, dd, ss, rfl, hw.mono (gg4.f.trans e), h2, hdd, hss, hs3, rfl⟩
  · rintro vs F6 e ht
    obtain ⟨v1, v2, v3, rfl, rfl, h2, h3⟩ := ht.three
    exact ⟨a, rs, v2, v3, ss, ks, d, rfl, hw.mono (gg4.f.trans e), h2, h3, hd, hofk, hsub.nodup hnd, rfl⟩
end
end K01
end
section
set_option Elab.async false
set_option linter.all false
set_option maxRecDepth 100000
set_option maxHeartbeats 4000000
namespace K01
open PySem L2 Evl R
theorem find_filt {α : Type} (p : α → Bool) : ∀ l : List α, (l.filter p)[0]? = l.find? p
  | [] => rfl
  | x :: l => by
    rw [List.filter_cons, List.find?_cons]
    cases p x with
    | true => rfl
    | false => simpa using find_filt p l
def lsD (acc : List (List Ver)) : PyData := .list (acc.map fun l => .list (l.map pairD))
def dvers : PyData → List Ver
  | .list ds => ds.map dver
  | _ => []
theorem dvers_d (l : List Ver) : dvers (.list (l.map pairD)) = l := by
  show (l.map pairD).map dver = l
  rw [List.map_map]
  exact (List.map_congr_left fun k _ => dver_p k).trans (List.map_id' l)
section
variable {P : Program} {w : World} {K : PySem.W.Frag} {mg : Str → Option Value} {base : Heap} {C : Addr}
/-! _law_channel -/
abbrev sLc : Stmt := top 59
abbrev nLc : List Str := ["_law_rows", "_law_use", "_law_row"]
theorem scLc : FnScope nLc ["_law_rows", "_law_use"] (defScope sLc) := ⟨rfl, rfl, rfl, by decide +kernel, rfl, by decide +kernel, by decide +kernel⟩
def pLc : List V → Hp → TyP → Prop := fun vs F T => ∃ (v u : V) (rs : List Row) (k : Ver), vs = [v, u] ∧ Ds F v (rowsD rs) ∧ WorldOk rs ∧ Ds F u (pairD k) ∧ k ∈ rs.map Row.key ∧ T = dt (.tuple ((chOf rs k).map .str))
theorem ok_lc {f : Addr} {fd : FuncData} (Fn : Fun K "_law_channel" "_law_channel" sLc f fd) : FnOk P w K mg base CX0 1 f fd ["_law_rows", "_law_use"] (spD pLc) := by
  refine Fn.ok scLc (fun vs H Q E h => ?_) (fun cdv A outer s H vs Q E hr h => ⟨_, wSs_ok, ?_⟩)
  · obtain ⟨F, T, _, ⟨v, u, rs, k, rfl, _⟩, _⟩ := h
    rfl
  obtain ⟨F, T, s0, ⟨v, u, rs, k, rfl, hv, hW, hu, hk, rfl⟩, kq⟩ := h
  have hlen := hW.len
  have hv' : Ds F v (.list (rs.map Row.d)) := hv
  have hdat : ((rs.map Row.d).filter fun d => decide ((dRow d).key = k)).map (fun d => PyData.tuple ((dRow d).ch.map .str)) = (rs.filter fun r => decide (r.key = k)).map fun r => .tuple (r.ch.map .str) := filt_map Row.d dRow dRow_d (fun r => decide (r.key = k)) (fun r => PyData.tuple (r.ch.map .str)) rs
  have hix : atI ((rs.filter fun r => decide (r.key = k)).map fun r => PyData.tuple (r.ch.map .str)) ((0 : Nat) : Int) = some (.tuple ((chOf rs k).map .str)) := by
    refine atI_nat ?_
    rw [List.getElem?_map, find_filt]
    unfold chOf
    cases e : rs.find? fun r => decide (r.key = k) with
    | none =>
      obtain ⟨r, hr', h2⟩ := key_row hk
      exact absurd (List.find?_eq_none.mp e r hr') (by simp [h2])
    | some r => rfl
  refine ss_cons (s_ret (xd_ixL (XM.xd (XM.eq (xm_lcIf (own := [("_law_row", 2)]) (gx := gName 2) (asg := fun σ vs => σ.set 2 vs.head?) (esf := fun d => [d]) (ds := rs.map Row.d) (pr := fun d => decide ((dRow d).key = k)) (gm := fun d => .tuple ((dRow d).ch.map .str))
    ⟨rfl, scLc.nd, blkOk_by (N := nLc) (sc := defScope sLc) (by decide +kernel), fun _ _ _ _ _ => pg_name (i := 2) scLc.nd rfl (.inl rfl), fun _ => rfl⟩ (xi_lst (xv 0 hv')) (fun d _ => tgt_name) (by rw [List.length_map]; omega) (fun _ => rfl) (fun d vs F2 H2 hd g2 hvs => ?_) (fun d vs F2 H2 hd _ g2 hvs => ?_)) hdat)) xd_int hix) (Grow.start s0) fun v' F3 H3 g3 h3 => kq v' F3 H3 g3 h3)
  · intro s' H0' C' cl fp
    obtain ⟨x, rfl, hx⟩ := hvs.one
    obtain ⟨r, hrm, rfl⟩ := List.mem_map.mp hd
    rw [dRow_d]
    have hx' : Ds F2 x (.tuple [.str r.sv, .str r.se, .tuple (r.ch.map .str), .int r.co]) := hx
    exact XT.eq (xt_cmp (c_eq hr.units (xd_tup (ds := [.str r.sv, .str r.se]) (xa_cons mono_dt (xd_ixT (xv 2 hx') xd_int rfl) (xa_cons mono_dt (xd_ixT (xv 2 hx') xd_int rfl) xa_nil))) (xv 1 (hu.mono g2.f)) (key_shaped hW (List.mem_map_of_mem hrm)) (key_shaped hW hk))) (eqv_pair r.key k)
  · intro s' H0' C' cl fp
    obtain ⟨x, rfl, hx⟩ := hvs.one
    obtain ⟨r, hrm, rfl⟩ := List.mem_map.mp hd
    rw [dRow_d]
    have hx' : Ds F2 x (.tuple [.str r.sv, .str r.se, .tuple (r.ch.map .str), .int r.co]) := hx
    exact xd_ixT (xv 2 hx') xd_int rfl
/-! _law_is_read -/
abbrev sRd : Stmt := top 61
abbrev nRd : List Str := ["_law_rows", "_law_known", "_law_use", "_law_old", "_law_channel_here", "_law_one", "_law_secret"]
theorem scRd : FnScope nRd ["_law_rows", "_law_known", "_law_use", "_law_old"] (defScope sRd) := ⟨rfl, rfl, rfl, by decide +kernel, rfl, by decide +kernel, by decide +kernel⟩
def pRd : List V → Hp → TyP → Prop := fun vs F T => ∃ (v kn u o : V) (rs : List Row) (ss : List (List Str)) (k : Ver) (ks : List Ver), vs = [v, kn, u, o] ∧ Ds F v (rowsD rs) ∧ WorldOk rs ∧ Ds F kn (leaksD rs ss) ∧ Ds F u (pairD k) ∧ k ∈ rs.map Row.key ∧ Ds F o (.list (ks.map pairD)) ∧ Of rs ks ∧ T = dt (.bool (barB rs ss ks k))
theorem ok_rd (CC : Cal P w K mg base "_law_channel" 1 ["_law_rows", "_law_use"] (spD pLc)) (B : Bn mg) {f : Addr} {fd : FuncData} (Fn : Fun K "_law_is_read" "_law_is_read" sRd f fd) : FnOk P w K mg base CX0 2 f fd ["_law_rows", "_law_known", "_law_use", "_law_old"] (spD pRd) := by
  refine Fn.ok scRd (fun vs H Q E h => ?_) (fun cdv A outer s H vs Q E hr h => ⟨_, wSs_ok, ?_⟩)
  · obtain ⟨F, T, _, ⟨v, kn, u, o, rs, ss, k, ks, rfl, _⟩, _⟩ := h
    rfl
  obtain ⟨F, T, s0, ⟨v, kn, u, o, rs, ss, k, ks, rfl, hv, hW, hkn, hu, hk, ho, hof, rfl⟩, kq⟩ := h
  have hchl : (chOf rs k).length ≤ 3 := by
    obtain ⟨r, hrm, rfl⟩ := key_row hk
    rw [chOf_eq hW.nd hrm]; exact (hW.rows r hrm).chl
  have hcho : ∀ c ∈ chOf rs k, PyData.strOk c = true := by
    obtain ⟨r, hrm, rfl⟩ := key_row hk
    rw [chOf_eq hW.nd hrm]
    exact fun c hc => ((hW.rows r hrm).ch c hc).2.2.1
  have hko := (key_ok hW hk).1
  refine ss_cons (s_set (i := 4) (T := dt (.tuple ((chOf rs k).map .str))) scRd.nd rfl (xc CC hr (by decide) (xa_cons mono_dt (xv 0 hv) (xa_cons mono_dt (xv 2 hu) xa_nil)) ?_) (Grow.start s0) fun v4 F1 H1 g1 h4 => ?_)
  · rintro vs F3 e ht
    obtain ⟨w1, w2, rfl, a1, a2⟩ := ht.two
    exact ⟨w1, w2, rs, k, rfl, a1, hW, a2, hk, rfl⟩
  have hkn1 : Ds F1 kn (.list (ss.map fun s => strsD (exposedL rs s))) := hkn.mono g1.f
  have hsh := ks_shaped hW hof
  refine ss_cons (s_for (asg := fun σ vs => σ.set 5 vs.head?) (gx := gName 5) (esf := fun d => [d]) rfl PassesOwn.never (xi_lst (xv 1 hkn1)) (pg_name (i := 5) scRd.nd rfl (.inr rfl)) (fun d _ => tgt_name) g1
    (fun i σ F' H' => ∃ (t5 : Option V), σ = [some v, some kn, some u, some o, some v4, t5, none] ∧ ∀ s ∈ ss.take i, ((chOf rs k).all fun c => decide (c ∈ exposedL rs s) && decide ((k.1, c) ∈ ks)) = false) ?_ ⟨_, rfl, by simp⟩ ?_ ?_)
  · rintro i σ' F' H' F'' H'' h _
    exact h
  · rintro i d' vs σ' F3 H3 hdi e3 gg3 ⟨t7, rfl, hno⟩ hvs
    rw [List.getElem?_map] at hdi
    obtain ⟨s, hsi, rfl⟩ := Option.map_eq_some_iff.mp hdi
    obtain ⟨x, rfl, hx⟩ := hvs.one
    have hx' : Ds F3 x (.list ((exposedL rs s).map .str)) := hx
    have h43 : Ds F3 v4 (.tuple ((chOf rs k).map .str)) := Ds.mono e3 h4
    have hu3 : Ds F3 u (.tuple [.str k.1, .str k.2]) := hu.mono (g1.f.trans e3)
    refine ss_cons (s_if (u := (chOf rs k).all fun c => decide (c ∈ exposedL rs s) && decide ((k.1, c) ∈ ks)) (XT.eq (xt_val (xd_all (bs := (chOf rs k).map fun c => decide (c ∈ exposedL rs s) && decide ((k.1, c) ∈ ks)) rfl B (XM.xd (xm_lc (own := [("_law_secret", 6)]) (gx := gName 6) (asg := fun σ vs => σ.set 6 vs.head?) (esf := fun d => [d]) (ds := (chOf rs k).map .str) (gm := fun d => .bool (decide (dstr d ∈ exposedL rs s) && decide ((k.1, dstr d) ∈ ks)))
      ⟨rfl, scRd.nd, blkOk_by (N := nRd) (sc := defScope sRd) (by decide +kernel), fun _ _ _ _ _ => pg_name (i := 6) scRd.nd rfl (.inl rfl), fun _ => rfl⟩ (xi_tup (xv 4 h43)) (fun d _ => tgt_name) (by rw [List.length_map]; omega) (fun _ => rfl) (fun d vs F4 H4 hd' g4 hvs => ?_))) ?_)) ?_) gg3 (fun hb F4 H4 g4 => ?_) (fun hb F4 H4 g4 => ?_))
    · intro s' H0' C' cl fp
      obtain ⟨c', hc', rfl⟩ := List.mem_map.mp hd'
      obtain ⟨y, rfl, hy⟩ := hvs.one
      have hsh2 : SeqAt.shaped (pairD (k.1, c')) = true := by
        have := pair_dep (k.1, c')
        show ((pairD (k.1, c')).canLay0 && decide ((pairD (k.1, c')).depth ≤ 64)) = true
        rw [Bool.and_eq_true]
        exact ⟨pair_lay hko (hcho c' hc'), decide_eq_true (by omega)⟩
      exact xd_and (xd_cmp (c_inLS (xv 6 hy) (xv 5 (hx'.mono g4.f)))) fun _ => xd_one (XD.eq (xd_cmp (c_inD (d := pairD (k.1, c')) hr.u65 (xd_tup (ds := [.str k.1, .str c']) (xa_cons mono_dt (xd_ixT (xv 2 (hu3.mono g4.f)) xd_int rfl) (xa_cons mono_dt (xv 6 hy) xa_nil))) (xv 3 (ho.mono (g1.f.trans (e3.trans g4.f)))) hsh2 hsh)) (congrArg PyData.bool (any_pair ks (k.1, c'))))
    · rw [map_map' PyData.str dstr dstr_str (fun c => PyData.bool (decide (c ∈ exposedL rs s) && decide ((k.1, c) ∈ ks))), List.map_map]; rfl
    · rw [List.all_map]; rfl
    · refine ss_cons (s_ret xd_bl (gg3.trans g4) fun v8 F5 H5 g5 h5 => ?_)
      have : barB rs ss ks k = true := List.any_eq_true.mpr ⟨s, List.mem_of_getElem? hsi, hb⟩
      refine kq v8 F5 H5 ((gg3.trans g4).trans g5) ?_
      rw [this]; exact h5
    · refine ss_nil (ss_nil ⟨F4, g4.f, gg3.trans g4, _, rfl, fun s' hs' => ?_⟩)
      rw [List.take_add_one, hsi] at hs'
      rcases List.mem_append.mp hs' with q | q
      · exact hno s' q
      · have : s' = s := by simpa using q
        rw [this]; exact hb
  · rintro σ' F3 H3 e3 gg3 ⟨t7, rfl, hno⟩
    rw [List.length_map, List.take_length] at hno
    refine ss_cons (s_ret xd_bl gg3 fun v8 F5 H5 g5 h5 => ?_)
    have : barB rs ss ks k = false := List.any_eq_false.mpr fun s hs => by rw [hno s hs]; simp
    refine kq v8 F5 H5 (gg3.trans g5) ?_
    rw [this]; exact h5
/-! _law_sets -/
abbrev sSt : Stmt := top 62
abbrev nSt : List Str := ["_law_items", "_law_found", "_law_one", "_law_some"]
theorem scSt : FnScope nSt ["_law_items"] (defScope sSt) := ⟨rfl, rfl, rfl, by decide +kernel, rfl, by decide +kernel, by decide +kernel⟩
def pSt : List V → Hp → TyP → Prop := fun vs F T => ∃ (u : V) (ks : List Ver), vs = [u] ∧ Ds F u (.list (ks.map pairD)) ∧ ks.length ≤ 12 ∧ T = dt (lsD (subs ks [[]]))
theorem ok_st {f : Addr} {fd : FuncData} (Fn : Fun K "_law_sets" "_law_sets" sSt f fd) : FnOk P w K mg base CX0 1 f fd ["_law_items"] (spD pSt) := by
  refine Fn.ok scSt (fun vs H Q E h => ?_) (fun cdv A outer s H vs Q E hr h => ⟨_, wSs_ok, ?_⟩)
  · obtain ⟨F, T, _, ⟨u, ks, rfl, _⟩, _⟩ := h
    rfl
  obtain ⟨F, T, s0, ⟨u, ks, rfl, hu, hl, rfl⟩, kq⟩ := h
  have hpw : ∀ i ≤ 12, 2 ^ i ≤ 4096 := fun i hi => show 2 ^ i ≤ 2 ^ 12 from Nat.pow_le_pow_right (by decide) hi
  refine ss_cons (s_set (i := 1) (T := dt (lsD [[]])) scSt.nd rfl (XM.xd (xm_lst (ds := [.list []]) (xa_cons mono_dt (XM.xd (xm_lst (ds := []) xa_nil)) xa_nil))) (Grow.start s0) fun v1 F1 H1 g1 h1 => ?_)
  refine ss_cons (s_for (asg := fun σ vs => σ.set 2 vs.head?) (gx := gName 2) (esf := fun d => [d]) rfl PassesOwn.never (xi_lst (ds := ks.map pairD) (xv 0 (hu.mono g1.f))) (pg_name (i := 2) scSt.nd rfl (.inr rfl)) (fun d _ => tgt_name) g1
    (fun i σ F' H' => ∃ (t2 : Option V) (v1 : V) (acc : List (List Ver)), σ = [some u, some v1, t2, none] ∧ Ds F' v1 (lsD acc) ∧ acc.length = 2 ^ i ∧ i ≤ ks.length ∧ (∀ l ∈ acc, l.length ≤ i) ∧ subs (ks.drop i) acc = subs ks [[]]) ?_ ⟨_, v1, [[]], rfl, h1, rfl, Nat.zero_le _, by simp, rfl⟩ ?_ ?_)
  · rintro i σ' F' H' F'' H'' ⟨t2, v1, acc, rfl, h1, h2⟩ g
    exact ⟨_, v1, acc, rfl, h1.mono g.f, h2⟩
  · rintro i d vs σ' F2 H2 hdi e2 gg2 ⟨t2, v1, acc, rfl, hv1, hal, hik, hll, hsb⟩ hvs
    rw [List.getElem?_map] at hdi
    obtain ⟨k, hki, rfl⟩ := Option.map_eq_some_iff.mp hdi
    obtain ⟨x, rfl, hx⟩ := hvs.one
    obtain ⟨hlt, hget⟩ := List.getElem?_eq_some_iff.mp hki
    have hv1' : Ds F2 v1 (.list (acc.map fun l => .list (l.map pairD))) := hv1
    have hb := hpw i (by omega)
    refine ss_cons (s_set (i := 1) (T := dt (lsD (acc ++ acc.map fun l => l ++ [k]))) scSt.nd rfl (XD.eq (XM.xd (xm_cat (xv 1 hv1') (XM.xd (xm_lc (own := [("_law_some", 3)]) (gx := gName 3) (asg := fun σ vs => σ.set 3 vs.head?) (esf := fun d => [d]) (ds := acc.map fun l => .list (l.map pairD)) (gm := fun d => .list ((dvers d ++ [k]).map pairD))
      ⟨rfl, scSt.nd, blkOk_by (N := nSt) (sc := defScope sSt) (by decide +kernel), fun _ _ _ _ _ => pg_name (i := 3) scSt.nd rfl (.inl rfl), fun _ => rfl⟩ (xi_lst (xv 1 hv1')) (fun d _ => tgt_name) (by rw [List.length_map]; omega) (fun _ => rfl) (fun d vs F3 H3 hd g3 hvs => ?_))) (by rw [List.length_map, List.length_map, List.length_map]; omega))) ?_) gg2 fun v1' F3 H3 g3 h3 => ss_nil ⟨F3, g3.f, gg2.trans g3, _, v1', _, rfl, h3, ?_, hlt, fun l hl' => ?_, ?_⟩)
    · intro s' H0' C' cl fp
      obtain ⟨l, hlm, rfl⟩ := List.mem_map.mp hd
      obtain ⟨y, rfl, hy⟩ := hvs.one
      have := hll l hlm
      rw [dvers_d, List.map_append]
      exact XM.xd (xm_cat (xv 3 hy) (XM.xd (xm_lst (ds := [pairD k]) (xa_cons mono_dt (xv 2 (hx.mono g3.f)) xa_nil))) (by rw [List.length_map]; simp; omega))
    · rw [map_map' (fun l : List Ver => PyData.list (l.map pairD)) dvers dvers_d (fun l => PyData.list ((l ++ [k]).map pairD))]
      unfold lsD
      rw [List.map_append, List.map_map]; rfl
    · rw [List.length_append, List.length_map, hal, Nat.pow_succ]; omega
    · rcases List.mem_append.mp hl' with h | h
      · exact Nat.le_succ_of_le (hll l h)
      · obtain ⟨l', hl2, rfl⟩ := List.mem_map.mp h
        rw [List.length_append]
        exact Nat.succ_le_succ (hll l' hl2)
    · rw [← hsb, List.drop_eq_getElem_cons hlt, hget]; rfl
  · rintro σ' F2 H2 e2 gg2 ⟨t2, v1, acc, rfl, hv1, hal, hik, hll, hsb⟩
    rw [List.length_map, List.drop_length] at hsb
    have hv1' : Ds F2 v1 (lsD (subs ks [[]])) := by rw [← hsb]; exact hv1
    exact ss_cons (s_ret (xv 1 hv1') gg2 fun v8 F5 H5 g5 h5 => kq v8 F5 H5 (gg2.trans g5) h5)
/-! _law_left -/
abbrev sLf : Stmt := top 60
abbrev nLf : List Str := ["_law_rows", "_law_suspicions", "_law_carried", "_law_known", "_law_left_here", "_law_more", "_law_some", "_law_seen", "_law_use"]
theorem scLf : FnScope nLf ["_law_rows", "_law_suspicions", "_law_carried"] (defScope sLf) := ⟨rfl, rfl, rfl, by decide +kernel, rfl, by decide +kernel, by decide +kernel⟩
def pLf : List V → Hp → TyP → Prop := fun vs F T => ∃ (v u c : V) (rs : List Row) (ss : List (List Str)) (ks : List Ver), vs = [v, u, c] ∧ Ds F v (rowsD rs) ∧ WorldOk rs ∧ Names rs ∧ Ds F u (.list (ss.map seenD)) ∧ Seens ss ∧ Ds F c (.list (ks.map pairD)) ∧ Of rs ks ∧ T = dt (.list ((gk rs ss ((neededL rs ss).filter fun k => !decide (k ∈ ks))).map pairD))
theorem ok_lf (CX : Cal P w K mg base "_law_exposed" 2 ["_law_rows", "_law_seen"] (spD pExp)) (CN : Cal P w K mg base "_law_needed" 3 ["_law_rows", "_law_suspicions"] (spD pNeed)) (CR : Cal P w K mg base "_law_is_read" 2 ["_law_rows", "_law_known", "_law_use", "_law_old"] (spD pRd)) {f : Addr} {fd : FuncData} (Fn : Fun K "_law_left" "_law_left" sLf f fd) : FnOk P w K mg base CX0 4 f fd ["_law_rows", "_law_suspicions", "_law_carried"] (spD pLf) := by
  refine Fn.ok scLf (fun vs H Q E h => ?_) (fun cdv A outer s H vs Q E hr h => ⟨_, wSs_ok, ?_⟩)
  · obtain ⟨F, T, _, ⟨v, u, c, rs, ss, ks, rfl, _⟩, _⟩ := h
    rfl
  obtain ⟨F, T, s0, ⟨v, u, c, rs, ss, ks, rfl, hv, hW, hN, hu, hSn, hc, hofk, rfl⟩, kq⟩ := h
  have hof := need_of rs ss
  have hnd := need_nd ss hW.nd
  have hlen := hW.len
  have hnl := hof.len hnd
  have hsl := hSn.len
  refine ss_cons (s_set (i := 3) (T := dt (leaksD rs ss)) scLf.nd rfl (XD.eq (XM.xd (xm_lc (own := [("_law_seen", 7)]) (gx := gName 7) (asg := fun σ vs => σ.set 7 vs.head?) (esf := fun d => [d]) (ds := ss.map seenD) (gm := fun d => strsD (exposedL rs (dseen d)))
    ⟨rfl, scLf.nd, blkOk_by (N := nLf) (sc := defScope sLf) (by decide +kernel), fun _ _ _ _ _ => pg_name (i := 7) scLf.nd rfl (.inl rfl), fun _ => rfl⟩ (xi_lst (xv 1 hu)) (fun d _ => tgt_name) (by rw [List.length_map]; omega) (fun _ => rfl) (fun d vs F2 H2 hd g2 hvs => ?_))) ?_) (Grow.start s0) (fun v3 F1 H1 g1 h3 => ?_) (.inr rfl))
  · intro s' H0' C' cl fp
    obtain ⟨sn, hsn, rfl⟩ := List.mem_map.mp hd
    obtain ⟨x, rfl, hx⟩ := hvs.one
    rw [dseen_d]
    refine xc CX hr (by decide) (xa_cons mono_dt (xv 0 (hv.mono g2.f)) (xa_cons mono_dt (xv 7 hx) xa_nil)) (T := dt (strsD (exposedL rs sn))) ?_
    rintro vs F4 e ht
    obtain ⟨v1, v2, rfl, a1, a2⟩ := ht.two
    exact ⟨v1, v2, rs, sn, rfl, a1, a2, hN, hSn.sl sn hsn, hSn.ok sn hsn, rfl⟩
  · unfold leaksD
    rw [List.map_map]
    refine congrArg PyData.list (List.map_congr_left fun s _ => ?_)
    show strsD (exposedL rs (dseen (seenD s))) = _
    rw [dseen_d]
  have hv1 := hv.mono g1.f
  have hc1 := hc.mono g1.f
  refine ss_cons (s_par2 (i := 4) (j := 5) (T := dt (.list (((neededL rs ss).filter fun k => !decide (k ∈ ks)).map pairD))) (U := dt (.bool true)) rfl scLf.nd rfl rfl (.inr rfl) (.inl rfl) g1 mono_dt mono_dt (XD.eq (XM.xd (xm_lcIf (own := [("_law_use", 8)]) (gx := gName 8) (asg := fun σ vs => σ.set 8 vs.head?) (esf := fun d => [d]) (ds := (neededL rs ss).map pairD) (pr := fun d => !decide (dver d ∈ ks)) (gm := fun d => pairD (dver d))
    ⟨rfl, scLf.nd, blkOk_by (N := nLf) (sc := defScope sLf) (by decide +kernel), fun _ _ _ _ _ => pg_name (i := 8) scLf.nd rfl (.inl rfl), fun _ => rfl⟩ (xi_lst (xc CN hr (by decide) (xa_cons mono_dt (xv 0 hv1) (xa_cons mono_dt (xv 1 (hu.mono g1.f)) xa_nil)) (T := dt (.list ((neededL rs ss).map pairD))) ?_)) (fun d _ => tgt_name) (by rw [List.length_map]; omega) (fun _ => rfl) (fun d' vs F5 H5 hd' g5 hvs => ?_) (fun d' vs F5 H5 hd' _ g5 hvs => ?_))) (congrArg PyData.list (filt_map pairD dver dver_p (fun k => !decide (k ∈ ks)) pairD _))) xd_bl (fun v4 v5 F2 H2 g2 h4 h5 => ?_))
  · rintro vs F4 e ht
    obtain ⟨v1, v2, rfl, a1, a2⟩ := ht.two
    exact ⟨v1, v2, rs, ss, rfl, a1, a2, hN, hSn, rfl⟩
  · intro s' H0' C' cl fp
    obtain ⟨k, hk, rfl⟩ := List.mem_map.mp hd'
    obtain ⟨x, rfl, hx⟩ := hvs.one
    exact XT.eq (xt_cmp (c_niD hr.u65 (xv 8 hx) (xv 2 (hc1.mono g5.f)) (key_shaped hW (hof k hk)) (ks_shaped hW hofk))) (by rw [any_pair]; rfl)
  · intro s' H0' C' cl fp
    obtain ⟨k, hk, rfl⟩ := List.mem_map.mp hd'
    obtain ⟨x, rfl, hx⟩ := hvs.one
    exact xv 8 hx
  cases h5
  have gg2 := g1.trans g2
  have hoff : Of rs ((neededL rs ss).filter fun k => !decide (k ∈ ks)) := hof.sub fun k hk => (List.mem_filter.mp hk).1
  have hfl : ((neededL rs ss).filter fun k => !decide (k ∈ ks)).length ≤ 12 := Nat.le_trans (List.length_filter_le _ _) (by omega)
  generalize (neededL rs ss).filter (fun k => !decide (k ∈ ks)) = st0 at h4 hoff hfl kq
  refine ss_cons (R.s_while PassesOwn.never (fun m σ' F' H' => ∃ (b : Bool) (v4 : V) (t6 : Option V) (left : List Ver), σ' = [some v, some u, some c, some v3, some v4, some (.bl b), t6, none, none] ∧ Ds F' v4 (.list (left.map pairD)) ∧ List.Sublist left st0 ∧ gk rs ss left = gk rs ss st0 ∧ (b = false → gk rs ss left = left) ∧ m = 2 * left.length + (if b = true then 1 else 0)) (2 * st0.length + 1) ⟨true, v4, _, st0, rfl, h4, List.Sublist.refl _, rfl, fun h => (by cases h), rfl⟩ gg2 ?_)
  rintro m σ' F3 H3 e3 gg3 ⟨b, v4, t6, left, rfl, hl4, hsub, hgk, hfx, rfl⟩
  refine ⟨b, xt_val (xv 5 (.bl b)), fun hb F4 H4 g4 => ?_, fun hb F4 H4 g4 => ?_⟩
  rotate_left
  · subst hb
    have := hfx rfl
    rw [hgk] at this
    refine ss_cons (s_ret (T := dt (.list (left.map pairD))) (xv 4 (hl4.mono g4.f)) (gg3.trans g4) fun v' F7 H7 g7 h7 => kq v' F7 H7 ((gg3.trans g4).trans g7) ?_)
    rw [this]; exact h7
  subst hb
  have gg4 := gg3.trans g4
  have hofl : Of rs left := hoff.sub fun k hk => hsub.subset hk
  have hll : left.length ≤ st0.length := hsub.length_le
  have hl44 := hl4.mono g4.f
  have hsp := filt_len2 (barB rs ss left) left
  refine ⟨fun σ3 H3' => ∃ (F' : Hp), Ex F3 F' ∧ Grow none F H F' H3' ∧ ∃ (b : Bool) (v4 : V) (t6 : Option V) (left' : List Ver), 2 * left'.length + (if b = true then 1 else 0) < 2 * left.length + 1 ∧ σ3 = [some v, some u, some c, some v3, some v4, some (.bl b), t6, none, none] ∧ Ds F' v4 (.list (left'.map pairD)) ∧ List.Sublist left' st0 ∧ gk rs ss left' = gk rs ss st0 ∧ (b = false → gk rs ss left' = left'), fun σ3 H3' ⟨F', b1, b2, b, v4, t6, left', b3, b4, b5, b6, b7, b8⟩ => ⟨_, F', b3, b1, b2, b, v4, t6, left', b4, b5, b6, b7, b8, rfl⟩, ?_⟩
  refine ss_cons (s_set (i := 6) (T := dt (.list ((left.filter fun k => !barB rs ss left k).map pairD))) scLf.nd rfl (XD.eq (XM.xd (xm_lcIf (own := [("_law_use", 8)]) (gx := gName 8) (asg := fun σ vs => σ.set 8 vs.head?) (esf := fun d => [d]) (ds := left.map pairD) (pr := fun d => !barB rs ss left (dver d)) (gm := fun d => pairD (dver d))
    ⟨rfl, scLf.nd, blkOk_by (N := nLf) (sc := defScope sLf) (by decide +kernel), fun _ _ _ _ _ => pg_name (i := 8) scLf.nd rfl (.inl rfl), fun _ => rfl⟩ (xi_lst (xv 4 hl44)) (fun d _ => tgt_name) (by rw [List.length_map]; omega) (fun _ => rfl) (fun d vs F5 H5 hd' g5 hvs => ?_) (fun d vs F5 H5 hd' _ g5 hvs => ?_))) (congrArg PyData.list (filt_map pairD dver dver_p (fun k => !barB rs ss left k) pairD left))) gg4 (fun v6 F5 H5 g5 h6 => ?_) (.inr rfl))
  · intro s' H0' C' cl fp
    obtain ⟨k, hk, rfl⟩ := List.mem_map.mp hd'
    obtain ⟨x, rfl, hx⟩ := hvs.one
    refine xt_not (xt_val (xc CR hr (by decide) (xa_cons mono_dt (xv 0 (hv.mono (gg4.f.trans g5.f))) (xa_cons mono_dt (xv 3 (Ds.mono (g2.f.trans (e3.trans (g4.f.trans g5.f))) h3)) (xa_cons mono_dt (xv 8 hx) (xa_cons mono_dt (xv 4 (hl44.mono g5.f)) xa_nil)))) (T := dt (.bool (barB rs ss left k))) ?_))
    rintro vs F6 e ht'
    obtain ⟨w1, w2, w3, w4, rfl, a1, a2, a3, a4⟩ := ht'.four
    exact ⟨w1, w2, w3, w4, rs, ss, k, left, rfl, a1, hW, a2, a3, hofl k hk, a4, hofl, rfl⟩
  · intro s' H0' C' cl fp
    obtain ⟨k, hk, rfl⟩ := List.mem_map.mp hd'
    obtain ⟨x, rfl, hx⟩ := hvs.one
    exact xv 8 hx
  have gg5 := gg4.trans g5
  have h6' : Ds F5 v6 (.list ((left.filter fun k => !barB rs ss left k).map pairD)) := h6
  have hofn : Of rs (left.filter fun k => !barB rs ss left k) := hofl.sub fun k hk => (List.mem_filter.mp hk).1
  refine ss_cons (s_set (i := 5) (T := dt (.bool (!(left.filter fun k => !barB rs ss left k).isEmpty))) scLf.nd rfl (XD.eq (xd_cmp (c_ne hr.units (xv 6 h6') (XM.xd (xm_lst (ds := []) xa_nil)) (ks_shaped hW hofn) (by decide))) (by rw [eqv_lnil, List.isEmpty_map])) gg5 fun v5 F6 H6 g6 h5 => ?_)
  cases h5
  have gg6 := gg5.trans g6
  have hl46 := hl44.mono (g5.f.trans g6.f)
  have h66 := h6'.mono g6.f
  have hmem : ∀ k ∈ left, k ∈ (left.filter fun k => !barB rs ss left k) ↔ barB rs ss left k = false := fun k hk => by
    rw [List.mem_filter]
    simp [hk]
  refine ss_cons (s_set (i := 4) (T := dt (.list ((left.filter (barB rs ss left)).map pairD))) scLf.nd rfl (XD.eq (XM.xd (xm_lcIf (own := [("_law_use", 8)]) (gx := gName 8) (asg := fun σ vs => σ.set 8 vs.head?) (esf := fun d => [d]) (ds := left.map pairD) (pr := fun d => !decide (dver d ∈ left.filter fun k => !barB rs ss left k)) (gm := fun d => pairD (dver d))
    ⟨rfl, scLf.nd, blkOk_by (N := nLf) (sc := defScope sLf) (by decide +kernel), fun _ _ _ _ _ => pg_name (i := 8) scLf.nd rfl (.inl rfl), fun _ => rfl⟩ (xi_lst (xv 4 hl46)) (fun d _ => tgt_name) (by rw [List.length_map]; omega) (fun _ => rfl) (fun d vs F8 H8 hd' g8 hvs => ?_) (fun d vs F8 H8 hd' _ g8 hvs => ?_))) ?_) gg6 (fun v4' F8 H8 g8 h4' => ss_nil ?_) (.inr rfl))
  · intro s' H0' C' cl fp
    obtain ⟨k, hk, rfl⟩ := List.mem_map.mp hd'
    obtain ⟨x, rfl, hx⟩ := hvs.one
    exact XT.eq (xt_cmp (c_niD hr.u65 (xv 8 hx) (xv 6 (h66.mono g8.f)) (key_shaped hW (hofl k hk)) (ks_shaped hW hofn))) (by rw [any_pair]; rfl)
  · intro s' H0' C' cl fp
    obtain ⟨k, hk, rfl⟩ := List.mem_map.mp hd'
    obtain ⟨x, rfl, hx⟩ := hvs.one
    exact xv 8 hx
  · rw [filt_map pairD dver dver_p (fun k => !decide (k ∈ left.filter fun k => !barB rs ss left k)) pairD left]
    refine congrArg (fun l : List Ver => PyData.list (l.map pairD)) (List.filter_congr fun k hk => ?_)
    cases q : barB rs ss left k with
    | true => rw [decide_eq_false (fun z => by rw [(hmem k hk).mp z] at q; cases q)]; rfl
    | false => rw [decide_eq_true ((hmem k hk).mpr q)]; rfl
  · refine ⟨F8, g4.f.trans (g5.f.trans (g6.f.trans g8.f)), gg6.trans g8, _, v4', _, left.filter (barB rs ss left), ?_, rfl, h4', List.filter_sublist.trans hsub, ?_, fun hb => ?_⟩
    · cases e : left.filter fun k => !barB rs ss left k with
      | nil =>
        rw [e, List.length_nil] at hsp
        rw [if_neg (by simp)]
        omega
      | cons y l =>
        rw [e, List.length_cons] at hsp
        rw [if_pos (by simp)]
        omega
    · by_cases q : (left.filter (barB rs ss left)).length < left.length
      · exact (gk_step q).symm.trans hgk
      · have : left.filter (barB rs ss left) = left := List.filter_eq_self.mpr (filt_all _ _ q)
        rw [this]; exact hgk
    · have hnil : (left.filter fun k => !barB rs ss left k) = [] := by
        cases e : left.filter fun k => !barB rs ss left k with
        | nil => rfl
        | cons _ _ => rw [e] at hb; cases hb
      rw [hnil, List.length_nil] at hsp
      have q : ¬ (left.filter (barB rs ss left)).length < left.length := by omega
      have : left.filter (barB rs ss left) = left := List.filter_eq_self.mpr (filt_all _ _ q)
      rw [this]
      exact gk_fix q
end
end K01
end
section
set_option Elab.async false
set_option linter.all false
set_option maxRecDepth 100000
set_option maxHeartbeats 4000000
namespace K01
open PySem L2 Evl R
theorem ne_self {d : PyData} (h : SeqAt.shaped d = true) : (!PyData.eqv d d) = false := by
  have : d.canLay0 = true := by
    unfold SeqAt.shaped at h
    rw [Bool.and_eq_true] at h
    exact h.1
  rw [SeqAt.eqv_refl _ this]; rfl
theorem shaped_bool (b : Bool) : SeqAt.shaped (.bool b) = true := by simp [SeqAt.shaped, PyData.canLay0, PyData.depth]
theorem susp_seens {rs : List Row} {ss : List (List Str)} (h : WorldOk rs) (hl : ss.length ≤ 3) (hs : ∀ s ∈ ss, Susp rs s) : Seens ss where
  len := by omega
  sl := fun s hm => by have := (hs s hm).len h; omega
  ok := fun s hm => (hs s hm).strOk h
theorem mono_tWd {C : Addr} {rs : List Row} : Mono (tWd C rs) := fun v F F' e ⟨a, h1, h2⟩ => ⟨a, h1, h2.mono e⟩
noncomputable def isK (rs : List Row) (ss : List (List Str)) (l : List Ver) : Bool := !l.isEmpty && l.all (barB rs ss l)
theorem subs_sub (ks : List Ver) : ∀ x ∈ subs ks [[]], List.Sublist x ks := fun x h => by
  obtain ⟨a, ha, s, hs, rfl⟩ := (subs_mem ks [[]] x).mp h
  rw [List.mem_singleton.mp ha]; exact hs
theorem take_filt {α : Type} (p : α → Bool) {l : List α} {i : Nat} {a : α} (h : l[i]? = some a) : (l.take (i + 1)).filter p = (l.take i).filter p ++ (if p a = true then [a] else []) := by
  rw [List.take_add_one, h, List.filter_append]
  congr 1
  show List.filter p [a] = _
  rw [List.filter_cons]
  rfl
def scKnot : Scope := { kind := .function, names := [(".0", .local), ("_law_knot", .local), ("any", .globalImplicit), ("_law_some", .cell)], isGenerator := false, isCoroutine := false }
def scUse : Scope := { kind := .function, names := [(".0", .local), ("_law_use", .local), ("_law_some", .free)], isGenerator := false, isCoroutine := false }
section
variable {P : Program} {w : World} {K : PySem.W.Frag} {mg : Str → Option Value} {base : Heap} {C : Addr}
/-! law -/
abbrev sLw : Stmt := top 63
abbrev nLw : List Str := ["_law_script", "_law_draws", "_law_rows", "_law_built_here", "_law_suspicions", "_law_uses", "_law_known", "_law_knots", "_law_some", "_law_due", "_law_seen", "_law_use", "_law_knot"]
theorem scLw : FnScope nLw ["_law_script"] (defScope sLw) := ⟨rfl, rfl, rfl, by decide +kernel, rfl, by decide +kernel, by decide +kernel⟩
def spLw (K : PySem.W.Frag) : Sp := fun vs H Q _ => ∃ (F : Hp) (a : Addr) (ns : List Int), vs = [.ref a] ∧ Ex F H ∧ SqL K F a (ns.map .int) ∧ ∀ H', Q (.bl true) H'
/-- what the law calls -/
structure LwC (P : Program) (w : World) (K : PySem.W.Frag) (mg : Str → Option Value) (base : Heap) (C : Addr) : Prop where
  pool : Cal P w K mg base "_law_pool" 4 ["_law_script", "_law_bases"] (spPool K)
  rows : Cal P w K mg base "_law_drawn_rows" 2 ["_law_draws", "_law_most"] spRows
  built : Cal P w K mg base "_law_built" 7 ["_law_rows"] (spD (pBu C))
  seen : Cal P w K mg base "_law_drawn_seen" 2 ["_law_draws", "_law_rows"] spSeen
  need : Cal P w K mg base "_law_needed" 3 ["_law_rows", "_law_suspicions"] (spD pNeed)
  exp : Cal P w K mg base "_law_exposed" 2 ["_law_rows", "_law_seen"] (spD pExp)
  read : Cal P w K mg base "_law_is_read" 2 ["_law_rows", "_law_known", "_law_use", "_law_old"] (spD pRd)
  sets : Cal P w K mg base "_law_sets" 1 ["_law_items"] (spD pSt)
  left : Cal P w K mg base "_law_left" 4 ["_law_rows", "_law_suspicions", "_law_carried"] (spD pLf)
  kn : Cal P w K mg base "is_knot" 9 ["world", "suspicions", "uses"] (spD (pKn C))
  en : Cal P w K mg base "is_enough" 9 ["world", "suspicions", "uses"] (spD (pEn C))
theorem blk_knot : BlkOk nLw scKnot scUse [("_law_use", 11)] := blkOk_by (N := nLw) (sc := scKnot) (by decide +kernel)
theorem ok_lw (L : LwC P w K mg base C) (B : Bn mg) {f : Addr} {fd : FuncData} (Fn : Fun K "law" "law" sLw f fd) : FnOk P w K mg base CX0 10 f fd ["_law_script"] (spLw K) := by
  refine Fn.ok scLw (fun vs H Q E h => ?_) (fun cdv A outer s H vs Q E hr h => ⟨_, wSs_ok, ?_⟩)
  · obtain ⟨F, a, ns, rfl, _⟩ := h
    rfl
  obtain ⟨F, a, ns, rfl, s0, hS, kq⟩ := h
  have g0 := Grow.start s0
  -- the script, the draws
  refine ss_cons (s_setMn (i := 0) scLw.nd rfl (xm_slQ (l := a) (ns := ns) (x_var (i := 0) (T := tQ K a (ns.map .int)) rfl rfl ⟨rfl, hS⟩ mono_tQ)) g0 fun l0 vs0 ds0 F1 H1 g1 h0 hF1 hH1 hds hR => ?_)
  subst hR
  obtain rfl := hds.ints
  generalize cutL ns none (some 63) = ms at hH1 hds
  obtain ⟨gf, hd0⟩ := g1.freeze h0 hF1 hH1 hds
  refine ss_cons (s_setMn (i := 1) (RR := fun ds => ∃ ms : List Int, ds = ms.map .int ∧ ms.length ≤ 600 ∧ ∀ n ∈ ms, 0 ≤ n) scLw.nd rfl (xmn_cs L.pool hr (by decide) (xa_cons (T := tQ K l0 (ms.map .int)) mono_tQ (x_var (i := 0) rfl rfl ⟨rfl, SqL.of upd_same⟩ mono_tQ) (xa_cons mono_dt (xd_tup (ds := [.int 1000003, .int 999983]) (xa_cons mono_dt xd_int (xa_cons mono_dt xd_int xa_nil))) xa_nil)) fun vs F3 H3 g3 ht Q k => ?_) gf fun ld vsd dsd F2 H2 g2 h0d hF2 hH2 hdsd hR => ?_)
  · obtain ⟨v1, v2, rfl, ⟨rfl, hq⟩, h2⟩ := ht.two
    exact ⟨F3, l0, ms, v2, [1000003, 999983], rfl, g3.s, hq, h2, by decide, by decide, fun p ms2 F4 H4 g4 e1 e2 e3 e4 e5 => k p _ _ F4 H4 (g4.weak g3.a1) e1 e2 e3 (DsAll.of_ints ms2) ⟨ms2, rfl, e4, e5⟩⟩
  obtain ⟨ms2, rfl, hl2, hp2⟩ := hR
  obtain rfl := hdsd.ints
  have al : Alive (some ld) H2 := fun b e => by cases e; exact ⟨ms2, hH2, by omega, hp2⟩
  have gq : Grow (some ld) F2 H2 F2 H2 := Grow.refl g2.s al
  -- the rows
  refine ss_cons (s_set (i := 2) (T := fun v F => ∃ rs, Ds F v (rowsD rs) ∧ Valid 6 rs) scLw.nd rfl (xcs L.rows hr (by decide) (xa_cons (T := is (.ref ld)) mono_is (xvi 1) (xa_cons mono_dt xd_int xa_nil)) fun vs F4 H4 g4 ht Q k => ?_) gq (fun vr F3 H3 g3 hrs => ?_) (.inr rfl))
  · obtain ⟨v1, v2, rfl, rfl, h2⟩ := ht.two
    exact ⟨ld, F4, 6, by rw [ds_int h2]; rfl, g4.s, g4.nq hF2, g4.a1, by decide, by decide, fun v rs F5 H5 g5 h5 h6 => k v F5 H5 g5 ⟨rs, h5, h6⟩⟩
  obtain ⟨rs, hrs, hval⟩ := hrs
  have hW := hval.world (by decide)
  have hNm := hval.names (by decide)
  have gg3 := gq.trans g3
  have hF3 := g3.nq hF2
  -- the world, the suspicions
  refine ss_cons (s_par (i := 3) (j := 4) (T := tWd C rs) (U := fun v F => ∃ ss : List (List Str), Ds F v (.list (ss.map seenD)) ∧ ss ≠ [] ∧ ss.length ≤ 3 ∧ ∀ s ∈ ss, Susp rs s) rfl scLw.nd rfl rfl (by decide) rfl rfl gg3 mono_tWd (xc L.built hr (by decide) (xa_cons mono_dt (xv 2 hrs) xa_nil) ?_)
    (fun F4 H4 g4 => xcs L.seen hr (by decide) (xa_cons (T := is (.ref ld)) mono_is (xvi 1) (xa_cons mono_dt (xv 2 (hrs.mono g4.f)) xa_nil)) fun vs F6 H6 g6 ht Q k => ?_) (fun vb vS F5 H5 g5 hb hSs => ?_) rfl)
  · rintro vs F4 e ht
    obtain ⟨v1, rfl, h1⟩ := ht.one
    exact ⟨v1, rs, rfl, h1, hW, rfl⟩
  · obtain ⟨v1, v2, rfl, rfl, h2⟩ := ht.two
    exact ⟨ld, F6, v2, 6, rs, rfl, g6.s, g6.nq (g4.nq hF3), g6.a1, h2, hval, by decide, fun v' ss F7 H7 g7 a1 a2 a3 a4 => k v' F7 H7 g7 ⟨ss, a1, a2, a3, a4⟩⟩
  obtain ⟨b, rfl, hbW⟩ := hb
  obtain ⟨ss, hss, hsne, hsl, hsus⟩ := hSs
  have gg5 := gg3.trans g5
  have hrs5 := hrs.mono g5.f
  have hsg : 1 ≤ ss.length := List.length_pos_iff.mpr hsne
  have hSn := susp_seens hW hsl hsus
  have hof := need_of rs ss
  have hnd := need_nd ss hW.nd
  have hnl : (neededL rs ss).length ≤ 6 := Nat.le_trans (hof.len hnd) hval.len
  -- the needed uses, what is known
  refine ss_cons (s_par2 (i := 5) (j := 6) (T := dt (.list ((neededL rs ss).map pairD))) (U := dt (leaksD rs ss)) rfl scLw.nd rfl rfl (.inl rfl) (.inr rfl) gg5 mono_dt mono_dt (xc L.need hr (by decide) (xa_cons mono_dt (xv 2 hrs5) (xa_cons mono_dt (xv 4 hss) xa_nil)) ?_) (XD.eq (XM.xd (xm_lc (own := [("_law_seen", 10)]) (gx := gName 10) (asg := fun σ vs => σ.set 10 vs.head?) (esf := fun d => [d]) (ds := ss.map seenD) (gm := fun d => strsD (exposedL rs (dseen d)))
    ⟨rfl, scLw.nd, blkOk_by (N := nLw) (sc := defScope sLw) (by decide +kernel), fun _ _ _ _ _ => pg_name (i := 10) scLw.nd rfl (.inl rfl), fun _ => rfl⟩ (xi_lst (xv 4 hss)) (fun d _ => tgt_name) (by rw [List.length_map]; omega) (fun _ => rfl) (fun d vs F6 H6 hd g6 hvs => ?_))) ?_) (fun v5 v6 F6 H6 g6 h5 h6 => ?_))
  · rintro vs F6 e ht
    obtain ⟨v1, v2, rfl, a1, a2⟩ := ht.two
    exact ⟨v1, v2, rs, ss, rfl, a1, a2, hNm, hSn, rfl⟩
  · intro s' H0' C' cl fp
    obtain ⟨sn, hsn, rfl⟩ := List.mem_map.mp hd
    obtain ⟨x, rfl, hx⟩ := hvs.one
    rw [dseen_d]
    refine xc L.exp hr (by decide) (xa_cons mono_dt (xv 2 (hrs5.mono g6.f)) (xa_cons mono_dt (xv 10 hx) xa_nil)) (T := dt (strsD (exposedL rs sn))) ?_
    rintro vs F7 e ht
    obtain ⟨v1, v2, rfl, a1, a2⟩ := ht.two
    exact ⟨v1, v2, rs, sn, rfl, a1, a2, hNm, hSn.sl sn hsn, hSn.ok sn hsn, rfl⟩
  · unfold leaksD
    rw [List.map_map]
    refine congrArg PyData.list (List.map_congr_left fun s _ => ?_)
    show strsD (exposedL rs (dseen (seenD s))) = _
    rw [dseen_d]
  have gg6 := gg5.trans g6
  refine ss_cons (s_set (i := 7) (T := dt (lsD [])) scLw.nd rfl (XM.xd (xm_lst (ds := []) xa_nil)) gg6 fun v7 F7 H7 g7 h7 => ?_)
  have gg7 := gg6.trans g7
  have e57 := g6.f.trans g7.f
  have hrs7 := hrs5.mono e57
  have hss7 := hss.mono e57
  have hbW7 := hbW.mono e57
  have h57 : Ds F7 v5 (.list ((neededL rs ss).map pairD)) := Ds.mono g7.f h5
  have h67 : Ds F7 v6 (leaksD rs ss) := Ds.mono g7.f h6
  have hSl : (subs (neededL rs ss) [[]]).length ≤ 64 := by
    rw [subs_len]
    have : 2 ^ (neededL rs ss).length ≤ 2 ^ 6 := Nat.pow_le_pow_right (by decide) hnl
    simpa using this
  have hSs := subs_sub (neededL rs ss)
  have hhit : ∀ l, List.Sublist l (neededL rs ss) → (gk rs ss ((neededL rs ss).filter fun k => !decide (k ∈ l))).isEmpty = ((subs (neededL rs ss) [[]]).filter (isK rs ss)).all fun K => K.any fun k => decide (k ∈ l) := fun l hl => enough_hit hnd hl
  have nsh : ∀ l, List.Sublist l (neededL rs ss) → SeqAt.shaped (.list (l.map pairD)) = true := fun l hl => ks_shaped hW (hof.sub fun k hk => hl.subset hk)
  generalize hSd : subs (neededL rs ss) [[]] = S at hSl hSs hhit
  -- the knots
  refine ss_cons (s_for (asg := fun σ vs => σ.set 8 vs.head?) (gx := gName 8) (esf := fun d => [d]) rfl PassesOwn.never (xi_lst (ds := S.map fun l => .list (l.map pairD)) (xc L.sets hr (by decide) (xa_cons mono_dt (xv 5 h57) xa_nil) ?_)) (pg_name (i := 8) scLw.nd rfl (.inr rfl)) (fun d _ => tgt_name) gg7
    (fun i σ F' H' => ∃ (v7 : V) (t8 t9 : Option V), σ = [some (.ref l0), some (.ref ld), some vr, some (.ref b), some vS, some v5, some v6, some v7, t8, t9, none, none, none] ∧ Ds F' v7 (lsD ((S.take i).filter (isK rs ss)))) ?_ ⟨v7, _, _, rfl, h7⟩ ?_ ?_)
  · rintro vs F8 e ht
    obtain ⟨v1, rfl, a1⟩ := ht.one
    exact ⟨v1, neededL rs ss, rfl, a1, by omega, by rw [hSd]; rfl⟩
  · rintro i σ' F' H' F'' H'' ⟨v7, t8, t9, rfl, h1⟩ g
    exact ⟨v7, t8, t9, rfl, h1.mono g.f⟩
  · rintro i d vs σ' F8 H8 hdi e8 gg8 ⟨v7, t8, t9, rfl, hk7⟩ hvs
    rw [List.getElem?_map] at hdi
    obtain ⟨l, hli, rfl⟩ := Option.map_eq_some_iff.mp hdi
    obtain ⟨x, rfl, hx⟩ := hvs.one
    have hl := hSs l (List.mem_of_getElem? hli)
    have hlof : Of rs l := hof.sub fun k hk => hl.subset hk
    have hll : l.length ≤ 6 := Nat.le_trans hl.length_le hnl
    have hstep := take_filt (isK rs ss) hli
    refine ss_cons (s_if (u := !l.isEmpty) (XT.eq (xt_cmp (c_ne hr.units (xv 8 hx) (XM.xd (xm_lst (ds := []) xa_nil)) (nsh l hl) (by decide))) (by rw [eqv_lnil, List.isEmpty_map])) gg8 (fun hb F9 H9 g9 => ?_) (fun hb F9 H9 g9 => ?_))
    · have gg9 := gg8.trans g9
      have hlne : l ≠ [] := by rintro rfl; cases hb
      have e79 := e8.trans g9.f
      have hx9 := hx.mono g9.f
      refine ss_cons (s_set (i := 9) (T := dt (.bool (l.all (barB rs ss l)))) scLw.nd rfl (XD.eq (xd_all (bs := l.map (barB rs ss l)) rfl B (XM.xd (xm_lc (own := [("_law_use", 11)]) (gx := gName 11) (asg := fun σ vs => σ.set 11 vs.head?) (esf := fun d => [d]) (ds := l.map pairD) (gm := fun d => .bool (barB rs ss l (dver d)))
        ⟨rfl, scLw.nd, blkOk_by (N := nLw) (sc := defScope sLw) (by decide +kernel), fun _ _ _ _ _ => pg_name (i := 11) scLw.nd rfl (.inl rfl), fun _ => rfl⟩ (xi_lst (xv 8 hx9)) (fun d _ => tgt_name) (by rw [List.length_map]; omega) (fun _ => rfl) (fun d vs F10 H10 hd' g10 hvs => ?_))) ?_) ?_) gg9 fun v9 F10 H10 g10 h9 => ?_)
      · intro s' H0' C' cl fp
        obtain ⟨k, hk, rfl⟩ := List.mem_map.mp hd'
        obtain ⟨y, rfl, hy⟩ := hvs.one
        refine xc L.read hr (by decide) (xa_cons mono_dt (xv 2 (hrs7.mono (e79.trans g10.f))) (xa_cons mono_dt (xv 6 (h67.mono (e79.trans g10.f))) (xa_cons mono_dt (xv 11 hy) (xa_cons mono_dt (xv 8 (hx9.mono g10.f)) xa_nil)))) (T := dt (.bool (barB rs ss l k))) ?_
        rintro vs F11 e ht
        obtain ⟨w1, w2, w3, w4, rfl, a1, a2, a3, a4⟩ := ht.four
        exact ⟨w1, w2, w3, w4, rs, ss, k, l, rfl, a1, hW, a2, a3, hlof k hk, a4, hlof, rfl⟩
      · rw [List.map_map, List.map_map]; rfl
      · rw [List.all_map]; rfl
      have gg10 := gg9.trans g10
      have e710 := e79.trans g10.f
      have hx10 := hx9.mono g10.f
      have hk10 : Ds F10 v7 (.list (((S.take i).filter (isK rs ss)).map fun l => .list (l.map pairD))) := hk7.mono (g9.f.trans g10.f)
      cases h9
      have hkl : ((S.take i).filter (isK rs ss)).length ≤ 64 := Nat.le_trans (List.length_filter_le _ _) (by rw [List.length_take]; omega)
      have hisk : isK rs ss l = l.all (barB rs ss l) := by
        unfold isK
        rw [hb, Bool.true_and]
      refine ss_cons (s_set (i := 7) (T := dt (lsD ((S.take (i + 1)).filter (isK rs ss)))) scLw.nd rfl (XD.eq (XM.xd (xm_cat (es' := if l.all (barB rs ss l) = true then [.list (l.map pairD)] else []) (xv 7 hk10) (XD.eq (xd_ifexp (u := l.all (barB rs ss l)) (d1 := .list [.list (l.map pairD)]) (d2 := .list []) (xt_val (xv 9 (.bl _))) (fun _ => XM.xd (xm_lst (ds := [.list (l.map pairD)]) (xa_cons mono_dt (xv 8 hx10) xa_nil))) (fun _ => XM.xd (xm_lst (ds := []) xa_nil))) ?_) ?_)) ?_) gg10 fun v7' F11 H11 g11 h7' => ?_)
      · by_cases q : l.all (barB rs ss l) = true
        · rw [if_pos q, if_pos q]
        · rw [if_neg q, if_neg q]
      · rw [List.length_map]
        by_cases q : l.all (barB rs ss l) = true
        · rw [if_pos q]; simp; omega
        · rw [if_neg q]; simp; omega
      · rw [hstep, hisk]
        unfold lsD
        rw [List.map_append]
        by_cases q : l.all (barB rs ss l) = true
        · rw [if_pos q, if_pos q]; rfl
        · rw [if_neg q, if_neg q]; rfl
      have gg11 := gg10.trans g11
      have bsh := shaped_bool (l.all (barB rs ss l))
      refine ss_cons (s_skip (xt_cmp (XCm.eq (c_ne hr.units (xc L.kn hr (by decide) (xa_cons (T := is (.ref b)) mono_is (xvi 3) (xa_cons mono_dt (xv 4 (hss7.mono (e710.trans g11.f))) (xa_cons mono_dt (xv 8 (hx10.mono g11.f)) xa_nil))) (T := dt (.bool (l.all (barB rs ss l)))) ?_) (xv 9 (.bl _)) bsh bsh) (ne_self bsh))) gg11 fun F12 H12 g12 => ss_nil (ss_nil ⟨F12, g9.f.trans (g10.f.trans (g11.f.trans g12.f)), gg11.trans g12, v7', _, _, rfl, Ds.mono g12.f h7'⟩))
      rintro vs F12 e ht
      obtain ⟨w1, w2, w3, rfl, rfl, a2, a3⟩ := ht.three
      exact ⟨b, rs, w2, w3, _, _, ss, l, rfl, hbW7.mono ((e710.trans g11.f).trans e), a2, .inl rfl, hsus, hsg, hsl, a3, .inl rfl, hl, hlne, rfl⟩
    · refine ss_nil (ss_nil ⟨F9, g9.f, gg8.trans g9, v7, _, _, rfl, ?_⟩)
      have : isK rs ss l = false := by unfold isK; rw [hb]; rfl
      rw [hstep, if_neg (by rw [this]; simp), List.append_nil]
      exact hk7.mono g9.f
  rintro σ' F8 H8 e8 gg8 ⟨v7, t8, t9, rfl, hk7⟩
  rw [List.length_map, List.take_length] at hk7
  have hkl : (S.filter (isK rs ss)).length ≤ 64 := Nat.le_trans (List.length_filter_le _ _) hSl
  have hKs : ∀ Kn ∈ S.filter (isK rs ss), List.Sublist Kn (neededL rs ss) := fun Kn h => hSs Kn (List.mem_filter.mp h).1
  generalize hKd : S.filter (isK rs ss) = KN at hk7 hkl hKs hhit
  -- enough
  refine ss_cons (s_for (asg := fun σ vs => σ.set 8 vs.head?) (gx := gName 8) (esf := fun d => [d]) rfl PassesOwn.never (xi_lst (ds := S.map fun l => .list (l.map pairD)) (xc L.sets hr (by decide) (xa_cons mono_dt (xv 5 (h57.mono e8)) xa_nil) ?_)) (pg_name (i := 8) scLw.nd rfl (.inr rfl)) (fun d _ => tgt_name) gg8
    (fun i σ F' H' => ∃ (t8 t9 : Option V), σ = [some (.ref l0), some (.ref ld), some vr, some (.ref b), some vS, some v5, some v6, some v7, t8, t9, none, none, none]) ?_ ⟨_, _, rfl⟩ ?_ ?_)
  · rintro vs F9 e ht
    obtain ⟨v1, rfl, a1⟩ := ht.one
    exact ⟨v1, neededL rs ss, rfl, a1, by omega, by rw [hSd]; rfl⟩
  · rintro i σ' F' H' F'' H'' h g
    exact h
  · rintro i d vs σ' F9 H9 hdi e9 gg9 ⟨t8, t9, rfl⟩ hvs
    rw [List.getElem?_map] at hdi
    obtain ⟨l, hli, rfl⟩ := Option.map_eq_some_iff.mp hdi
    obtain ⟨x, rfl, hx⟩ := hvs.one
    have hl := hSs l (List.mem_of_getElem? hli)
    have hlof : Of rs l := hof.sub fun k hk => hl.subset hk
    have hll : l.length ≤ 6 := Nat.le_trans hl.length_le hnl
    have e79 := e8.trans e9
    have hgsub : List.Sublist (gk rs ss ((neededL rs ss).filter fun k => !decide (k ∈ l))) (neededL rs ss) := (gk_sub rs ss _).trans List.filter_sublist
    have heq := hhit l hl
    refine ss_cons (s_set (i := 9) (T := dt (.bool (gk rs ss ((neededL rs ss).filter fun k => !decide (k ∈ l))).isEmpty)) scLw.nd rfl (XD.eq (xd_cmp (c_eq hr.units (xc L.left hr (by decide) (xa_cons mono_dt (xv 2 (hrs7.mono e79)) (xa_cons mono_dt (xv 4 (hss7.mono e79)) (xa_cons mono_dt (xv 8 hx) xa_nil))) (T := dt (.list ((gk rs ss ((neededL rs ss).filter fun k => !decide (k ∈ l))).map pairD))) ?_) (XM.xd (xm_lst (ds := []) xa_nil)) (nsh _ hgsub) (by decide))) (by rw [eqv_lnil, List.isEmpty_map])) gg9 fun v9 F10 H10 g10 h9 => ?_)
    · rintro vs F10 e ht
      obtain ⟨w1, w2, w3, rfl, a1, a2, a3⟩ := ht.three
      exact ⟨w1, w2, w3, rs, ss, l, rfl, a1, hW, hNm, a2, hSn, a3, hlof, rfl⟩
    have gg10 := gg9.trans g10
    have e710 := e79.trans g10.f
    have hx10 := hx.mono g10.f
    cases h9
    generalize hG : (gk rs ss ((neededL rs ss).filter fun k => !decide (k ∈ l))).isEmpty = G at heq
    have bsh := shaped_bool G
    refine ss_cons (s_skip (xt_cmp (XCm.eq (c_ne hr.units (xc L.en hr (by decide) (xa_cons (T := is (.ref b)) mono_is (xvi 3) (xa_cons mono_dt (xd_tupleL B (xv 4 (hss7.mono e710))) (xa_cons mono_dt (xd_tupleL B (xv 8 hx10)) xa_nil))) (T := dt (.bool G)) ?_) (xv 9 (.bl _)) bsh bsh) (ne_self bsh))) gg10 fun F11 H11 g11 => ?_)
    · rintro vs F12 e ht
      obtain ⟨w1, w2, w3, rfl, rfl, a2, a3⟩ := ht.three
      exact ⟨b, rs, w2, w3, _, _, ss, l, rfl, hbW7.mono (e710.trans e), a2, .inr rfl, hsus, hsg, hsl, a3, .inr rfl, hl, by rw [hG]⟩
    have gg11 := gg10.trans g11
    have hx11 : Ds F11 x (.list (l.map pairD)) := hx10.mono g11.f
    have hk11 : Ds F11 v7 (.list (KN.map fun l => .list (l.map pairD))) := hk7.mono (e9.trans (g10.f.trans g11.f))
    refine ss_cons (s_skip (xt_cmp (XCm.eq (c_ne (d1 := .bool G) hr.units (XD.eq (xd_all (bs := KN.map fun K => K.any fun k => decide (k ∈ l)) rfl B (XM.xd (xm_lc (own := [("_law_knot", 12)]) (gx := gName 12) (asg := fun σ vs => σ.set 12 vs.head?) (esf := fun d => [d]) (ds := KN.map fun l => .list (l.map pairD)) (gm := fun d => .bool ((dvers d).any fun k => decide (k ∈ l)))
      ⟨rfl, scLw.nd, blkOk_by (N := nLw) (sc := defScope sLw) (by decide +kernel), fun _ _ _ _ _ => pg_name (i := 12) scLw.nd rfl (.inl rfl), fun _ => rfl⟩ (xi_lst (xv 7 hk11)) (fun d _ => tgt_name) (by rw [List.length_map]; omega) (fun _ => rfl) (fun d vs F12 H12 hd' g12 hvs => ?_))) ?_) ?_) (xv 9 (.bl _)) bsh bsh) (ne_self bsh))) gg11 fun F12 H12 g12 => ss_nil ⟨F12, g10.f.trans (g11.f.trans g12.f), gg11.trans g12, _, _, rfl⟩)
    · intro s' H0' C' cl fp
      obtain ⟨Kn, hKn, rfl⟩ := List.mem_map.mp hd'
      obtain ⟨y, rfl, hy⟩ := hvs.one
      have hKl := hKs Kn hKn
      have hKll : Kn.length ≤ 6 := Nat.le_trans hKl.length_le hnl
      rw [dvers_d]
      refine XD.eq (xd_any (bs := Kn.map fun k => decide (k ∈ l)) rfl B (XM.xd (xm_lc (own := [("_law_use", 11)]) (gx := gName 11) (asg := fun σ vs => σ.set 11 vs.head?) (esf := fun d => [d]) (ds := Kn.map pairD) (gm := fun d => .bool (decide (dver d ∈ l)))
        ⟨rfl, scLw.nd, blk_knot, fun _ _ _ _ _ => pg_name (i := 11) scLw.nd rfl (.inl rfl), fun _ => rfl⟩ (xi_lst (xv 12 hy)) (fun d _ => tgt_name) (by rw [List.length_map]; omega) (fun _ => rfl) (fun d vs F13 H13 hd'' g13 hvs => ?_))) ?_) ?_
      · intro s'' H0'' C'' cl' fp'
        obtain ⟨k, hk, rfl⟩ := List.mem_map.mp hd''
        obtain ⟨z, rfl, hz⟩ := hvs.one
        exact XD.eq (xd_cmp (c_inD hr.u65 (xv 11 hz) (xv 8 (hx11.mono (g12.f.trans g13.f))) (key_shaped hW (hof k (hKl.subset hk))) (nsh l hl))) (congrArg PyData.bool (any_pair l k))
      · rw [List.map_map, List.map_map]; rfl
      · rw [List.any_map]; rfl
    · rw [map_map' (fun l : List Ver => PyData.list (l.map pairD)) dvers dvers_d (fun K => PyData.bool (K.any fun k => decide (k ∈ l))), List.map_map]; rfl
    · rw [heq, List.all_map]; rfl
  · rintro σ' F9 H9 e9 gg9 ⟨t8, t9, rfl⟩
    exact ss_cons (s_ret (T := dt (.bool true)) xd_bl gg9 fun v' F10 H10 g10 h10 => by cases h10; exact kq H10)
end
end K01
end
section
set_option Elab.async false
set_option linter.all false
set_option maxRecDepth 100000
set_option maxHeartbeats 0
namespace K01
open PySem PySem.W PySem.Calls PyProof.Rows L2
def hFa0 : List He.Fa := [.free "len", .free "list", .free "tuple", .free "dict", .free "set", .free "all", .free "any", .free "sum", .free "abs", .free "range", .free "enumerate", .free "isinstance", .free "int", .free "str", .free "bool", .str "LETTERS" letters, .int "LONGEST_NAME" 8, .int "MOST_USES" 12, .int "MOST_SECRETS" 6, .int "LONGEST_CHANNEL" 3]
def hFa1 : List He.Fa := [.int "LEAST_COST" 1, .int "MOST_COST" 9, .int "MOST_SUSPICIONS" 3, .glo "World", .noat "World" "_uses", .noat "World" "_channels", .noat "World" "_costs", .noat "World" "_services", .noat "World" "_secrets", .glo "is_name", .glo "_is_pair", .glo "_is_pair_of_names", .glo "_is_channel", .glo "_is_cost", .glo "_fits", .glo "_check_rows", .glo "_once_each", .glo "check_world", .glo "_is_suspicion", .glo "check_suspicion"]
def hFa2 : List He.Fa := [.glo "check_suspicions", .glo "is_choice", .glo "can_read", .glo "past_messages", .glo "known_versions", .glo "exposed", .glo "needed", .glo "all_leaks", .glo "is_barred", .glo "unread_sends", .glo "greatest_knot", .glo "_is_tied", .glo "is_enough", .glo "is_knot", .glo "_law_draw", .glo "_law_cell_at", .glo "_law_digits", .glo "_law_take", .glo "_law_pool", .glo "_law_drawn_rows"]
def hFa3 : List He.Fa := [.glo "_law_secrets", .glo "_law_drawn_seen", .glo "_law_exposed", .glo "_law_needed", .glo "_law_built", .glo "_law_channel", .glo "_law_left", .glo "_law_is_read", .glo "_law_sets", .mkr "World", .meth "World" "has_use", .meth "World" "has_secret", .meth "World" "channel", .glo "law"]
def hFa : List He.Fa := hFa0 ++ hFa1 ++ hFa2 ++ hFa3
def hFn0 : List He.DefD := [HK.dF ("is_name", none) "is_name" "is_name" (top 15), HK.dF ("_is_pair", none) "_is_pair" "_is_pair" (top 16), HK.dF ("_is_pair_of_names", none) "_is_pair_of_names" "_is_pair_of_names" (top 17), HK.dF ("_is_channel", none) "_is_channel" "_is_channel" (top 18), HK.dF ("_is_cost", none) "_is_cost" "_is_cost" (top 19), HK.dF ("_fits", none) "_fits" "_fits" (top 20), HK.dF ("_check_rows", none) "_check_rows" "_check_rows" (top 21), HK.dF ("_once_each", none) "_once_each" "_once_each" (top 22), HK.dF ("check_world", none) "check_world" "check_world" (top 26), HK.dF ("_is_suspicion", none) "_is_suspicion" "_is_suspicion" (top 27), HK.dF ("check_suspicion", none) "check_suspicion" "check_suspicion" (top 28), HK.dF ("check_suspicions", none) "check_suspicions" "check_suspicions" (top 29), HK.dF ("is_choice", none) "is_choice" "is_choice" (top 30), HK.dF ("can_read", none) "can_read" "can_read" (top 32), HK.dF ("past_messages", none) "past_messages" "past_messages" (top 33), HK.dF ("known_versions", none) "known_versions" "known_versions" (top 34), HK.dF ("exposed", none) "exposed" "exposed" (top 36), HK.dF ("needed", none) "needed" "needed" (top 37), HK.dF ("all_leaks", none) "all_leaks" "all_leaks" (top 39), HK.dF ("is_barred", none) "is_barred" "is_barred" (top 40)]
def hFn1 : List He.DefD := [HK.dF ("unread_sends", none) "unread_sends" "unread_sends" (top 41), HK.dF ("greatest_knot", none) "greatest_knot" "greatest_knot" (top 42), HK.dF ("_is_tied", none) "_is_tied" "_is_tied" (top 44), HK.dF ("is_enough", none) "is_enough" "is_enough" (top 45), HK.dF ("is_knot", none) "is_knot" "is_knot" (top 46), HK.dF ("_law_draw", none) "_law_draw" "_law_draw" (top 48), HK.dF ("_law_cell_at", none) "_law_cell_at" "_law_cell_at" (top 49), HK.dF ("_law_digits", none) "_law_digits" "_law_digits" (top 50), HK.dF ("_law_take", none) "_law_take" "_law_take" (top 51), HK.dF ("_law_pool", none) "_law_pool" "_law_pool" (top 52), HK.dF ("_law_drawn_rows", none) "_law_drawn_rows" "_law_drawn_rows" (top 53), HK.dF ("_law_secrets", none) "_law_secrets" "_law_secrets" (top 54), HK.dF ("_law_drawn_seen", none) "_law_drawn_seen" "_law_drawn_seen" (top 55), HK.dF ("_law_exposed", none) "_law_exposed" "_law_exposed" (top 56), HK.dF ("_law_needed", none) "_law_needed" "_law_needed" (top 57), HK.dF ("_law_built", none) "_law_built" "_law_built" (top 58), HK.dF ("_law_channel", none) "_law_channel" "_law_channel" (top 59), HK.dF ("_law_left", none) "_law_left" "_law_left" (top 60), HK.dF ("_law_is_read", none) "_law_is_read" "_law_is_read" (top 61), HK.dF ("_law_sets", none) "_law_sets" "_law_sets" (top 62)]
def hFn2 : List He.DefD := [HK.dF ("World", some "__init__") "__init__" "World.__init__" (inClass (top 23) 0), HK.dF ("World", some "has_use") "has_use" "World.has_use" (inClass (top 23) 5), HK.dF ("World", some "has_secret") "has_secret" "World.has_secret" (inClass (top 23) 6), HK.dF ("World", some "channel") "channel" "World.channel" (inClass (top 23) 7), HK.dF ("law", none) "law" "law" (top 63)]
def hFn : List He.DefD := hFn0 ++ hFn1 ++ hFn2
def hTs : List He.Tab := []
def hTf : List He.Defn := []
def hPr0 : List HK.PrD := [⟨"World", "secrets", "World.secrets", inClass (top 23) 3⟩, ⟨"World", "uses", "World.uses", inClass (top 23) 4⟩]
def hPr : List HK.PrD := hPr0
def hEx (K : PySem.W.Frag) : Bool := HK.clsB K "World" && decide (PySem.W.kitOne K (.ref (He.ga K "World")) (.ref (He.ga K "World")) = some true)
def hNames0 : List PySem.Str := ["_wall", "RotateError", "BadWorld", "BadSuspicion", "BadUse", "BadKnot", "LETTERS", "LONGEST_NAME", "MOST_USES", "MOST_SECRETS", "LONGEST_CHANNEL", "LEAST_COST", "MOST_COST", "is_name", "_is_pair", "_is_pair_of_names", "_is_channel", "_is_cost", "_fits", "_check_rows"]
def hNames1 : List PySem.Str := ["_once_each", "World", "MOST_SUSPICIONS", "check_world", "_is_suspicion", "check_suspicion", "check_suspicions", "is_choice", "can_read", "past_messages", "known_versions", "exposed", "needed", "all_leaks", "is_barred", "unread_sends", "greatest_knot", "_is_tied", "is_enough", "is_knot"]
def hNames2 : List PySem.Str := ["_law_draw", "_law_cell_at", "_law_digits", "_law_take", "_law_pool", "_law_drawn_rows", "_law_secrets", "_law_drawn_seen", "_law_exposed", "_law_needed", "_law_built", "_law_channel", "_law_left", "_law_is_read", "_law_sets"]
def hNames : List PySem.Str := hNames0 ++ hNames1 ++ hNames2
abbrev hR : PySem.W.OpenRow := PySem.W.OpenLaw.row PySem.Challenge.rw_rotatesafe_k03_whole_knots
abbrev hHk : PySem.W.Hook := HK.hookP hFa hFn hTs hTf hPr hEx
def hOb (s : PySem.W.SharedT) : HK.AlP := HK.obsP hFa hFn hTs hTf hPr hEx (HandSHeadRun.getT s)
theorem hOb_eq (s : PySem.W.SharedT) : hOb s = hHk.obs s.abs := HK.obsP_eq (HandSHeadRun.getT_eq s)
open HandSHeadRun
abbrev hQ : Program := view hR.prog [63]
theorem runA_false (w : World) (os : OsState) : (endF (stepQ (denQ tabQ) hR.prog (w.withFollow "special-get-raises" false)) 6000 hR.prog (w.withFollow "special-get-raises" false) os).map (fun s => (looksF hR.prog (boot_heap (World.params (w.withFollow "special-get-raises" false))) s.abs, seenQ hQ hNames (importedModules hR.prog.main.body) (fun s => xlAt hQ [] s && recOk hR.toRowW.records s) s.abs)) = some (true, openGood hQ hNames) := by
  kernel_rfl
theorem runB_false (w : World) (os : OsState) : (endF (stepQ (denQ tabQ) hR.prog (w.withFollow "special-get-raises" false)) 6000 hR.prog (w.withFollow "special-get-raises" false) os).map hOb = some (hHk.val (w.withFollow "special-get-raises" false)) := by
  kernel_rfl
theorem runA_true (w : World) (os : OsState) : (endF (stepQ (denQ tabQ) hR.prog (w.withFollow "special-get-raises" true)) 6000 hR.prog (w.withFollow "special-get-raises" true) os).map (fun s => (looksF hR.prog (boot_heap (World.params (w.withFollow "special-get-raises" true))) s.abs, seenQ hQ hNames (importedModules hR.prog.main.body) (fun s => xlAt hQ [] s && recOk hR.toRowW.records s) s.abs)) = some (true, openGood hQ hNames) := by
  kernel_rfl
theorem runB_true (w : World) (os : OsState) : (endF (stepQ (denQ tabQ) hR.prog (w.withFollow "special-get-raises" true)) 6000 hR.prog (w.withFollow "special-get-raises" true) os).map hOb = some (hHk.val (w.withFollow "special-get-raises" true)) := by
  kernel_rfl
theorem run (w : World) : RunEq hR hQ hHk hOb 6000 hNames w :=
  byRow2 "special-get-raises" (P := RunEq hR hQ hHk hOb 6000 hNames) (fun w os => HK.map3 (runA_false w os) (runB_false w os)) (fun w os => HK.map3 (runA_true w os) (runB_true w os)) w
end K01
end
set_option Elab.async false
set_option linter.all false
set_option maxRecDepth 100000
set_option maxHeartbeats 0
namespace K01
open PySem L2 Evl R
theorem start_lw {K : PySem.W.Frag} {H : Hp} {a : PySem.Addr} {ns : List Int} {Q : VK} {E : XK} (hS : SqL K H a (ns.map V.int)) (q : ∀ H', Q (.bl true) H') : spLw K [.ref a] H Q E := by
  rcases hS with hS | hS
  · refine ⟨fun b => if b = a then H a else none, a, ns, rfl, fun b o (e : (if b = a then H a else none) = some o) => ?_, .inl ?_, q⟩
    · by_cases z : b = a
      · subst z; rw [if_pos rfl] at e; exact e
      · rw [if_neg z] at e; cases e
    · rcases hS with z | ⟨o, z⟩
      · exact .inl ((if_pos rfl).trans z)
      · exact .inr ⟨o, (if_pos rfl).trans z⟩
  · exact ⟨fun _ => none, a, ns, rfl, fun b o e => (by cases e), .inr hS, q⟩
theorem law_all {P : Program} {w : World} {K : PySem.W.Frag} {h : Heap} {mg : Str → Option Value} {f : PySem.Addr} (X : K.In h) (G : h.Ns mainGlobals mg) (hfa : mg ("law" : Str) = some (.ref f)) (c : HK.SaysP hFa hFn hTs hTf hPr hEx w h K) :
    ∃ fd : FuncData, (∀ (s : Shared) (u : Value), BindsTo s fd ⟨[u], []⟩ [("_law_script", u)]) ∧ ∀ base : Heap, FnOk P w K mg base CX0 10 f fd ["_law_script"] (spLw K) := by
  have B : Bn mg := ⟨He.free_ok X G (c.fact 0 (f := .free "len")), He.free_ok X G (c.fact 1 (f := .free "list")), He.free_ok X G (c.fact 2 (f := .free "tuple")), He.free_ok X G (c.fact 3 (f := .free "dict")), He.free_ok X G (c.fact 4 (f := .free "set")), He.free_ok X G (c.fact 5 (f := .free "all")), He.free_ok X G (c.fact 6 (f := .free "any")), He.free_ok X G (c.fact 7 (f := .free "sum")), He.free_ok X G (c.fact 8 (f := .free "abs")), He.free_ok X G (c.fact 9 (f := .free "range")), He.free_ok X G (c.fact 10 (f := .free "enumerate")), He.free_ok X G (c.fact 11 (f := .free "isinstance")), He.free_ok X G (c.fact 12 (f := .free "int")), He.free_ok X G (c.fact 13 (f := .free "str")), He.free_ok X G (c.fact 14 (f := .free "bool"))⟩
  have C1 : Cst mg := ⟨He.str_ok X G (c.fact 15 (f := .str "LETTERS" letters)), He.int_ok X G (c.fact 16 (f := .int "LONGEST_NAME" 8)), He.int_ok X G (c.fact 17 (f := .int "MOST_USES" 12)), He.int_ok X G (c.fact 18 (f := .int "MOST_SECRETS" 6)), He.int_ok X G (c.fact 19 (f := .int "LONGEST_CHANNEL" 3)), He.int_ok X G (c.fact 20 (f := .int "LEAST_COST" 1)), He.int_ok X G (c.fact 21 (f := .int "MOST_COST" 9)), He.int_ok X G (c.fact 22 (f := .int "MOST_SUSPICIONS" 3))⟩
  have hex := c.more
  have hcb := (HK.ba2 hex).1
  have hko : PySem.W.kitOne K (.ref (He.ga K "World")) (.ref (He.ga K "World")) = some true := of_decide_eq_true (HK.ba2 hex).2
  have hC : mg "World" = some (.ref (He.ga K "World")) := (He.glo_ok X G (c.fact 23 (f := .glo "World")))
  obtain ⟨k1, k2, k3, k4, k5⟩ := HK.clsB_ok hcb
  have W : WC K (He.ga K "World") := ⟨k1, He.noat_ok (c.fact 24 (f := .noat "World" "_uses")), He.noat_ok (c.fact 25 (f := .noat "World" "_channels")), He.noat_ok (c.fact 26 (f := .noat "World" "_costs")), He.noat_ok (c.fact 27 (f := .noat "World" "_services")), He.noat_ok (c.fact 28 (f := .noat "World" "_secrets"))⟩
  have I : WIs K mg (He.ga K "World") := ⟨k1, hC, k2, k3, k4, k5, hko⟩
  have d_p_is_name : Dfn K mg "is_name" (top 15) ["value"] := by
    obtain ⟨fd, F⟩ := (c.def_ 0 (at_ := ("is_name", none)) (x := "is_name") (qual := "is_name") (st := top 15))
    exact ⟨_, fd, F, (He.glo_ok X G (c.fact 29 (f := .glo "is_name"))), (F.binds fun _ _ _ _ _ _ us hl => match us, hl with | [_], _ => rfl)⟩
  have d_p__is_pair : Dfn K mg "_is_pair" (top 16) ["value"] := by
    obtain ⟨fd, F⟩ := (c.def_ 1 (at_ := ("_is_pair", none)) (x := "_is_pair") (qual := "_is_pair") (st := top 16))
    exact ⟨_, fd, F, (He.glo_ok X G (c.fact 30 (f := .glo "_is_pair"))), (F.binds fun _ _ _ _ _ _ us hl => match us, hl with | [_], _ => rfl)⟩
  have d_p__is_pair_of_names : Dfn K mg "_is_pair_of_names" (top 17) ["value"] := by
    obtain ⟨fd, F⟩ := (c.def_ 2 (at_ := ("_is_pair_of_names", none)) (x := "_is_pair_of_names") (qual := "_is_pair_of_names") (st := top 17))
    exact ⟨_, fd, F, (He.glo_ok X G (c.fact 31 (f := .glo "_is_pair_of_names"))), (F.binds fun _ _ _ _ _ _ us hl => match us, hl with | [_], _ => rfl)⟩
  have d_p__is_channel : Dfn K mg "_is_channel" (top 18) ["use", "channel", "uses"] := by
    obtain ⟨fd, F⟩ := (c.def_ 3 (at_ := ("_is_channel", none)) (x := "_is_channel") (qual := "_is_channel") (st := top 18))
    exact ⟨_, fd, F, (He.glo_ok X G (c.fact 32 (f := .glo "_is_channel"))), (F.binds fun _ _ _ _ _ _ us hl => match us, hl with | [_, _, _], _ => rfl)⟩
  have d_p__is_cost : Dfn K mg "_is_cost" (top 19) ["value"] := by
    obtain ⟨fd, F⟩ := (c.def_ 4 (at_ := ("_is_cost", none)) (x := "_is_cost") (qual := "_is_cost") (st := top 19))
    exact ⟨_, fd, F, (He.glo_ok X G (c.fact 33 (f := .glo "_is_cost"))), (F.binds fun _ _ _ _ _ _ us hl => match us, hl with | [_], _ => rfl)⟩
  have d_p__fits : Dfn K mg "_fits" (top 20) ["use", "value", "uses"] := by
    obtain ⟨fd, F⟩ := (c.def_ 5 (at_ := ("_fits", none)) (x := "_fits") (qual := "_fits") (st := top 20))
    exact ⟨_, fd, F, (He.glo_ok X G (c.fact 34 (f := .glo "_fits"))), (F.binds fun _ _ _ _ _ _ us hl => match us, hl with | [_, _, _], _ => rfl)⟩
  have d_p__check_rows : Dfn K mg "_check_rows" (top 21) ["rows"] := by
    obtain ⟨fd, F⟩ := (c.def_ 6 (at_ := ("_check_rows", none)) (x := "_check_rows") (qual := "_check_rows") (st := top 21))
    exact ⟨_, fd, F, (He.glo_ok X G (c.fact 35 (f := .glo "_check_rows"))), (F.binds fun _ _ _ _ _ _ us hl => match us, hl with | [_], _ => rfl)⟩
  have d_p__once_each : Dfn K mg "_once_each" (top 22) ["names"] := by
    obtain ⟨fd, F⟩ := (c.def_ 7 (at_ := ("_once_each", none)) (x := "_once_each") (qual := "_once_each") (st := top 22))
    exact ⟨_, fd, F, (He.glo_ok X G (c.fact 36 (f := .glo "_once_each"))), (F.binds fun _ _ _ _ _ _ us hl => match us, hl with | [_], _ => rfl)⟩
  have d_p_check_world : Dfn K mg "check_world" (top 26) ["world"] := by
    obtain ⟨fd, F⟩ := (c.def_ 8 (at_ := ("check_world", none)) (x := "check_world") (qual := "check_world") (st := top 26))
    exact ⟨_, fd, F, (He.glo_ok X G (c.fact 37 (f := .glo "check_world"))), (F.binds fun _ _ _ _ _ _ us hl => match us, hl with | [_], _ => rfl)⟩
  have d_p__is_suspicion : Dfn K mg "_is_suspicion" (top 27) ["world", "value"] := by
    obtain ⟨fd, F⟩ := (c.def_ 9 (at_ := ("_is_suspicion", none)) (x := "_is_suspicion") (qual := "_is_suspicion") (st := top 27))
    exact ⟨_, fd, F, (He.glo_ok X G (c.fact 38 (f := .glo "_is_suspicion"))), (F.binds fun _ _ _ _ _ _ us hl => match us, hl with | [_, _], _ => rfl)⟩
  have d_p_check_suspicion : Dfn K mg "check_suspicion" (top 28) ["world", "suspicion"] := by
    obtain ⟨fd, F⟩ := (c.def_ 10 (at_ := ("check_suspicion", none)) (x := "check_suspicion") (qual := "check_suspicion") (st := top 28))
    exact ⟨_, fd, F, (He.glo_ok X G (c.fact 39 (f := .glo "check_suspicion"))), (F.binds fun _ _ _ _ _ _ us hl => match us, hl with | [_, _], _ => rfl)⟩
  have d_p_check_suspicions : Dfn K mg "check_suspicions" (top 29) ["world", "suspicions"] := by
    obtain ⟨fd, F⟩ := (c.def_ 11 (at_ := ("check_suspicions", none)) (x := "check_suspicions") (qual := "check_suspicions") (st := top 29))
    exact ⟨_, fd, F, (He.glo_ok X G (c.fact 40 (f := .glo "check_suspicions"))), (F.binds fun _ _ _ _ _ _ us hl => match us, hl with | [_, _], _ => rfl)⟩
  have d_p_is_choice : Dfn K mg "is_choice" (top 30) ["world", "uses", "value"] := by
    obtain ⟨fd, F⟩ := (c.def_ 12 (at_ := ("is_choice", none)) (x := "is_choice") (qual := "is_choice") (st := top 30))
    exact ⟨_, fd, F, (He.glo_ok X G (c.fact 41 (f := .glo "is_choice"))), (F.binds fun _ _ _ _ _ _ us hl => match us, hl with | [_, _, _], _ => rfl)⟩
  have d_p_can_read : Dfn K mg "can_read" (top 32) ["keys", "known"] := by
    obtain ⟨fd, F⟩ := (c.def_ 13 (at_ := ("can_read", none)) (x := "can_read") (qual := "can_read") (st := top 32))
    exact ⟨_, fd, F, (He.glo_ok X G (c.fact 42 (f := .glo "can_read"))), (F.binds fun _ _ _ _ _ _ us hl => match us, hl with | [_, _], _ => rfl)⟩
  have d_p_past_messages : Dfn K mg "past_messages" (top 33) ["world"] := by
    obtain ⟨fd, F⟩ := (c.def_ 14 (at_ := ("past_messages", none)) (x := "past_messages") (qual := "past_messages") (st := top 33))
    exact ⟨_, fd, F, (He.glo_ok X G (c.fact 43 (f := .glo "past_messages"))), (F.binds fun _ _ _ _ _ _ us hl => match us, hl with | [_], _ => rfl)⟩
  have d_p_known_versions : Dfn K mg "known_versions" (top 34) ["world", "suspicion", "messages"] := by
    obtain ⟨fd, F⟩ := (c.def_ 15 (at_ := ("known_versions", none)) (x := "known_versions") (qual := "known_versions") (st := top 34))
    exact ⟨_, fd, F, (He.glo_ok X G (c.fact 44 (f := .glo "known_versions"))), (F.binds fun _ _ _ _ _ _ us hl => match us, hl with | [_, _, _], _ => rfl)⟩
  have d_p_exposed : Dfn K mg "exposed" (top 36) ["world", "suspicion"] := by
    obtain ⟨fd, F⟩ := (c.def_ 16 (at_ := ("exposed", none)) (x := "exposed") (qual := "exposed") (st := top 36))
    exact ⟨_, fd, F, (He.glo_ok X G (c.fact 45 (f := .glo "exposed"))), (F.binds fun _ _ _ _ _ _ us hl => match us, hl with | [_, _], _ => rfl)⟩
  have d_p_needed : Dfn K mg "needed" (top 37) ["world", "suspicions"] := by
    obtain ⟨fd, F⟩ := (c.def_ 17 (at_ := ("needed", none)) (x := "needed") (qual := "needed") (st := top 37))
    exact ⟨_, fd, F, (He.glo_ok X G (c.fact 46 (f := .glo "needed"))), (F.binds fun _ _ _ _ _ _ us hl => match us, hl with | [_, _], _ => rfl)⟩
  have d_p_all_leaks : Dfn K mg "all_leaks" (top 39) ["world", "suspicions"] := by
    obtain ⟨fd, F⟩ := (c.def_ 18 (at_ := ("all_leaks", none)) (x := "all_leaks") (qual := "all_leaks") (st := top 39))
    exact ⟨_, fd, F, (He.glo_ok X G (c.fact 47 (f := .glo "all_leaks"))), (F.binds fun _ _ _ _ _ _ us hl => match us, hl with | [_, _], _ => rfl)⟩
  have d_p_is_barred : Dfn K mg "is_barred" (top 40) ["world", "leaks", "use", "stale"] := by
    obtain ⟨fd, F⟩ := (c.def_ 19 (at_ := ("is_barred", none)) (x := "is_barred") (qual := "is_barred") (st := top 40))
    exact ⟨_, fd, F, (He.glo_ok X G (c.fact 48 (f := .glo "is_barred"))), (F.binds fun _ _ _ _ _ _ us hl => match us, hl with | [_, _, _, _], _ => rfl)⟩
  have d_p_unread_sends : Dfn K mg "unread_sends" (top 41) ["world", "leaks", "stale"] := by
    obtain ⟨fd, F⟩ := (c.def_ 20 (at_ := ("unread_sends", none)) (x := "unread_sends") (qual := "unread_sends") (st := top 41))
    exact ⟨_, fd, F, (He.glo_ok X G (c.fact 49 (f := .glo "unread_sends"))), (F.binds fun _ _ _ _ _ _ us hl => match us, hl with | [_, _, _], _ => rfl)⟩
  have d_p_greatest_knot : Dfn K mg "greatest_knot" (top 42) ["world", "leaks", "stale"] := by
    obtain ⟨fd, F⟩ := (c.def_ 21 (at_ := ("greatest_knot", none)) (x := "greatest_knot") (qual := "greatest_knot") (st := top 42))
    exact ⟨_, fd, F, (He.glo_ok X G (c.fact 50 (f := .glo "greatest_knot"))), (F.binds fun _ _ _ _ _ _ us hl => match us, hl with | [_, _, _], _ => rfl)⟩
  have d_p__is_tied : Dfn K mg "_is_tied" (top 44) ["world", "leaks", "uses"] := by
    obtain ⟨fd, F⟩ := (c.def_ 22 (at_ := ("_is_tied", none)) (x := "_is_tied") (qual := "_is_tied") (st := top 44))
    exact ⟨_, fd, F, (He.glo_ok X G (c.fact 51 (f := .glo "_is_tied"))), (F.binds fun _ _ _ _ _ _ us hl => match us, hl with | [_, _, _], _ => rfl)⟩
  have d_p_is_enough : Dfn K mg "is_enough" (top 45) ["world", "suspicions", "uses"] := by
    obtain ⟨fd, F⟩ := (c.def_ 23 (at_ := ("is_enough", none)) (x := "is_enough") (qual := "is_enough") (st := top 45))
    exact ⟨_, fd, F, (He.glo_ok X G (c.fact 52 (f := .glo "is_enough"))), (F.binds fun _ _ _ _ _ _ us hl => match us, hl with | [_, _, _], _ => rfl)⟩
  have d_p_is_knot : Dfn K mg "is_knot" (top 46) ["world", "suspicions", "uses"] := by
    obtain ⟨fd, F⟩ := (c.def_ 24 (at_ := ("is_knot", none)) (x := "is_knot") (qual := "is_knot") (st := top 46))
    exact ⟨_, fd, F, (He.glo_ok X G (c.fact 53 (f := .glo "is_knot"))), (F.binds fun _ _ _ _ _ _ us hl => match us, hl with | [_, _, _], _ => rfl)⟩
  have d_l_draw : Dfn K mg "_law_draw" (top 48) ["_law_cell", "_law_k", "_law_many"] := by
    obtain ⟨fd, F⟩ := (c.def_ 25 (at_ := ("_law_draw", none)) (x := "_law_draw") (qual := "_law_draw") (st := top 48))
    exact ⟨_, fd, F, (He.glo_ok X G (c.fact 54 (f := .glo "_law_draw"))), (F.binds fun _ _ _ _ _ _ us hl => match us, hl with | [_, _, _], _ => rfl)⟩
  have d_l_cell_at : Dfn K mg "_law_cell_at" (top 49) ["_law_script", "_law_k"] := by
    obtain ⟨fd, F⟩ := (c.def_ 26 (at_ := ("_law_cell_at", none)) (x := "_law_cell_at") (qual := "_law_cell_at") (st := top 49))
    exact ⟨_, fd, F, (He.glo_ok X G (c.fact 55 (f := .glo "_law_cell_at"))), (F.binds fun _ _ _ _ _ _ us hl => match us, hl with | [_, _], _ => rfl)⟩
  have d_l_digits : Dfn K mg "_law_digits" (top 50) ["_law_script", "_law_at", "_law_many", "_law_base"] := by
    obtain ⟨fd, F⟩ := (c.def_ 27 (at_ := ("_law_digits", none)) (x := "_law_digits") (qual := "_law_digits") (st := top 50))
    exact ⟨_, fd, F, (He.glo_ok X G (c.fact 56 (f := .glo "_law_digits"))), (F.binds fun _ _ _ _ _ _ us hl => match us, hl with | [_, _, _, _], _ => rfl)⟩
  have d_l_take : Dfn K mg "_law_take" (top 51) ["_law_draws", "_law_many"] := by
    obtain ⟨fd, F⟩ := (c.def_ 28 (at_ := ("_law_take", none)) (x := "_law_take") (qual := "_law_take") (st := top 51))
    exact ⟨_, fd, F, (He.glo_ok X G (c.fact 57 (f := .glo "_law_take"))), (F.binds fun _ _ _ _ _ _ us hl => match us, hl with | [_, _], _ => rfl)⟩
  have d_l_pool : Dfn K mg "_law_pool" (top 52) ["_law_script", "_law_bases"] := by
    obtain ⟨fd, F⟩ := (c.def_ 29 (at_ := ("_law_pool", none)) (x := "_law_pool") (qual := "_law_pool") (st := top 52))
    exact ⟨_, fd, F, (He.glo_ok X G (c.fact 58 (f := .glo "_law_pool"))), (F.binds fun _ _ _ _ _ _ us hl => match us, hl with | [_, _], _ => rfl)⟩
  have d_l_drawn_rows : Dfn K mg "_law_drawn_rows" (top 53) ["_law_draws", "_law_most"] := by
    obtain ⟨fd, F⟩ := (c.def_ 30 (at_ := ("_law_drawn_rows", none)) (x := "_law_drawn_rows") (qual := "_law_drawn_rows") (st := top 53))
    exact ⟨_, fd, F, (He.glo_ok X G (c.fact 59 (f := .glo "_law_drawn_rows"))), (F.binds fun _ _ _ _ _ _ us hl => match us, hl with | [_, _], _ => rfl)⟩
  have d_l_secrets : Dfn K mg "_law_secrets" (top 54) ["_law_rows"] := by
    obtain ⟨fd, F⟩ := (c.def_ 31 (at_ := ("_law_secrets", none)) (x := "_law_secrets") (qual := "_law_secrets") (st := top 54))
    exact ⟨_, fd, F, (He.glo_ok X G (c.fact 60 (f := .glo "_law_secrets"))), (F.binds fun _ _ _ _ _ _ us hl => match us, hl with | [_], _ => rfl)⟩
  have d_l_drawn_seen : Dfn K mg "_law_drawn_seen" (top 55) ["_law_draws", "_law_rows"] := by
    obtain ⟨fd, F⟩ := (c.def_ 32 (at_ := ("_law_drawn_seen", none)) (x := "_law_drawn_seen") (qual := "_law_drawn_seen") (st := top 55))
    exact ⟨_, fd, F, (He.glo_ok X G (c.fact 61 (f := .glo "_law_drawn_seen"))), (F.binds fun _ _ _ _ _ _ us hl => match us, hl with | [_, _], _ => rfl)⟩
  have d_l_exposed : Dfn K mg "_law_exposed" (top 56) ["_law_rows", "_law_seen"] := by
    obtain ⟨fd, F⟩ := (c.def_ 33 (at_ := ("_law_exposed", none)) (x := "_law_exposed") (qual := "_law_exposed") (st := top 56))
    exact ⟨_, fd, F, (He.glo_ok X G (c.fact 62 (f := .glo "_law_exposed"))), (F.binds fun _ _ _ _ _ _ us hl => match us, hl with | [_, _], _ => rfl)⟩
  have d_l_needed : Dfn K mg "_law_needed" (top 57) ["_law_rows", "_law_suspicions"] := by
    obtain ⟨fd, F⟩ := (c.def_ 34 (at_ := ("_law_needed", none)) (x := "_law_needed") (qual := "_law_needed") (st := top 57))
    exact ⟨_, fd, F, (He.glo_ok X G (c.fact 63 (f := .glo "_law_needed"))), (F.binds fun _ _ _ _ _ _ us hl => match us, hl with | [_, _], _ => rfl)⟩
  have d_l_built : Dfn K mg "_law_built" (top 58) ["_law_rows"] := by
    obtain ⟨fd, F⟩ := (c.def_ 35 (at_ := ("_law_built", none)) (x := "_law_built") (qual := "_law_built") (st := top 58))
    exact ⟨_, fd, F, (He.glo_ok X G (c.fact 64 (f := .glo "_law_built"))), (F.binds fun _ _ _ _ _ _ us hl => match us, hl with | [_], _ => rfl)⟩
  have d_l_channel : Dfn K mg "_law_channel" (top 59) ["_law_rows", "_law_use"] := by
    obtain ⟨fd, F⟩ := (c.def_ 36 (at_ := ("_law_channel", none)) (x := "_law_channel") (qual := "_law_channel") (st := top 59))
    exact ⟨_, fd, F, (He.glo_ok X G (c.fact 65 (f := .glo "_law_channel"))), (F.binds fun _ _ _ _ _ _ us hl => match us, hl with | [_, _], _ => rfl)⟩
  have d_l_left : Dfn K mg "_law_left" (top 60) ["_law_rows", "_law_suspicions", "_law_carried"] := by
    obtain ⟨fd, F⟩ := (c.def_ 37 (at_ := ("_law_left", none)) (x := "_law_left") (qual := "_law_left") (st := top 60))
    exact ⟨_, fd, F, (He.glo_ok X G (c.fact 66 (f := .glo "_law_left"))), (F.binds fun _ _ _ _ _ _ us hl => match us, hl with | [_, _, _], _ => rfl)⟩
  have d_l_is_read : Dfn K mg "_law_is_read" (top 61) ["_law_rows", "_law_known", "_law_use", "_law_old"] := by
    obtain ⟨fd, F⟩ := (c.def_ 38 (at_ := ("_law_is_read", none)) (x := "_law_is_read") (qual := "_law_is_read") (st := top 61))
    exact ⟨_, fd, F, (He.glo_ok X G (c.fact 67 (f := .glo "_law_is_read"))), (F.binds fun _ _ _ _ _ _ us hl => match us, hl with | [_, _, _, _], _ => rfl)⟩
  have d_l_sets : Dfn K mg "_law_sets" (top 62) ["_law_items"] := by
    obtain ⟨fd, F⟩ := (c.def_ 39 (at_ := ("_law_sets", none)) (x := "_law_sets") (qual := "_law_sets") (st := top 62))
    exact ⟨_, fd, F, (He.glo_ok X G (c.fact 68 (f := .glo "_law_sets"))), (F.binds fun _ _ _ _ _ _ us hl => match us, hl with | [_], _ => rfl)⟩
  obtain ⟨fdl, Fl⟩ := (c.def_ 44 (at_ := ("law", none)) (x := "law") (qual := "law") (st := top 63))
  have e := hfa.symm.trans (He.glo_ok X G (c.fact 73 (f := .glo "law")))
  cases e
  refine ⟨fdl, HK.fun_bindsTo Fl fun _ _ _ _ _ _ _ => rfl, fun base => ?_⟩
  have cNm : Cal P w K mg base "is_name" 1 ["value"] (spD pNm) := d_p_is_name.cal fun f fd F => ok_nm C1 B F
  have cPr : Cal P w K mg base "_is_pair" 1 ["value"] (spD pPr) := d_p__is_pair.cal fun f fd F => ok_pr B F
  have cPn : Cal P w K mg base "_is_pair_of_names" 2 ["value"] (spD pPn) := d_p__is_pair_of_names.cal fun f fd F => ok_pn cNm cPr F
  have cCo : Cal P w K mg base "_is_cost" 1 ["value"] (spD pCo) := d_p__is_cost.cal fun f fd F => ok_co C1 B F
  have cCh : Cal P w K mg base "_is_channel" 2 ["use", "channel", "uses"] (spD pCh) := d_p__is_channel.cal fun f fd F => ok_ch cNm C1 B F
  have cFi : Cal P w K mg base "_fits" 3 ["use", "value", "uses"] (spD pFi) := d_p__fits.cal fun f fd F => ok_fi cPr cCh cCo F
  have cCk : Cal P w K mg base "_check_rows" 4 ["rows"] (spD pCk) := d_p__check_rows.cal fun f fd F => ok_ck cPn cFi C1 B F
  have cOn : Cal P w K mg base "_once_each" 1 ["names"] (spD pOn) := d_p__once_each.cal fun f fd F => ok_on B F
  have hMk : MkW P w K mg base (He.ga K "World") := by
    obtain ⟨fd, F⟩ := (c.def_ 40 (at_ := ("World", some "__init__")) (x := "__init__") (qual := "World.__init__") (st := inClass (top 23) 0))
    exact ⟨_, fd, ok_in W cCk cOn B F, He.mkr_ok (c.fact 69 (f := .mkr "World")), (F.binds fun _ _ _ _ _ _ us hl => match us, hl with | [_, _], _ => rfl)⟩
  have pSe : PCal P w K mg base (He.ga K "World") "secrets" 1 ["self"] (spD (pProp (He.ga K "World") fun rs => strsD (secretsD rs))) := by
    obtain ⟨p, fd, F⟩ := c.prop 0 (d := ⟨"World", "secrets", "World.secrets", inClass (top 23) 3⟩)
    exact ⟨_, _, fd, ok_pc W B F, p, (F.binds fun _ _ _ _ _ _ us hl => match us, hl with | [_], _ => rfl)⟩
  have pUs : PCal P w K mg base (He.ga K "World") "uses" 1 ["self"] (spD (pProp (He.ga K "World") usesD)) := by
    obtain ⟨p, fd, F⟩ := c.prop 1 (d := ⟨"World", "uses", "World.uses", inClass (top 23) 4⟩)
    exact ⟨_, _, fd, ok_pu W B F, p, (F.binds fun _ _ _ _ _ _ us hl => match us, hl with | [_], _ => rfl)⟩
  have mHu : MCal P w K mg base (He.ga K "World") "has_use" 3 ["self", "value"] (spD (pHu (He.ga K "World"))) := by
    obtain ⟨fd, F⟩ := (c.def_ 41 (at_ := ("World", some "has_use")) (x := "has_use") (qual := "World.has_use") (st := inClass (top 23) 5))
    exact ⟨_, fd, ok_hu W cPn F, He.meth_ok (c.fact 70 (f := .meth "World" "has_use")), (F.binds fun _ _ _ _ _ _ us hl => match us, hl with | [_, _], _ => rfl)⟩
  have mHs : MCal P w K mg base (He.ga K "World") "has_secret" 2 ["self", "value"] (spD (pHs (He.ga K "World"))) := by
    obtain ⟨fd, F⟩ := (c.def_ 42 (at_ := ("World", some "has_secret")) (x := "has_secret") (qual := "World.has_secret") (st := inClass (top 23) 6))
    exact ⟨_, fd, ok_hs W cNm F, He.meth_ok (c.fact 71 (f := .meth "World" "has_secret")), (F.binds fun _ _ _ _ _ _ us hl => match us, hl with | [_, _], _ => rfl)⟩
  have mHc : MCal P w K mg base (He.ga K "World") "channel" 4 ["self", "use"] (spD (pOf (He.ga K "World") fun r => .tuple (r.ch.map .str))) := by
    obtain ⟨fd, F⟩ := (c.def_ 43 (at_ := ("World", some "channel")) (x := "channel") (qual := "World.channel") (st := inClass (top 23) 7))
    exact ⟨_, fd, ok_hc W mHu F, He.meth_ok (c.fact 72 (f := .meth "World" "channel")), (F.binds fun _ _ _ _ _ _ us hl => match us, hl with | [_, _], _ => rfl)⟩
  have cCw : Cal P w K mg base "check_world" 1 ["world"] (spD (pCw (He.ga K "World"))) := d_p_check_world.cal fun f fd F => ok_cw I B F
  have cSu : Cal P w K mg base "_is_suspicion" 3 ["world", "value"] (spD (pSu (He.ga K "World") (.bool true))) := d_p__is_suspicion.cal fun f fd F => ok_su W mHs pSe B F
  have cCs : Cal P w K mg base "check_suspicion" 4 ["world", "suspicion"] (spD (pSu (He.ga K "World") .none)) := d_p_check_suspicion.cal fun f fd F => ok_cs cSu F
  have cCss : Cal P w K mg base "check_suspicions" 5 ["world", "suspicions"] (spD (pCssLT (He.ga K "World"))) := d_p_check_suspicions.cal fun f fd F => ok_cssLT cCs B C1 F
  have cCrD : Cal P w K mg base "can_read" 1 ["keys", "known"] spCrD := d_p_can_read.cal fun f fd F => ok_crD B F
  have cPm : Cal P w K mg base "past_messages" 5 ["world"] (spD (pPm (He.ga K "World"))) := d_p_past_messages.cal fun f fd F => ok_pm W pUs mHc B F
  have cKv : Cal P w K mg base "known_versions" 6 ["world", "suspicion", "messages"] (spD (pKv (He.ga K "World"))) := d_p_known_versions.cal fun f fd F => ok_kv cPm cCrD B F
  have cEx : Cal P w K mg base "exposed" 7 ["world", "suspicion"] (spD (pEx (He.ga K "World"))) := d_p_exposed.cal fun f fd F => ok_ex W pSe cCw cCs cKv F
  have cNe : Cal P w K mg base "needed" 8 ["world", "suspicions"] (spD (pNe (He.ga K "World"))) := d_p_needed.cal fun f fd F => ok_ne W pUs cCw cCss cEx B F
  have cIc : Cal P w K mg base "is_choice" 4 ["world", "uses", "value"] (spD (pIc (He.ga K "World"))) := d_p_is_choice.cal fun f fd F => ok_ic W mHu B F
  have cLe : Cal P w K mg base "all_leaks" 8 ["world", "suspicions"] (spD (pLe (He.ga K "World"))) := d_p_all_leaks.cal fun f fd F => ok_le cEx F
  have cBa : Cal P w K mg base "is_barred" 5 ["world", "leaks", "use", "stale"] (spD (pBa (He.ga K "World"))) := d_p_is_barred.cal fun f fd F => ok_ba W mHc B F
  have cUn : Cal P w K mg base "unread_sends" 6 ["world", "leaks", "stale"] (spD (pUn (He.ga K "World"))) := d_p_unread_sends.cal fun f fd F => ok_un cBa B F
  have cGk : Cal P w K mg base "greatest_knot" 7 ["world", "leaks", "stale"] (spD (pGk (He.ga K "World"))) := d_p_greatest_knot.cal fun f fd F => ok_gk cUn F
  have cTi : Cal P w K mg base "_is_tied" 6 ["world", "leaks", "uses"] (spD (pTi (He.ga K "World"))) := d_p__is_tied.cal fun f fd F => ok_ti cBa B F
  have cEn : Cal P w K mg base "is_enough" 9 ["world", "suspicions", "uses"] (spD (pEn (He.ga K "World"))) := d_p_is_enough.cal fun f fd F => ok_en cCw cCss cNe cIc cLe cGk F
  have cKn : Cal P w K mg base "is_knot" 9 ["world", "suspicions", "uses"] (spD (pKn (He.ga K "World"))) := d_p_is_knot.cal fun f fd F => ok_kn cCw cCss cNe cIc cLe cTi B F
  have lDr : Cal P w K mg base "_law_draw" 1 ["_law_cell", "_law_k", "_law_many"] (spD pDraw) := d_l_draw.cal fun f fd F => ok_draw F
  have lCe : Cal P w K mg base "_law_cell_at" 2 ["_law_script", "_law_k"] (spD (pCell K)) := d_l_cell_at.cal fun f fd F => ok_cell lDr B F
  have lDi : Cal P w K mg base "_law_digits" 3 ["_law_script", "_law_at", "_law_many", "_law_base"] (spD (pDig K)) := d_l_digits.cal fun f fd F => ok_dig lCe lDr B F
  have lTa : Cal P w K mg base "_law_take" 1 ["_law_draws", "_law_many"] spTake := d_l_take.cal fun f fd F => ok_take F
  have lPo : Cal P w K mg base "_law_pool" 4 ["_law_script", "_law_bases"] (spPool K) := d_l_pool.cal fun f fd F => ok_pool lDi B F
  have lRo : Cal P w K mg base "_law_drawn_rows" 2 ["_law_draws", "_law_most"] spRows := d_l_drawn_rows.cal fun f fd F => ok_rows lTa B F
  have lSe : Cal P w K mg base "_law_secrets" 1 ["_law_rows"] (spD pSec) := d_l_secrets.cal fun f fd F => ok_sec F
  have lSn : Cal P w K mg base "_law_drawn_seen" 2 ["_law_draws", "_law_rows"] spSeen := d_l_drawn_seen.cal fun f fd F => ok_seen lTa lSe B F
  have lEx : Cal P w K mg base "_law_exposed" 2 ["_law_rows", "_law_seen"] (spD pExp) := d_l_exposed.cal fun f fd F => ok_exp lSe B F
  have lNe : Cal P w K mg base "_law_needed" 3 ["_law_rows", "_law_suspicions"] (spD pNeed) := d_l_needed.cal fun f fd F => ok_need lEx B F
  have lBu : Cal P w K mg base "_law_built" 7 ["_law_rows"] (spD (pBu (He.ga K "World"))) := d_l_built.cal fun f fd F => ok_bu hMk hC F
  have lLc : Cal P w K mg base "_law_channel" 1 ["_law_rows", "_law_use"] (spD pLc) := d_l_channel.cal fun f fd F => ok_lc F
  have lRd : Cal P w K mg base "_law_is_read" 2 ["_law_rows", "_law_known", "_law_use", "_law_old"] (spD pRd) := d_l_is_read.cal fun f fd F => ok_rd lLc B F
  have lSt : Cal P w K mg base "_law_sets" 1 ["_law_items"] (spD pSt) := d_l_sets.cal fun f fd F => ok_st F
  have lLf : Cal P w K mg base "_law_left" 4 ["_law_rows", "_law_suspicions", "_law_carried"] (spD pLf) := d_l_left.cal fun f fd F => ok_lf lEx lNe lRd F
  have LC : LwC P w K mg base (He.ga K "World") := ⟨lPo, lRo, lBu, lSn, lNe, lEx, lRd, lSt, lLf, cKn, cEn⟩
  exact ok_lw LC B Fl
end K01
open PySem PySem.W PySem.Calls PyProof.Rows
theorem PySem.Challenge.cw_rotatesafe_k03_whole_knots_holds : PySem.Challenge.rw_rotatesafe_k03_whole_knots.Holds := by
  w_on; o_law
  refine HandSHeadRun.head_any (r := OpenLaw.row PySem.Challenge.rw_rotatesafe_k03_whole_knots) (q := view (OpenLaw.row PySem.Challenge.rw_rotatesafe_k03_whole_knots).prog [63]) (H := K01.hHk) (ob := K01.hOb) (M := 6000) (loose := K01.hNames) (d := HandSHeadRun.topDef (OpenLaw.row PySem.Challenge.rw_rotatesafe_k03_whole_knots).prog 63) (kwd := []) K01.hOb_eq
    (by kernel_rfl) (fun s => by kernel_rfl) K01.run (by kernel_rfl) (by kernel_rfl) (by kernel_rfl) (by rfl) (by first | assumption | decide +kernel) (by decide +kernel) ⟨rfl, rfl, rfl, rfl, rfl, by decide +kernel⟩ ?hw ?hc
  case hw => w_witness2
  case hc =>
    refine L2.walk_ofE (l := PySem.Challenge.rw_rotatesafe_k03_whole_knots) (n := 63) (k := 10) (x := "_law_script") (CX := L2.CX0) rfl (by decide) (by kernel_rfl) ⟨rfl, by decide, by decide⟩ ?F (fun _ _ _ _ z => z)
    intro w mg fa h Y G hmg0
    obtain ⟨K, KX, c⟩ := Y
    have hmg : mg ("law" : PySem.Str) = some (.ref fa) := by
      have e : (HandSHeadRun.topDef (OpenLaw.row PySem.Challenge.rw_rotatesafe_k03_whole_knots).prog 63).name = ("law" : PySem.Str) := by kernel_rfl
      rw [← e]
      exact hmg0
    obtain ⟨fd, hb, hF⟩ := K01.law_all (P := (PySem.Challenge.rw_rotatesafe_k03_whole_knots).prog) (w := w) KX G hmg c
    exact ⟨K, fd, K01.spLw K, KX, hb, fun H a ns _ _ hS => K01.start_lw hS fun _ => rfl, fun base _ _ => hF base⟩
