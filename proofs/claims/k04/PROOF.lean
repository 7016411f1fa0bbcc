import PyProof.Rows.All
import Wide.All
import OpenK.AllK
import Wide.FinOn
import PyProof.NeData
import HandS.ForMost
import HandS.ForExc
import HandS.ExcInit
import HandS.ExcField
import HandS.IsInst
import HandS.TryMany
import HandS.RaiseMore
import HandS.Words
import PySem.Challenge.RW_threecounts_k04_widths_and_items
set_option Elab.async false
set_option linter.all false
set_option maxRecDepth 100000
set_option maxHeartbeats 8000000
/-! # K4Rules -/
namespace Tc
open PySem PySem.Spec PyProof.Rows L2

/-! ## data that may hold an empty dict, and its repr -/
mutual
inductive Dq (K : PySem.W.Frag) (H : Hp) : V → PyData → Prop
  | no : Dq K H .non .none
  | bo (b : Bool) : Dq K H (.bl b) (.bool b)
  | it (i : Int) : Dq K H (.int i) (.int i)
  | tx (x : Str) : Dq K H (.str x) (.str x)
  | li {a : Addr} {xs : List V} {ds : List PyData} (h : SqL K H a xs) (g : DqA K H xs ds) : Dq K H (.ref a) (.list ds)
  | tu {a : Addr} {xs : List V} {ds : List PyData} (h : SqT K H a xs) (g : DqA K H xs ds) : Dq K H (.ref a) (.tuple ds)
  | em {a : Addr} (h : H a = some (.dK [])) : Dq K H (.ref a) (.dict [])
inductive DqA (K : PySem.W.Frag) (H : Hp) : List V → List PyData → Prop
  | no : DqA K H [] []
  | co {v : V} {vs : List V} {d : PyData} {ds : List PyData} (h : Dq K H v d) (g : DqA K H vs ds) : DqA K H (v :: vs) (d :: ds)
end
section
variable {X : Cx} {pins : List (Addr × Obj)} {σ : L2.St} {H : Hp} {s : Shared}
/-- what stands at sys.modules holds a dict's entries -/
def SysD (h : Heap) : Prop := ∃ mm, h.Ns sysModules mm
mutual
theorem Dq.reads (I : Inv X pins σ H s) (hs : SysD s.heap) : ∀ (d : PyData) (v : V) (u : Value), Dq X.K H v d → RelV v u → ∃ as, Reads s.heap u d as ∧ sysModules ∉ as
  | .none, _, _, h, r => by
    cases h
    cases r
    exact ⟨_, .none, by simp⟩
  | .bool b, _, _, h, r => by
    cases h
    cases r
    exact ⟨_, .bool b, by simp⟩
  | .int i, _, _, h, r => by
    cases h
    obtain ⟨t, rfl⟩ := r
    exact ⟨_, .int i t, by simp⟩
  | .str x, _, _, h, r => by
    cases h
    obtain ⟨t, rfl⟩ := r
    exact ⟨_, .str x t, by simp⟩
  | .list ds, _, _, h, r => by
    cases h with
    | li q qa =>
      cases r
      obtain ⟨zs, rz, ⟨o, n, ho, hc, _, hd⟩, _⟩ := I.list q
      obtain ⟨as, ra, na⟩ := DqA.reads I hs ds _ zs qa rz
      refine ⟨_, .list ho hc hd ra, ?_⟩
      intro m
      rcases List.mem_cons.mp m with e | e
      · obtain ⟨mm, o2, es2, ep2, h2, d2, _⟩ := hs
        rw [e, ho] at h2
        obtain rfl := Option.some.inj h2
        rw [hd] at d2
        cases d2
      · exact na e
  | .tuple ds, _, _, h, r => by
    cases h with
    | tu q qa =>
      cases r
      obtain ⟨zs, rz, ⟨o, ho, hc, n, hd⟩, _⟩ := I.tuple q
      obtain ⟨as, ra, na⟩ := DqA.reads I hs ds _ zs qa rz
      exact ⟨_, .tuple ho hc hd ra, na⟩
  | .dict ds, _, _, h, r => by
    cases h with
    | em q =>
      cases r
      obtain ⟨_, hn, vs, rel, o, es, ep, ho, hx, hd, _, hp, _⟩ := I.hok _ _ q
      cases rel
      have ee : es.toList = [] := by
        cases hl : es.toList with
        | nil => rfl
        | cons z zs =>
          rw [hl] at hp
          cases hp
      refine ⟨_, .dict (kvs := []) ho hx.1 hd (by rw [ee]; exact .nil) (by rw [ee]; exact .nil), ?_⟩
      intro m
      rcases List.mem_cons.mp m with e | e
      · rw [← e] at hn
        exact absurd hn (by decide)
      · simp at e
theorem DqA.reads (I : Inv X pins σ H s) (hs : SysD s.heap) : ∀ (ds : List PyData) (vs : List V) (us : List Value), DqA X.K H vs ds → Vals vs us → ∃ as, ReadsAll s.heap us ds as ∧ sysModules ∉ as
  | [], _, _, h, r => by
    cases h
    cases r
    exact ⟨_, .nil, by simp⟩
  | d :: ds, _, _, h, r => by
    cases h with
    | co h1 h2 =>
      cases r with
      | cons r1 r2 =>
        obtain ⟨as, qa, na⟩ := Dq.reads I hs d _ _ h1 r1
        obtain ⟨bs, qb, nb⟩ := DqA.reads I hs ds _ _ h2 r2
        refine ⟨_, .cons qa qb, fun m => ?_⟩
        rcases List.mem_append.mp m with e | e
        · exact na e
        · exact nb e
end
/-- repr(x), x a list of such data, or an int -/
def rRepr (K : PySem.W.Frag) : List V → Hp → VK → Prop := fun xs H Q =>
  (∃ i, xs = [.int i] ∧ i.natAbs.log2 < 1920 ∧ Q (.str (toString i)) H) ∨
  ∃ (a : Addr) (d : PyData), xs = [.ref a] ∧ Dq K H (.ref a) d ∧ d.showable = true ∧ d.depth ≤ 8 ∧ d.shown.length ≤ sizeLine ∧ Q (.str d.shown) H
theorem call_reprQ (hg : X.A.guards = some []) (hu : X.A.units + 64 < cLine) (hS : SysD X.base) : CallR X (.builtin "repr") (rRepr X.K) := by
  intro pins s σ H xs us Q I r h
  rcases h with ⟨i, rfl, hz, q⟩ | ⟨a, d, rfl, hd, sh, dp, sz, q⟩
  · obtain ⟨u, rfl, t, rfl⟩ := vals1 r
    exact PySem.P.repr_of_int hz ⟨.str _, H, I.tok _, ⟨_, rfl⟩, q⟩
  · obtain ⟨u, rfl, ru⟩ := vals1 r
    obtain ⟨as, rd, ns⟩ := Dq.reads I (let ⟨mm, z⟩ := hS; ⟨mm, z.keeps I.bk⟩) d _ _ hd ru
    obtain rfl : u = Value.ref a := ru
    exact repr_of_reads' rd sh (fun _ => ns) hg (by omega) (fun _ _ e => e) (fun h' u tk kp => ⟨.str _, H, I.kept kp, ⟨_, rfl⟩, q⟩) sz
end
end Tc

/-! # K4Try -/
namespace Tc
open PySem PySem.Spec PyProof.Rows L2
abbrev Suite := Addr → Value → Option Addr → TS
/-- a clause with a name: its class, the slot of its name, its suite; what several of them, one behind the other, wish of an exception of the body -/
def wCl (K : PySem.W.Frag) (Wz : WX) (D : Ends) : List (Value × Nat × Suite) → WX
  | [] => Wz
  | (c, i, ts) :: more => fun cl d σ H => ∃ hit, PySem.W.exmOne K cl c = some hit ∧
      (hit = true → ∀ a, H a = none → ts a cl d { nx := fun σ' H' => D.nx (σ'.set i none) H', rt := D.rt, bk := fun σ' H' => D.bk (σ'.set i none) H', ct := fun σ' H' => D.ct (σ'.set i none) H' } (σ.set i (some (.ref a))) H) ∧
      (hit = false → wCl K Wz D more cl d σ H)
inductive ClOk (X : Cx) : List ExceptHandler → List (Value × Nat × Suite) → Prop
  | no : ClOk X [] []
  | co {x n : Str} {c : Value} {i : Nat} {ts : Suite} {st₀ : Stmt} {sts : List Stmt} {p1 p2 : Pos} {hs : List ExceptHandler} {l : List (Value × Nat × Suite)}
      (hN : X.N.Nodup) (hi : X.N[i]? = some n) (hn : X.env.kindOf n = some .local) (hc : Names X x c)
      (su : ∀ (a : Addr) (ob : Obj) (cl : Value) (d : Option Addr) (pn : List (Addr × Obj)), Zc cl d ob → (∃ fv, ob.data = .fields fv) → PSs (X.suite a ((a, ob) :: pn)) (st₀ :: sts) (ts a cl d)) (r : ClOk X hs l) :
      ClOk X (.ExceptHandler (some (.Name x p1)) (some n) (st₀ :: sts) p2 :: hs) ((c, i, ts) :: l)
section
variable {X : Cx} {body : List Stmt} {h₀ : ExceptHandler} {hs : List ExceptHandler} {l : List (Value × Nat × Suite)} {pos : Pos} {tb : WX → TS} {Wz : WX}
theorem ps_try_names (hst : X.stack = X.env :: X.outer) (hf : X.env.frame = some X.env.locals) (take : Takes X Wz)
    (hb : ∀ (W : WX) (pn : List (Addr × Obj)) (xe : Value → Shared → Prop), Takes (X.tr pn xe) W → PassesOwn (model X.prog X.w) X.A X.env xe → PSs (X.tr pn xe) body (tb W))
    (hh : ClOk X (h₀ :: hs) l) : PS X (.Try body (h₀ :: hs) [] [] pos) (fun D σ H => tb (wCl X.K Wz D l) D σ H) := by
  constructor
  intro pins s σ H D I goal
  have good := I.ok
  have frs_ : X.A.frames = some (X.env :: X.outer) := by rw [good.frames, hst]
  refine wpAny_Try_except ?_
  refine wpAny_mono ((hb (wCl X.K Wz D l) (X.pn ++ pins)
    (fun ex sa => wpAny (model X.prog X.w) X.A (noteFrame ex X.env)
      (fun _ sb => wpAny (model X.prog X.w) X.A (setFlight ex none)
        (fun _ sc => wpAny (model X.prog X.w) X.A (handleBy ex X.env (h₀ :: hs)) (SP X pins D) X.xe sc) X.xe sb) X.xe sa)
    (fun val s' caught => ?_) PassesOwn.looking).run [] s σ H D (I.toTry _) goal) (fun fl s1 done => ?_) (fun _ _ z => z)
  · obtain ⟨a, B, sI, pins', σ', H', cl, d, rfl, Jt, nb, up, sky, na, os, ag, wish⟩ := caught
    have J : Inv X pins σ' H' sI := Jt.ofTry good
    have sky1 : Sky B (X.env :: X.outer) a (Zc cl d) X.env.locals s'.heap := by
      rw [← hst]
      exact sky
    show wpAny (model X.prog X.w) X.A (noteFrame (.ref a) X.env) _ _ _
    refine Sky.land Zc.steady frs_ hf sky1 fun hA flA upA => ?_
    have JA : Inv X pins σ' H' { s' with heap := hA } := J.landed nb flA.1 (up.trans upA) os ag
    obtain ⟨obA, fvA, heA, hzA, hdA⟩ := flA.there
    have apart : ∀ {h : Heap} {ob : Obj} {fv : Array Value}, h.FunFrames B (X.env :: X.outer) → h.get? a = some ob → ob.data = .fields fv → a ∉ frs (X.env :: X.outer) := by
      intro h ob fv ff e dd hm
      obtain ⟨_, ob2, e2, hnf⟩ := ff.mem hm
      rw [e] at e2
      cases e2
      exact hnf _ dd
    have nfr := apart flA.2.2.1 heA hdA
    have nL : a ≠ X.env.locals := by
      intro z
      refine nfr (List.mem_filterMap.mpr ⟨X.env, List.mem_cons_self, ?_⟩)
      rw [hf, z]
    have nF : a ∉ X.fs := by
      intro hm
      obtain ⟨en, hen, q⟩ := List.mem_filterMap.mp hm
      exact nfr (List.mem_filterMap.mpr ⟨en, List.mem_cons_of_mem _ hen, q⟩)
    have SA := JA.suite heA hdA na nL nF
    have go : ∀ {hs' : List ExceptHandler} {l' : List (Value × Nat × Suite)}, ClOk X hs' l' → wCl X.K Wz D l' cl d σ' H' →
        wpAny (model X.prog X.w) X.A (handleBy (.ref a) X.env hs') (SP X pins D) X.xe { s' with heap := hA } := by
      intro hs' l' hk
      induction hk with
      | no =>
        intro wz
        refine wpAny_handleBy_nil ?_
        obtain ⟨k1, k2, k3, ob, fv, T, oT, ts', he, hz, hd, hone, hr⟩ := id flA
        unfold PySem.passOn
        refine wpAny_bind (wpAny_field he hd hone ?_)
        have nn : ¬ ((Value.ref T == Value.none) = true) := by simp
        rw [if_neg nn]
        have out : wpAny (model X.prog X.w) X.A (setFlight (.ref a) X.env.frame)
            (fun _ sd => wpAny (model X.prog X.w) X.A (throw (.ref a) : Sem Flow) (SP X pins D) X.xe sd) X.xe { s' with heap := hA } := by
          rw [hf]
          refine HandSPX.setFlight_upZ flA fun hB hhB upB => ?_
          refine wpAny_throw (take _ _ ⟨a, B, sI, pins, σ', H', cl, d, rfl, J, nb, (up.trans upA).trans upB, .inr (.inr ?_), na, os, ag, wz⟩)
          rw [hst]
          exact hhB
        first
          | exact wpAny_bind (wpAny_pure (wpAny_bind out))
          | exact wpAny_bind out
      | @co x n c i ts st₀ sts p1 p2 hs2 l2 hN hi hn hc su more ih =>
        intro wz
        obtain ⟨hit, hit1, yes, no⟩ := wz
        refine wpAny_handleBy_cons (codeAny_handlers_test ?_) (by intro q; cases q)
        have lookT : PySem.W.Looks (model X.prog X.w) hA (typeOf (.ref a)) cl := fun A Q E sq kq q =>
          wpAny_typeOf_ref (kq _ _ heA) (by rw [hzA.1]; exact q)
        have lookM := PySem.W.exm_one (M := model X.prog X.w) JA.kIn lookT hit1
        have named : ∀ {Q : Value → Shared → Prop} {E : Value → Shared → Prop}, Q c { s' with heap := hA } →
            wpAny (model X.prog X.w) (X.A.mark (some (.ref a))) (eval (.Name x p1) X.env) Q E { s' with heap := hA } := by
          intro Q E q
          obtain ⟨hg, hdb, hm | ⟨hm, hv, hnn⟩⟩ := hc
          · exact ld_glob (X := X.suite a ((a, obA) :: (X.pn ++ pins))) SA hg hm q hdb
          · exact ld_blt (X := X.suite a ((a, obA) :: (X.pn ++ pins))) SA hg hm hv q hnn hdb
        refine named (lookM.here ?_)
        cases hit with
        | false =>
          show wpAny _ X.A (handleBy (.ref a) X.env hs2) _ _ _
          exact ih (no rfl)
        | true =>
          refine codeAny_handlers_suite_as ?_
          refine HandSPX.lands_againZ flA fun hB flB upB => ?_
          have JB : Inv X pins σ' H' { s' with heap := hB } := J.landed nb flB.1 ((up.trans upA).trans upB) os ag
          obtain ⟨obB, fvB, heB, hzB, hdB⟩ := flB.there
          have SB := JB.suite heB hdB na nL nF
          refine store_ok (X := X.suite a ((a, obB) :: (X.pn ++ pins))) (v := .ref a) SB hN hi (.inl hn) rfl (fun sC SC => ?_) (.inr hn)
          refine wpAny_mono ((su a obB cl d (X.pn ++ pins) hzB ⟨_, hdB⟩).run [] sC _ H' _ SC (yes rfl a na)) (fun fl sD spD => ?_) (fun _ _ z => z.elim)
          have fin : ∀ {σD : L2.St} {HD : Hp} {Q : Shared → Prop}, Inv (X.suite a ((a, obB) :: (X.pn ++ pins))) [] σD HD sD → (∀ sE, Inv X pins (σD.set i none) HD sE → Q sE) →
              wpAny (model X.prog X.w) X.A (do bindName X.env n .none; unbindBehindTheSuite X.env n p2) (fun _ sE => Q sE) X.xe sD := fun {σD HD Q} SD hq => gone_ok (SD.unsuite good) hN hi hn hq
          cases fl with
          | next =>
            obtain ⟨σD, HD, SD, qD⟩ := spD
            exact fin SD fun _ JE => ⟨_, _, JE, qD⟩
          | brk =>
            obtain ⟨σD, HD, SD, qD⟩ := spD
            exact fin SD fun _ JE => ⟨_, _, JE, qD⟩
          | cont =>
            obtain ⟨σD, HD, SD, qD⟩ := spD
            exact fin SD fun _ JE => ⟨_, _, JE, qD⟩
          | ret rv =>
            obtain ⟨vD, σD, HD, SD, rD, qD⟩ := spD
            exact fin SD fun _ JE => ⟨_, _, _, JE, rD, qD⟩
    exact go hh wish
  · cases fl with
    | next =>
      obtain ⟨σ', H', J', q⟩ := done
      exact wpAny_execs_nil ⟨σ', H', J'.ofTry good, q⟩
    | brk =>
      obtain ⟨σ', H', J', q⟩ := done
      exact ⟨σ', H', J'.ofTry good, q⟩
    | cont =>
      obtain ⟨σ', H', J', q⟩ := done
      exact ⟨σ', H', J'.ofTry good, q⟩
    | ret rv =>
      obtain ⟨v, σ', H', J', r, q⟩ := done
      exact ⟨v, σ', H', J'.ofTry good, r, q⟩
end
end Tc

/-! # K4More -/
namespace Tc
open PySem PySem.Spec PyProof.Rows L2
def plainV : V → Bool
  | .byt _ => false
  | .flt _ => false
  | _ => true
theorem eq_same {A : Around} {s : Shared} {x : V} {u v : Value} (r : RelV x u) (q : RelV x v) (h : plainV x = true) : SeqAt.EqAt A s u v true := by
  cases x with
  | non =>
    obtain rfl : u = Value.none := r
    obtain rfl : v = Value.none := q
    exact .same _
  | bl b =>
    obtain rfl : u = Value.bool b := r
    obtain rfl : v = Value.bool b := q
    exact .same _
  | ref a =>
    obtain rfl : u = Value.ref a := r
    obtain rfl : v = Value.ref a := q
    exact .same _
  | ty n =>
    obtain rfl : u = Value.type n := r
    obtain rfl : v = Value.type n := q
    exact .same _
  | byt b => cases h
  | flt b => cases h
  | int i =>
    obtain ⟨t, e1⟩ := (show ∃ t, u = Value.int i t from r)
    obtain ⟨t', e2⟩ := (show ∃ t, v = Value.int i t from q)
    subst e1 e2
    have e := SeqAt.EqAt.int_int (A := A) (s := s) i t i t'
    simpa using e
  | str z =>
    obtain ⟨t, e1⟩ := (show ∃ t, u = Value.str z t from r)
    obtain ⟨t', e2⟩ := (show ∃ t, v = Value.str z t from q)
    subst e1 e2
    have e := SeqAt.EqAt.str_str (A := A) (s := s) z t z t'
    simpa using e
/-- p != q: two lists whose items are, place by place, the very same -/
def rNeSame (K : PySem.W.Frag) : R2 := fun x y H Q => ∃ (p q : Addr) (xs : List V), x = .ref p ∧ y = .ref q ∧ SqL K H p xs ∧ SqL K H q xs ∧ xs.all plainV = true ∧ Q (.bl false) H
section
variable {X : Cx}
theorem op_neSame (hu : X.A.units + 64 < cLine) : OpR X (compareOp .NotEq) (rNeSame X.K) := by
  intro pins s σ H x y v u Q I rx ry h
  obtain ⟨p, q, xs, rfl, rfl, hp, hq, pl, k⟩ := h
  obtain rfl : v = Value.ref p := rx
  obtain rfl : u = Value.ref q := ry
  obtain ⟨us, ru, lu, _⟩ := I.list hp
  obtain ⟨vs, rv, lv, _⟩ := I.list hq
  have sz : us.length = vs.length := by rw [← ru.length, ← rv.length]
  have base := SeqAt.RcNeAt.lists (A := X.A) (s := s) (e := fun _ => true) lu.isList lv.isList (by simpa using sz) (by omega) (fun j h1 h2 => by
    have h1' : j < us.length := by simpa using h1
    have h2' : j < vs.length := by simpa using h2
    have hx : j < xs.length := by rw [ru.length]; exact h1'
    obtain ⟨a, ea, ra⟩ := Vals.get (i := j) ru (List.getElem?_eq_getElem hx)
    obtain ⟨b, eb, rb⟩ := Vals.get (i := j) rv (List.getElem?_eq_getElem hx)
    have ea' : us[j] = a := Option.some.inj ((List.getElem?_eq_getElem h1').symm.trans ea)
    have eb' : vs[j] = b := Option.some.inj ((List.getElem?_eq_getElem h2').symm.trans eb)
    have pj : plainV xs[j] = true := List.all_eq_true.mp pl _ (List.getElem_mem hx)
    have := eq_same (A := X.A.in1) (s := s) ra rb pj
    simpa [ea', eb'] using this)
  have tt : (!(List.range us.toArray.size).all fun _ => true) = false := by simp
  refine base X.prog X.w X.xe _ ?_
  rw [tt]
  exact ⟨.bl false, H, I, rfl, k⟩
end
/-! ## a written dict with whole numbers as keys -/
def litD (l : List (Int × Int × Tok × Tok)) : Array DictEntry := (l.map fun p => ⟨hashInt p.1, .int p.1 p.2.2.1, .int p.2.1 p.2.2.2⟩).toArray
/-- the written part holds such a dict at a -/
def KInts (K : PySem.W.Frag) (a : Addr) (l : List (Int × Int × Tok × Tok)) : Prop := ∃ n, K.lookup a = some ⟨.type "dict", none, .dict (litD l) n, #[]⟩
def rIxI (K : PySem.W.Frag) (l : List (Int × Int × Tok × Tok)) : R2 := fun x y H Q => ∃ a k r, x = .ref a ∧ y = .int k ∧ KInts K a l ∧ (l.lookup k).map (·.1) = some r ∧ Q (.int r) H
section
variable {X : Cx}
theorem find_lit (k : Int) : ∀ l : List (Int × Int × Tok × Tok), findBy Value.isInt (litD l) k = (l.lookup k).map fun p => Value.int p.1 p.2.2
  | [] => rfl
  | (i, r, t, u) :: l => by
    have ih := find_lit k l
    unfold findBy litD at ih ⊢
    rw [List.find?_toArray] at ih ⊢
    rw [List.map_cons, List.find?_cons]
    by_cases e : k = i
    · subst e
      simp [Value.isInt, List.lookup]
    · have e1 : Value.isInt k (Value.int i t) = false := by
        simp [Value.isInt]
        first | exact fun z => e z.symm | exact e | omega
      have e2 : (k == i) = false := by simpa using e
      simp only [e1, List.lookup, e2]
      exact ih
theorem ix_kints (l : List (Int × Int × Tok × Tok)) : IxR X (rIxI X.K l) := by
  intro value slice pins s σ H x y v u Q I rx ry h hs
  obtain ⟨a, k, r, rfl, rfl, ⟨n, hl⟩, e, q⟩ := h
  obtain rfl : v = Value.ref a := rx
  obtain ⟨t, rfl⟩ := (show ∃ t, u = Value.int k t from ry)
  have hm : s.heap.MapOf (intKind X.prog X.w) a (fun j => findBy Value.isInt (litD l) j) := by
    refine ⟨_, litD l, n, I.kIn _ _ hl, ⟨rfl, rfl, rfl⟩, rfl, fun d hd => ?_, fun _ => rfl⟩
    have hd' : d ∈ (litD l).toList := Array.mem_toList_iff.mpr hd
    unfold litD at hd'
    simp only [List.mem_map] at hd'
    obtain ⟨p, _, rfl⟩ := hd'
    exact ⟨p.1, by simp [intKind, Value.isInt], rfl⟩
  cases e2 : l.lookup k with
  | none =>
    rw [e2] at e
    cases e
  | some p =>
    rw [e2] at e
    have e' : p.1 = r := Option.some.inj e
    have hv : findBy Value.isInt (litD l) k = some (Value.int p.1 p.2.2) := by
      rw [find_lit, e2]
      rfl
    subst e'
    exact tail_any hm.typeIs slot_dict_getitem.lookup (wpAny_getItem_of (by simp [intKind, Value.isInt]) hm hv ⟨.int p.1, H, I.tok _, ⟨_, rfl⟩, q⟩) hs
end
/-! ## the law's own call, where the guards are known -/
/-- a def of the text at one call -/
theorem fn_here {CX : CXT} {P : Program} {w : World} {K : PySem.W.Frag} {mg : Str → Option Value} {base : Heap} {k : Nat} {x qual : Str} {st : Stmt} {f : Addr} {fd : FuncData} {N ps : List Str}
    (F : Fun K x qual st f fd) (S : FnScope N ps (defScope st)) {A : Around} {outer : List Env} {s : Shared} {H : Hp} {us : List Value} {vs : List V} {Q : VK} {E : XK} {args : Args}
    (room : Room (k + 1) A) (e0 : Env0 P w K mg base A outer s H) (bd : BindsTo s fd args (ps.zip us)) (rv : Vals vs us) (hl : vs.length = ps.length)
    (go : ∀ cdv, Room k (A.deeper (envOfC qual (defScope st) s.heap.objs.size f cdv)) →
      ∃ t, PSs (cxOf CX P w K mg base N qual (defScope st) f cdv A outer s H E) (defBody st) t ∧ t { nx := fun _ H' => Q .non H', rt := Q } (start N vs) H) :
    codeAny (model P w) A (.call (.ref f) args) (CR CX outer P w H s Q E) s := by
  obtain ⟨oc, od, kV, doc, pm, an, cdv, ct, osl, rfl, lk, code⟩ := F.ex
  have KH : K.In s.heap := e0.mod.kin.keeps fun b o e => (e0.bs b o e).1
  have noL : s.heap.NoLimit := e0.mod.nolimit.keeps fun b o e => (e0.bs b o e).1
  have kinds : ∀ y ∈ ps.zip us, (defScope st).names.lookup y.1 = some .local ∨ ((defScope st).names.lookup y.1 = some .cell ∧ ((cellsFrom (s.heap.objs.size + 1) (defScope st).names []).lookup y.1).isSome = true) := by
    rintro ⟨n, v⟩ hy
    rcases S.par n (List.of_mem_zip hy).1 with q | q
    · exact .inl q
    · exact .inr ⟨q, PySem.W.cellsFrom_some _ _ _ (.inl q)⟩
  refine codeAny_call_function room.depth (KH _ _ lk) rfl S.co S.gen rfl (PySem.W.codeRec_of KH code) (bd _ _ _ _ ?_)
  refine wpAny_newFunctionEnv_cells S.kind kinds ?_
  intro env he s1 ic
  subst he
  refine ⟨noL.keeps ic.toInCall.keep, codeAny_func ?_⟩
  obtain ⟨t, ht, hq⟩ := go cdv (room.deeper _)
  have I := inv_start (CX := CX) (N := N) (qual := qual) (f := f) (cd := cdv) (E := E) S room.hd e0 hl rv ic
  refine wpAny_mono (ht.run [] s1 (start N vs) H _ I hq) (fun fl s' done => ?_) fun _ _ z => z
  cases fl with
  | ret u =>
    obtain ⟨v, σ', H', J, r, q⟩ := done
    exact ⟨v, H', J.os, J.bare, J.base, J.hok, r, q⟩
  | next =>
    obtain ⟨σ', H', J, q⟩ := done
    exact ⟨V.non, H', J.os, J.bare, J.base, J.hok, rfl, q⟩
  | brk =>
    obtain ⟨_, _, _, q⟩ := done
    exact q.elim
  | cont =>
    obtain ⟨_, _, _, q⟩ := done
    exact q.elim
/-- what the law's call wants: run over the heap that the top left, with the guards that stand there -/
theorem call_here {P : Program} {w : World} {K : PySem.W.Frag} {mg mb : Str → Option Value} {fa a : Addr} {s₁ : Shared} {us : List Value} {ns : List Int}
    (KH : K.In s₁.heap) (hns : s₁.heap.Ns mainGlobals mg) (hb : s₁.heap.Ns builtinsNs mb) (boot : ∀ x : Str, x ≠ "__name__" → mb x = bootBuiltins x) (noL : s₁.heap.NoLimit) (sysm : SysD s₁.heap) (hg : s₁.gens = #[])
    (ha : s₁.heap.get? a = some { cls := .type "list", data := .seq us.toArray }) (hi : IntsAre us ns) (hl : ns.length ≤ sizeLine)
    (run : ∀ (base : Heap) (H : Hp), K.In base → base.Ns mainGlobals mg → Only H → SqL K H a (ns.map V.int) → Env0 P w K mg base callerA [] s₁ H → SysD base →
      codeAny (model P w) callerA (.call (.ref fa) ⟨[.ref a], []⟩) (CR CX0 [] P w H s₁ (fun v _ => v = .bl true) fun _ _ _ => False) s₁) :
    codeAny (model P w) callerA (.call (.ref fa) ⟨[.ref a], []⟩) (fun r s' => r = .ok (.ret (.bool true)) ∧ OldK s₁.heap s'.heap ∧ s'.os = s₁.os ∧ AllBare s'.gens) s₁ := by
  have rs := vals_ints hi
  have ln := hi.length
  have from_ : ∀ H : Hp, Only H → SqL K H a (ns.map V.int) → HOk P w H s₁.heap → (∀ b, H b ≠ none → b = a) → (H a ≠ none → K.lookup a = none) →
      codeAny (model P w) callerA (.call (.ref fa) ⟨[.ref a], []⟩) (fun r s' => r = .ok (.ret (.bool true)) ∧ OldK s₁.heap s'.heap ∧ s'.os = s₁.os ∧ AllBare s'.gens) s₁ := by
    intro H hO hS hok only notK
    have hid : ∀ {b : Addr} {o : Obj}, s₁.heap.get? b = some o → H b = none → (hidT s₁.heap H).get? b = some o := fun e n => hidT_get e n
    have dicts : ∀ {b : Addr} {o : Obj} {es : Array DictEntry} {ep : Nat}, s₁.heap.get? b = some o → o.data = .dict es ep → H b = none := by
      intro b o es ep e dd
      cases q : H b with
      | none => rfl
      | some z =>
        have eb : b = a := only b (by rw [q]; simp)
        subst eb
        rw [ha] at e
        cases e
        cases dd
    have keepNs : ∀ {b : Addr} {m : Str → Option Value}, s₁.heap.Ns b m → (hidT s₁.heap H).Ns b m := by
      rintro b m ⟨o, es, ep, e, dd, r⟩
      exact ⟨o, es, ep, hid e (dicts e dd), dd, r⟩
    have KB : K.In (hidT s₁.heap H) := by
      intro b o e
      refine hid (KH b o e) ?_
      cases q : H b with
      | none => rfl
      | some z =>
        have eb : b = a := only b (by rw [q]; simp)
        subst eb
        rw [notK (by rw [q]; simp)] at e
        cases e
    obtain ⟨mc, m1, m2⟩ := id noL
    have mod : Mod K mg (hidT s₁.heap H) := ⟨KB, keepNs hns, ⟨mb, keepNs hb, boot⟩, ⟨mc, keepNs m1, m2⟩⟩
    have e0 : Env0 P w K mg (hidT s₁.heap H) callerA [] s₁ H :=
      ⟨rfl, mod, fun b o e => of_hidT e, Nat.le_of_eq (hidT_size _ _), trivial, fun b z => absurd (show b ∈ ([] : List Addr) from z) (by simp), hok, .of_eq hg⟩
    refine codeAny_mono (run _ H KB (keepNs hns) hO hS e0 (let ⟨mm, z⟩ := sysm; ⟨mm, keepNs z⟩)) fun r s' done => ?_
    cases r with
    | error e => exact done.elim
    | ok fl =>
      cases fl with
      | next => exact done.elim
      | brk => exact done.elim
      | cont => exact done.elim
      | ret u =>
        obtain ⟨v, H', os, bare, un, hok', r', q⟩ := done
        have q' : v = .bl true := q
        subst q'
        obtain rfl : u = Value.bool true := r'
        refine ⟨rfl, OldK.of_keep fun b o e => ?_, os, bare⟩
        rcases hO b with z | ⟨ob, xs, z⟩
        · exact un.keep b o e z (by intro y; exact absurd (show b ∈ ([] : List Addr) from y) (by simp)) (by simp)
        · obtain ⟨e1, _⟩ := hok b _ z
          obtain ⟨e2, _⟩ := hok' b _ (un.frzs b ob _ z)
          rw [e] at e1
          cases e1
          exact e2
  cases hk : K.lookup a with
  | some o =>
    have e := KH a o hk
    rw [ha] at e
    cases e
    refine from_ (fun _ => none) (fun _ => .inl rfl) (.inr ⟨_, us.toArray, _, hk, rfl, rfl, rfl, ?_, ?_⟩) ?_ (fun b z => absurd rfl z) fun z => absurd rfl z
    · rw [List.size_toArray, ln]
      exact hl
    · simpa using rs
    · intro b z y
      cases (show (none : Option HO) = some z from y)
  | none =>
    have at_ : ∀ b : Addr, b = a → (fun c : Addr => if c = a then some (HO.frz { cls := .type "list", data := .seq us.toArray } (.lst (ns.map V.int))) else none) b = some (.frz { cls := .type "list", data := .seq us.toArray } (.lst (ns.map V.int))) := fun b e => if_pos e
    have off : ∀ b : Addr, b ≠ a → (fun c : Addr => if c = a then some (HO.frz { cls := .type "list", data := .seq us.toArray } (.lst (ns.map V.int))) else none) b = none := fun b e => if_neg e
    refine from_ (fun c : Addr => if c = a then some (HO.frz { cls := .type "list", data := .seq us.toArray } (.lst (ns.map V.int))) else none) (fun b => ?_) (.inl (.inr ⟨{ cls := .type "list", data := .seq us.toArray }, at_ a rfl⟩)) (fun b z y => ?_) (fun b y => ?_) fun _ => hk
    · by_cases e : b = a
      · exact .inr ⟨_, _, at_ b e⟩
      · exact .inl (off b e)
    · by_cases e : b = a
      · cases (at_ b e).symm.trans y
        subst e
        exact ⟨ha, by rw [List.length_map]; exact hl, us, _, rs, ha⟩
      · cases (off b e).symm.trans y
    · by_cases e : b = a
      · exact e
      · exact absurd (off b e) y
end Tc

/-! # K4Text -/
namespace Tc
open PySem PySem.Spec PyProof.Rows L2
def top (i : Nat) : Stmt := PySem.Challenge.pw_threecounts_k04_widths_and_items.main.body.getD i (.Pass ⟨0, 0, 0, 0⟩)
abbrev s_is_integer : Stmt := top 9
theorem sc_is_integer : FnScope ["value", "low", "high"] ["value", "low", "high"] (defScope s_is_integer) := ⟨rfl, rfl, rfl, by decide +kernel, rfl, by decide +kernel, by decide +kernel⟩
abbrev s_is_whole : Stmt := top 10
theorem sc_is_whole : FnScope ["value"] ["value"] (defScope s_is_whole) := ⟨rfl, rfl, rfl, by decide +kernel, rfl, by decide +kernel, by decide +kernel⟩
abbrev s_is_char : Stmt := top 11
theorem sc_is_char : FnScope ["value"] ["value"] (defScope s_is_char) := ⟨rfl, rfl, rfl, by decide +kernel, rfl, by decide +kernel, by decide +kernel⟩
abbrev s_is_kind : Stmt := top 12
theorem sc_is_kind : FnScope ["value"] ["value"] (defScope s_is_kind) := ⟨rfl, rfl, rfl, by decide +kernel, rfl, by decide +kernel, by decide +kernel⟩
abbrev s_width : Stmt := top 21
theorem sc_width : FnScope ["char", "kind"] ["char", "kind"] (defScope s_width) := ⟨rfl, rfl, rfl, by decide +kernel, rfl, by decide +kernel, by decide +kernel⟩
abbrev s_items : Stmt := top 22
theorem sc_items : FnScope ["char", "kind"] ["char", "kind"] (defScope s_items) := ⟨rfl, rfl, rfl, by decide +kernel, rfl, by decide +kernel, by decide +kernel⟩
abbrev s_check_char : Stmt := top 23
theorem sc_check_char : FnScope ["char"] ["char"] (defScope s_check_char) := ⟨rfl, rfl, rfl, by decide +kernel, rfl, by decide +kernel, by decide +kernel⟩
abbrev s_check_kind : Stmt := top 24
theorem sc_check_kind : FnScope ["kind"] ["kind"] (defScope s_check_kind) := ⟨rfl, rfl, rfl, by decide +kernel, rfl, by decide +kernel, by decide +kernel⟩
abbrev s_char_width : Stmt := top 25
theorem sc_char_width : FnScope ["char", "kind"] ["char", "kind"] (defScope s_char_width) := ⟨rfl, rfl, rfl, by decide +kernel, rfl, by decide +kernel, by decide +kernel⟩
abbrev s_byte_width : Stmt := top 26
theorem sc_byte_width : FnScope ["char"] ["char"] (defScope s_byte_width) := ⟨rfl, rfl, rfl, by decide +kernel, rfl, by decide +kernel, by decide +kernel⟩
abbrev s_unit_width : Stmt := top 27
theorem sc_unit_width : FnScope ["char"] ["char"] (defScope s_unit_width) := ⟨rfl, rfl, rfl, by decide +kernel, rfl, by decide +kernel, by decide +kernel⟩
abbrev s_char_items : Stmt := top 28
theorem sc_char_items : FnScope ["char", "kind"] ["char", "kind"] (defScope s_char_items) := ⟨rfl, rfl, rfl, by decide +kernel, rfl, by decide +kernel, by decide +kernel⟩
abbrev s_byte_items : Stmt := top 29
theorem sc_byte_items : FnScope ["char", "size", "behind", "rest"] ["char"] (defScope s_byte_items) := ⟨rfl, rfl, rfl, by decide +kernel, rfl, by decide +kernel, by decide +kernel⟩
abbrev s_unit_items : Stmt := top 30
theorem sc_unit_items : FnScope ["char", "rest"] ["char"] (defScope s_unit_items) := ⟨rfl, rfl, rfl, by decide +kernel, rfl, by decide +kernel, by decide +kernel⟩
abbrev s_l_cell : Stmt := top 32
theorem sc_l_cell : FnScope ["_law_script", "_law_index"] ["_law_script", "_law_index"] (defScope s_l_cell) := ⟨rfl, rfl, rfl, by decide +kernel, rfl, by decide +kernel, by decide +kernel⟩
abbrev s_l_bag : Stmt := top 33
theorem sc_l_bag : FnScope ["_law_cell_here"] ["_law_cell_here"] (defScope s_l_bag) := ⟨rfl, rfl, rfl, by decide +kernel, rfl, by decide +kernel, by decide +kernel⟩
abbrev s_l_take : Stmt := top 34
theorem sc_l_take : FnScope ["_law_bag_here", "_law_many", "_law_digit", "_law_mixed"] ["_law_bag_here", "_law_many"] (defScope s_l_take) := ⟨rfl, rfl, rfl, by decide +kernel, rfl, by decide +kernel, by decide +kernel⟩
abbrev s_l_char : Stmt := top 35
theorem sc_l_char : FnScope ["_law_bag_here", "_law_edges", "_law_low", "_law_high"] ["_law_bag_here"] (defScope s_l_char) := ⟨rfl, rfl, rfl, by decide +kernel, rfl, by decide +kernel, by decide +kernel⟩
abbrev s_l_width : Stmt := top 36
theorem sc_l_width : FnScope ["_law_char_here", "_law_kind"] ["_law_char_here", "_law_kind"] (defScope s_l_width) := ⟨rfl, rfl, rfl, by decide +kernel, rfl, by decide +kernel, by decide +kernel⟩
abbrev s_l_items : Stmt := top 37
theorem sc_l_items : FnScope ["_law_char_here", "_law_kind", "_law_found", "_law_rest", "_law_step"] ["_law_char_here", "_law_kind"] (defScope s_l_items) := ⟨rfl, rfl, rfl, by decide +kernel, rfl, by decide +kernel, by decide +kernel⟩
abbrev s_l_caught : Stmt := top 38
theorem sc_l_caught : FnScope ["_law_door", "_law_char_here", "_law_kind", "e"] ["_law_door", "_law_char_here", "_law_kind"] (defScope s_l_caught) := ⟨rfl, rfl, rfl, by decide +kernel, rfl, by decide +kernel, by decide +kernel⟩
abbrev s_law : Stmt := top 39
theorem sc_law : FnScope ["_law_script", "_law_index", "_law_bag_here", "_law_turn", "_law_char_here", "_law_kind", "_law_lap", "_law_found", "_law_odd", "_law_strange", "_law_door"] ["_law_script"] (defScope s_law) := ⟨rfl, rfl, rfl, by decide +kernel, rfl, by decide +kernel, by decide +kernel⟩
abbrev s_InvalidChar : Stmt := inClass (top 2) 0
theorem sc_InvalidChar : FnScope ["self", "value"] ["self", "value"] (defScope s_InvalidChar) := ⟨rfl, rfl, rfl, by decide +kernel, rfl, by decide +kernel, by decide +kernel⟩
abbrev s_InvalidKind : Stmt := inClass (top 3) 0
theorem sc_InvalidKind : FnScope ["self", "value"] ["self", "value"] (defScope s_InvalidKind) := ⟨rfl, rfl, rfl, by decide +kernel, rfl, by decide +kernel, by decide +kernel⟩
/-- where the text's things stand -/
structure Ads where
  a_is_integer : Addr
  a_is_whole : Addr
  a_is_char : Addr
  a_is_kind : Addr
  a_width : Addr
  a_items : Addr
  a_check_char : Addr
  a_check_kind : Addr
  a_char_width : Addr
  a_byte_width : Addr
  a_unit_width : Addr
  a_char_items : Addr
  a_byte_items : Addr
  a_unit_items : Addr
  a_l_cell : Addr
  a_l_bag : Addr
  a_l_take : Addr
  a_l_char : Addr
  a_l_width : Addr
  a_l_items : Addr
  a_l_caught : Addr
  a_law : Addr
  d_is_integer : FuncData
  d_is_whole : FuncData
  d_is_char : FuncData
  d_is_kind : FuncData
  d_width : FuncData
  d_items : FuncData
  d_check_char : FuncData
  d_check_kind : FuncData
  d_char_width : FuncData
  d_byte_width : FuncData
  d_unit_width : FuncData
  d_char_items : FuncData
  d_byte_items : FuncData
  d_unit_items : FuncData
  d_l_cell : FuncData
  d_l_bag : FuncData
  d_l_take : FuncData
  d_l_char : FuncData
  d_l_width : FuncData
  d_l_items : FuncData
  d_l_caught : FuncData
  d_law : FuncData
  C_InvalidChar : Addr
  n_InvalidChar : Addr
  d_InvalidChar : FuncData
  C_InvalidKind : Addr
  n_InvalidKind : Addr
  d_InvalidKind : FuncData
  t_KINDS : Addr
  t_FIRST_BYTES : Addr
/-- what the top has left -/
structure Txt (K : PySem.W.Frag) (mg : Str → Option Value) (A : Ads) : Prop where
  g_is_integer : mg "is_integer" = some (.ref A.a_is_integer)
  F_is_integer : Fun K "is_integer" "is_integer" s_is_integer A.a_is_integer A.d_is_integer
  b_is_integer : Binds K A.d_is_integer ["value", "low", "high"] []
  g_is_whole : mg "is_whole" = some (.ref A.a_is_whole)
  F_is_whole : Fun K "is_whole" "is_whole" s_is_whole A.a_is_whole A.d_is_whole
  b_is_whole : Binds K A.d_is_whole ["value"] []
  g_is_char : mg "is_char" = some (.ref A.a_is_char)
  F_is_char : Fun K "is_char" "is_char" s_is_char A.a_is_char A.d_is_char
  b_is_char : Binds K A.d_is_char ["value"] []
  g_is_kind : mg "is_kind" = some (.ref A.a_is_kind)
  F_is_kind : Fun K "is_kind" "is_kind" s_is_kind A.a_is_kind A.d_is_kind
  b_is_kind : Binds K A.d_is_kind ["value"] []
  g_width : mg "width" = some (.ref A.a_width)
  F_width : Fun K "width" "width" s_width A.a_width A.d_width
  b_width : Binds K A.d_width ["char", "kind"] []
  g_items : mg "items" = some (.ref A.a_items)
  F_items : Fun K "items" "items" s_items A.a_items A.d_items
  b_items : Binds K A.d_items ["char", "kind"] []
  g_check_char : mg "check_char" = some (.ref A.a_check_char)
  F_check_char : Fun K "check_char" "check_char" s_check_char A.a_check_char A.d_check_char
  b_check_char : Binds K A.d_check_char ["char"] []
  g_check_kind : mg "check_kind" = some (.ref A.a_check_kind)
  F_check_kind : Fun K "check_kind" "check_kind" s_check_kind A.a_check_kind A.d_check_kind
  b_check_kind : Binds K A.d_check_kind ["kind"] []
  g_char_width : mg "char_width" = some (.ref A.a_char_width)
  F_char_width : Fun K "char_width" "char_width" s_char_width A.a_char_width A.d_char_width
  b_char_width : Binds K A.d_char_width ["char", "kind"] []
  g_byte_width : mg "byte_width" = some (.ref A.a_byte_width)
  F_byte_width : Fun K "byte_width" "byte_width" s_byte_width A.a_byte_width A.d_byte_width
  b_byte_width : Binds K A.d_byte_width ["char"] []
  g_unit_width : mg "unit_width" = some (.ref A.a_unit_width)
  F_unit_width : Fun K "unit_width" "unit_width" s_unit_width A.a_unit_width A.d_unit_width
  b_unit_width : Binds K A.d_unit_width ["char"] []
  g_char_items : mg "char_items" = some (.ref A.a_char_items)
  F_char_items : Fun K "char_items" "char_items" s_char_items A.a_char_items A.d_char_items
  b_char_items : Binds K A.d_char_items ["char", "kind"] []
  g_byte_items : mg "byte_items" = some (.ref A.a_byte_items)
  F_byte_items : Fun K "byte_items" "byte_items" s_byte_items A.a_byte_items A.d_byte_items
  b_byte_items : Binds K A.d_byte_items ["char"] []
  g_unit_items : mg "unit_items" = some (.ref A.a_unit_items)
  F_unit_items : Fun K "unit_items" "unit_items" s_unit_items A.a_unit_items A.d_unit_items
  b_unit_items : Binds K A.d_unit_items ["char"] []
  g_l_cell : mg "_law_cell" = some (.ref A.a_l_cell)
  F_l_cell : Fun K "_law_cell" "_law_cell" s_l_cell A.a_l_cell A.d_l_cell
  b_l_cell : Binds K A.d_l_cell ["_law_script", "_law_index"] []
  g_l_bag : mg "_law_bag" = some (.ref A.a_l_bag)
  F_l_bag : Fun K "_law_bag" "_law_bag" s_l_bag A.a_l_bag A.d_l_bag
  b_l_bag : Binds K A.d_l_bag ["_law_cell_here"] []
  g_l_take : mg "_law_take" = some (.ref A.a_l_take)
  F_l_take : Fun K "_law_take" "_law_take" s_l_take A.a_l_take A.d_l_take
  b_l_take : Binds K A.d_l_take ["_law_bag_here", "_law_many"] []
  g_l_char : mg "_law_char" = some (.ref A.a_l_char)
  F_l_char : Fun K "_law_char" "_law_char" s_l_char A.a_l_char A.d_l_char
  b_l_char : Binds K A.d_l_char ["_law_bag_here"] []
  g_l_width : mg "_law_width" = some (.ref A.a_l_width)
  F_l_width : Fun K "_law_width" "_law_width" s_l_width A.a_l_width A.d_l_width
  b_l_width : Binds K A.d_l_width ["_law_char_here", "_law_kind"] []
  g_l_items : mg "_law_items" = some (.ref A.a_l_items)
  F_l_items : Fun K "_law_items" "_law_items" s_l_items A.a_l_items A.d_l_items
  b_l_items : Binds K A.d_l_items ["_law_char_here", "_law_kind"] []
  g_l_caught : mg "_law_caught" = some (.ref A.a_l_caught)
  F_l_caught : Fun K "_law_caught" "_law_caught" s_l_caught A.a_l_caught A.d_l_caught
  b_l_caught : Binds K A.d_l_caught ["_law_door", "_law_char_here", "_law_kind"] []
  g_law : mg "law" = some (.ref A.a_law)
  F_law : Fun K "law" "law" s_law A.a_law A.d_law
  g_InvalidChar : mg "InvalidChar" = some (.ref A.C_InvalidChar)
  x_InvalidChar : OexC K A.C_InvalidChar
  f_InvalidChar : XfC K A.C_InvalidChar
  i_InvalidChar : PySem.W.findIn K (.ref A.C_InvalidChar) "__init__" = some (some (.ref A.n_InvalidChar))
  t_InvalidChar : PySem.W.typeIn K (.ref A.n_InvalidChar) = some (.type "function")
  F_InvalidChar : Fun K "__init__" "InvalidChar.__init__" s_InvalidChar A.n_InvalidChar A.d_InvalidChar
  b_InvalidChar : Binds K A.d_InvalidChar ["self", "value"] []
  v_InvalidChar : PySem.W.findIn K (.ref A.C_InvalidChar) "value" = some none
  g_InvalidKind : mg "InvalidKind" = some (.ref A.C_InvalidKind)
  x_InvalidKind : OexC K A.C_InvalidKind
  f_InvalidKind : XfC K A.C_InvalidKind
  i_InvalidKind : PySem.W.findIn K (.ref A.C_InvalidKind) "__init__" = some (some (.ref A.n_InvalidKind))
  t_InvalidKind : PySem.W.typeIn K (.ref A.n_InvalidKind) = some (.type "function")
  F_InvalidKind : Fun K "__init__" "InvalidKind.__init__" s_InvalidKind A.n_InvalidKind A.d_InvalidKind
  b_InvalidKind : Binds K A.d_InvalidKind ["self", "value"] []
  v_InvalidKind : PySem.W.findIn K (.ref A.C_InvalidKind) "value" = some none
  e_InvalidChar_InvalidChar : PySem.W.exmOne K (.ref A.C_InvalidChar) (.ref A.C_InvalidChar) = some true
  e_InvalidChar_InvalidKind : PySem.W.exmOne K (.ref A.C_InvalidChar) (.ref A.C_InvalidKind) = some false
  e_InvalidKind_InvalidChar : PySem.W.exmOne K (.ref A.C_InvalidKind) (.ref A.C_InvalidChar) = some false
  e_InvalidKind_InvalidKind : PySem.W.exmOne K (.ref A.C_InvalidKind) (.ref A.C_InvalidKind) = some true
  c_LAST_CHAR : ∃ t, mg "LAST_CHAR" = some (.int 1114111 t)
  c_FIRST_SURROGATE : ∃ t, mg "FIRST_SURROGATE" = some (.int 55296 t)
  c_LAST_SURROGATE : ∃ t, mg "LAST_SURROGATE" = some (.int 57343 t)
  c_NEXT_BYTE : ∃ t, mg "NEXT_BYTE" = some (.int 128 t)
  c_BYTE_SHARE : ∃ t, mg "BYTE_SHARE" = some (.int 64 t)
  c_FIRST_WIDE : ∃ t, mg "FIRST_WIDE" = some (.int 65536 t)
  c_HIGH_UNIT : ∃ t, mg "HIGH_UNIT" = some (.int 55296 t)
  c_LOW_UNIT : ∃ t, mg "LOW_UNIT" = some (.int 56320 t)
  c_UNIT_SHARE : ∃ t, mg "UNIT_SHARE" = some (.int 1024 t)
  g_KINDS : mg "KINDS" = some (.ref A.t_KINDS)
  s_KINDS : ∀ H : Hp, SqT K H A.t_KINDS [.str "bytes", .str "units", .str "chars"]
  g_FIRST_BYTES : mg "FIRST_BYTES" = some (.ref A.t_FIRST_BYTES)
  s_FIRST_BYTES : ∃ t0 u0 t1 u1 t2 u2 t3 u3 : Tok, KInts K A.t_FIRST_BYTES [(1, 0, t0, u0), (2, 192, t1, u1), (3, 224, t2, u2), (4, 240, t3, u3)]
  z_bool : mg "bool" = none
  z_int : mg "int" = none
  z_isinstance : mg "isinstance" = none
  z_len : mg "len" = none
  z_list : mg "list" = none
  z_max : mg "max" = none
  z_min : mg "min" = none
  z_range : mg "range" = none
  z_repr : mg "repr" = none
  z_str : mg "str" = none
end Tc

/-! # K4A -/
namespace Tc
open PySem PySem.Spec PyProof.Rows L2
section
variable {X : Cx}
theorem pe_cst {x : Str} {i : Int} {pos : Pos} (hg : Gl X x) (h : ∃ t, X.mg x = some (.int i t)) (hd : (x == ("__debug__" : Str)) = false := by decide) : PE X (.Name x pos) (tC (.int i)) := by
  obtain ⟨t, h⟩ := h
  exact pe_glob hg h ⟨t, rfl⟩ hd
theorem pe_ref {x : Str} {a : Addr} {pos : Pos} (hg : Gl X x) (h : X.mg x = some (.ref a)) (hd : (x == ("__debug__" : Str)) = false := by decide) : PE X (.Name x pos) (tC (.ref a)) := pe_glob hg h rfl hd
end
/-! ## values of a known kind -/
inductive Ty (H : Hp) : V → String → Prop
  | non : Ty H .non "NoneType"
  | bl (b : Bool) : Ty H (.bl b) "bool"
  | int (i : Int) : Ty H (.int i) "int"
  | str (x : Str) : Ty H (.str x) "str"
  | lst {a : Addr} {xs : List V} (e : H a = some (.lst xs)) : Ty H (.ref a) "list"
  | tup {a : Addr} {xs : List V} (e : H a = some (.tup xs)) : Ty H (.ref a) "tuple"
  | dct {a : Addr} {kvs : List (Key × V)} (e : H a = some (.dK kvs)) : Ty H (.ref a) "dict"
theorem Ty.x {K : PySem.W.Frag} {H : Hp} {v : V} {t : String} (h : Ty H v t) : TyX K H v (.type t) := by
  cases h with
  | non => exact .base .non
  | bl b => exact .base (.bl b)
  | int i => exact .base (.int i)
  | str x => exact .base (.str x)
  | lst e => exact .base (.lst e)
  | tup e => exact .base (.tup e)
  | dct e => exact .base (.dK e)
theorem Ty.same {H H' : Hp} {v : V} {t : String} (h : Ty H v t) (s : Same H H') : Ty H' v t := by
  cases h with
  | non => exact .non
  | bl b => exact .bl b
  | int i => exact .int i
  | str x => exact .str x
  | lst e => exact .lst (s _ _ e)
  | tup e => exact .tup (s _ _ e)
  | dct e => exact .dct (s _ _ e)
def isBl : V → Bool
  | .bl _ => true
  | _ => false
def isIn : V → Bool
  | .int _ => true
  | .bl _ => true
  | _ => false
def isSt : V → Bool
  | .str _ => true
  | _ => false
section
variable {K : PySem.W.Frag} {H : Hp} {v : V} {t : String}
theorem kit_bool (h : Ty H v t) : PySem.W.kitOne K (.type t) (.type "bool") = some (isBl v) := by
  cases h with
  | non => exact kit_ty (r := false) (by decide +kernel)
  | bl b => exact kit_ty (r := true) (by decide +kernel)
  | int i => exact kit_ty (r := false) (by decide +kernel)
  | str x => exact kit_ty (r := false) (by decide +kernel)
  | lst e => exact kit_ty (r := false) (by decide +kernel)
  | tup e => exact kit_ty (r := false) (by decide +kernel)
  | dct e => exact kit_ty (r := false) (by decide +kernel)
theorem kit_int (h : Ty H v t) : PySem.W.kitOne K (.type t) (.type "int") = some (isIn v) := by
  cases h with
  | non => exact kit_ty (r := false) (by decide +kernel)
  | bl b => exact kit_ty (r := true) (by decide +kernel)
  | int i => exact kit_ty (r := true) (by decide +kernel)
  | str x => exact kit_ty (r := false) (by decide +kernel)
  | lst e => exact kit_ty (r := false) (by decide +kernel)
  | tup e => exact kit_ty (r := false) (by decide +kernel)
  | dct e => exact kit_ty (r := false) (by decide +kernel)
theorem kit_str (h : Ty H v t) : PySem.W.kitOne K (.type t) (.type "str") = some (isSt v) := by
  cases h with
  | non => exact kit_ty (r := false) (by decide +kernel)
  | bl b => exact kit_ty (r := false) (by decide +kernel)
  | int i => exact kit_ty (r := false) (by decide +kernel)
  | str x => exact kit_ty (r := true) (by decide +kernel)
  | lst e => exact kit_ty (r := false) (by decide +kernel)
  | tup e => exact kit_ty (r := false) (by decide +kernel)
  | dct e => exact kit_ty (r := false) (by decide +kernel)
end
/-! ## what the tests tell -/
def inB (v : V) (lo hi : Int) : Bool := match v with
  | .int i => decide (lo ≤ i) && decide (i ≤ hi)
  | _ => false
def chB (v : V) : Bool := match v with
  | .int i => decide (0 ≤ i) && decide (i ≤ 1114111) && !(decide (55296 ≤ i) && decide (i ≤ 57343))
  | _ => false
def kinds : List V := [.str "bytes", .str "units", .str "chars"]
def kdB (v : V) : Bool := match v with
  | .str s => inV (.str s) kinds
  | _ => false
def isIntV : V → Bool
  | .int _ => true
  | _ => false
def spIsWhole : Sp := fun vs H Q _ => ∃ x : V, vs = [x] ∧ (∃ t, Ty H x t) ∧ Q (.bl (isIntV x)) H
def spIsInt : Sp := fun vs H Q _ => ∃ (x : V) (lo hi : Int), vs = [x, .int lo, .int hi] ∧ (∃ t, Ty H x t) ∧ Q (.bl (inB x lo hi)) H
def spIsChar : Sp := fun vs H Q _ => ∃ x : V, vs = [x] ∧ (∃ t, Ty H x t) ∧ Q (.bl (chB x)) H
def spIsKind : Sp := fun vs H Q _ => ∃ x : V, vs = [x] ∧ (∃ t, Ty H x t) ∧ Q (.bl (kdB x)) H
/-- what raising leaves: the error's own dict, new, holds the value; all else as it was -/
def Thrown (C : Addr) (x : V) (H : Hp) (E : XK) : Prop := ∀ (d : Addr) (H' : Hp), Same H H' → H' d = some (.xd [(("value" : Str), x)]) → E (.ref C) (some d) H'
def spCheck (C : Addr) (p : V → Bool) : Sp := fun vs H Q E => ∃ x : V, vs = [x] ∧ (∃ t, Ty H x t) ∧ (p x = true → Q .non H) ∧ (p x = false → Thrown C x H E)
def spInit (C : Addr) : Sp := fun vs H Q _ => ∃ (p : Addr) (x : V), vs = [.ref p, x] ∧ H p = some (exo p C none) ∧ ∀ dx, H dx = none → dx ≠ p → Q .non (upd (upd H dx (exd dx [(("value" : Str), x)])) p (exo p C (some dx)))
section
variable {P : Program} {w : World} {K : PySem.W.Frag} {mg : Str → Option Value} {base : Heap} {A : Ads}
theorem ok_is_whole (T : Txt K mg A) : FnOk P w K mg base CX0 1 A.a_is_whole A.d_is_whole ["value"] spIsWhole := by
  refine T.F_is_whole.ok sc_is_whole (fun vs H Q E h => ?_) (fun cdv A' outer s H vs Q E hr h => ?_)
  · obtain ⟨x, rfl, _⟩ := h
    rfl
  · obtain ⟨x, rfl, ⟨t, ty⟩, q⟩ := h
    refine ⟨_, (pss_one (ps_ret (pe_and (pe_callB call_isi (by rfl) T.z_isinstance (by decide +kernel) (pa_cons (pv 0) (pa_cons (pe_bltn (by rfl) T.z_int (by decide +kernel) (v := .ty "int") rfl) pa_nil))) (pe_one (pe_not (pe_callB call_isi (by rfl) T.z_isinstance (by decide +kernel) (pa_cons (pv 0) (pa_cons (pe_bltn (by rfl) T.z_bool (by decide +kernel) (v := .ty "bool") rfl) pa_nil)))))))), ?_⟩
    refine ⟨_, rfl, x, .ty "int", .type t, .type "int", _, rfl, .ty _, ty.x, kit_int ty, _, rfl, ?_⟩
    cases ty with
    | non => exact q
    | str b => exact q
    | lst z => exact q
    | tup z => exact q
    | dct z => exact q
    | int i => exact ⟨_, rfl, .int i, .ty "bool", .type "int", .type "bool", _, rfl, .ty _, (Ty.int i : Ty H _ _).x, kit_bool (Ty.int i : Ty H _ _), _, rfl, q⟩
    | bl b => exact ⟨_, rfl, .bl b, .ty "bool", .type "bool", .type "bool", _, rfl, .ty _, (Ty.bl b : Ty H _ _).x, kit_bool (Ty.bl b : Ty H _ _), _, rfl, q⟩
theorem ok_is_integer (T : Txt K mg A) : FnOk P w K mg base CX0 2 A.a_is_integer A.d_is_integer ["value", "low", "high"] spIsInt := by
  have G_is_whole : FnOk P w K mg base CX0 1 A.a_is_whole A.d_is_whole ["value"] spIsWhole := ok_is_whole T
  refine T.F_is_integer.ok sc_is_integer (fun vs H Q E h => ?_) (fun cdv A' outer s H vs Q E hr h => ?_)
  · obtain ⟨x, lo, hi, rfl, _⟩ := h
    rfl
  · obtain ⟨x, lo, hi, rfl, ⟨t, ty⟩, q⟩ := h
    refine ⟨_, (pss_one (ps_ret (pe_and (pe_call G_is_whole (hr.mono (by decide)) (by rfl) T.g_is_whole T.F_is_whole.kp T.b_is_whole .nil pass0 (pa_cons (pv 0) pa_nil)) (pe_one (pe_chain op_le op_le (pv 1) (pv 0) (pv 2)))))), ?_⟩
    refine ⟨_, rfl, x, rfl, ⟨t, ty⟩, _, rfl, ?_⟩
    cases ty with
    | non => exact q
    | bl b => exact q
    | str z => exact q
    | lst z => exact q
    | tup z => exact q
    | dct z => exact q
    | int i =>
      refine ⟨_, rfl, _, rfl, _, _, rfl, rfl, _, rfl, ?_⟩
      refine ite2 (fun e1 => ?_) (fun e1 => ?_)
      · refine ⟨_, rfl, _, _, rfl, rfl, ?_⟩
        have z : inB (.int i) lo hi = decide (i ≤ hi) := by
          show (decide (lo ≤ i) && decide (i ≤ hi)) = _
          rw [e1]
          rfl
        rw [z] at q
        exact q
      · have z : inB (.int i) lo hi = false := by
          show (decide (lo ≤ i) && decide (i ≤ hi)) = _
          rw [Bool.eq_false_iff.mpr e1]
          rfl
        rw [z] at q
        exact q
theorem ok_is_char (T : Txt K mg A) : FnOk P w K mg base CX0 3 A.a_is_char A.d_is_char ["value"] spIsChar := by
  have G_is_integer : FnOk P w K mg base CX0 2 A.a_is_integer A.d_is_integer ["value", "low", "high"] spIsInt := ok_is_integer T
  refine T.F_is_char.ok sc_is_char (fun vs H Q E h => ?_) (fun cdv A' outer s H vs Q E hr h => ?_)
  · obtain ⟨x, rfl, _⟩ := h
    rfl
  · obtain ⟨x, rfl, ⟨t, ty⟩, q⟩ := h
    refine ⟨_, (pss_cons (ps_if (pt_not (pt_val (pe_call G_is_integer (hr.mono (by decide)) (by rfl) T.g_is_integer T.F_is_integer.kp T.b_is_integer .nil pass0 (pa_cons (pv 0) (pa_cons pe_int (pa_cons (pe_cst (by rfl) T.c_LAST_CHAR) pa_nil)))))) (pss_one (ps_ret pe_bl)) pss_nil) (pss_one (ps_ret (pe_not (pe_chain op_le op_le (pe_cst (by rfl) T.c_FIRST_SURROGATE) (pv 0) (pe_cst (by rfl) T.c_LAST_SURROGATE)))))), ?_⟩
    refine ⟨_, rfl, x, 0, 1114111, rfl, ⟨t, ty⟩, _, rfl, ?_⟩
    cases ty with
    | non => exact q
    | bl b => exact q
    | str z => exact q
    | lst z => exact q
    | tup z => exact q
    | dct z => exact q
    | int i =>
      refine ite2 (fun e => ?_) (fun e => ?_)
      · have e' : (decide (0 ≤ i) && decide (i ≤ 1114111)) = false := by
          have e2 : (!(decide (0 ≤ i) && decide (i ≤ 1114111))) = true := e
          cases z : (decide (0 ≤ i) && decide (i ≤ 1114111)) with
          | false => rfl
          | true =>
            rw [z] at e2
            cases e2
        have z : chB (.int i) = false := by
          show (decide (0 ≤ i) && decide (i ≤ 1114111) && !(decide (55296 ≤ i) && decide (i ≤ 57343))) = _
          rw [e']
          rfl
        rw [z] at q
        exact q
      · have e' : (decide (0 ≤ i) && decide (i ≤ 1114111)) = true := by
          have e2 : ¬ (!(decide (0 ≤ i) && decide (i ≤ 1114111))) = true := e
          cases z : (decide (0 ≤ i) && decide (i ≤ 1114111)) with
          | true => rfl
          | false =>
            rw [z] at e2
            exact absurd rfl e2
        have z : chB (.int i) = !(decide (55296 ≤ i) && decide (i ≤ 57343)) := by
          show (decide (0 ≤ i) && decide (i ≤ 1114111) && !(decide (55296 ≤ i) && decide (i ≤ 57343))) = _
          rw [e']
          rfl
        rw [z] at q
        refine ⟨_, rfl, _, _, rfl, rfl, _, rfl, ?_⟩
        refine ite2 (fun e1 => ?_) (fun e1 => ?_)
        · refine ⟨_, _, rfl, rfl, _, rfl, ?_⟩
          rw [e1] at q
          exact q
        · refine ⟨_, rfl, ?_⟩
          rw [Bool.eq_false_iff.mpr e1] at q
          exact q
theorem ok_is_kind (T : Txt K mg A) : FnOk P w K mg base CX0 1 A.a_is_kind A.d_is_kind ["value"] spIsKind := by
  refine T.F_is_kind.ok sc_is_kind (fun vs H Q E h => ?_) (fun cdv A' outer s H vs Q E hr h => ?_)
  · obtain ⟨x, rfl, _⟩ := h
    rfl
  · obtain ⟨x, rfl, ⟨t, ty⟩, q⟩ := h
    refine ⟨_, (pss_one (ps_ret (pe_and (pe_callB call_isi (by rfl) T.z_isinstance (by decide +kernel) (pa_cons (pv 0) (pa_cons (pe_bltn (by rfl) T.z_str (by decide +kernel) (v := .ty "str") rfl) pa_nil))) (pe_one (pe_cmpR op_in_seq (pv 0) (pe_ref (by rfl) T.g_KINDS) (by rfl)))))), ?_⟩
    refine ⟨_, rfl, x, .ty "str", .type t, .type "str", _, rfl, .ty _, ty.x, kit_str ty, _, rfl, ?_⟩
    cases ty with
    | non => exact q
    | bl b => exact q
    | int i => exact q
    | lst z => exact q
    | tup z => exact q
    | dct z => exact q
    | str z => exact ⟨_, rfl, A.t_KINDS, kinds, rfl, .inr (T.s_KINDS H), rfl, rfl, q⟩
theorem ok_InvalidChar (T : Txt K mg A) : FnOk P w K mg base (L2.CX P w) 1 A.n_InvalidChar A.d_InvalidChar ["self", "value"] (spInit A.C_InvalidChar) := by
  refine T.F_InvalidChar.okX sc_InvalidChar (fun vs H Q E h => ?_) (fun cdv A' outer s H vs Q E hr h => ?_)
  · obtain ⟨p, x, rfl, _⟩ := h
    rfl
  · obtain ⟨p, x, rfl, hp, q⟩ := h
    exact ⟨_, pss_one (ps_ost (pv 0) (pv 1)), _, rfl, _, rfl, p, A.C_InvalidChar, rfl, T.x_InvalidChar, T.v_InvalidChar, .inl ⟨hp, fun dx h1 h2 => q dx h1 h2⟩⟩
theorem ok_InvalidKind (T : Txt K mg A) : FnOk P w K mg base (L2.CX P w) 1 A.n_InvalidKind A.d_InvalidKind ["self", "value"] (spInit A.C_InvalidKind) := by
  refine T.F_InvalidKind.okX sc_InvalidKind (fun vs H Q E h => ?_) (fun cdv A' outer s H vs Q E hr h => ?_)
  · obtain ⟨p, x, rfl, _⟩ := h
    rfl
  · obtain ⟨p, x, rfl, hp, q⟩ := h
    exact ⟨_, pss_one (ps_ost (pv 0) (pv 1)), _, rfl, _, rfl, p, A.C_InvalidKind, rfl, T.x_InvalidKind, T.v_InvalidKind, .inl ⟨hp, fun dx h1 h2 => q dx h1 h2⟩⟩
/-- the reading of «raise C(x)» -/
theorem thrown {C : Addr} {x : V} {H : Hp} {E : XK} (h : Thrown C x H E) : ∀ a, H a = none → spInit C [.ref a, x] (upd H a (exo a C none))
    (fun v H2 => v = .non ∧ ∃ (d : Addr) (fs : List (Str × V)), H2 a = some (exo a C (some d)) ∧ H2 d = some (exd d fs) ∧ H d = none ∧ E (.ref C) (some d) (upd (del H2 a) d (.xd fs))) (fun _ _ _ => False) := by
  intro a ha
  refine ⟨a, x, rfl, upd_same, fun dx h1 h2 => ⟨rfl, dx, _, upd_same, ?_, ?_, h dx _ (fun b o e => ?_) upd_same⟩⟩
  · rw [upd_ne h2, upd_same]
  · rw [upd_ne h2] at h1
    exact h1
  · rw [upd_ne h2] at h1
    have n1 : b ≠ dx := fun z => by
      rw [z, h1] at e
      cases e
    have n2 : b ≠ a := fun z => by
      rw [z, ha] at e
      cases e
    rw [upd_ne n1, del_ne n2, upd_ne n2, upd_ne n1, upd_ne n2]
    exact e
theorem ok_check_char (T : Txt K mg A) : FnOk P w K mg base (L2.CX P w) 4 A.a_check_char A.d_check_char ["char"] (spCheck A.C_InvalidChar chB) := by
  have G_is_char : FnOk P w K mg base CX0 3 A.a_is_char A.d_is_char ["value"] spIsChar := ok_is_char T
  have G_InvalidChar : FnOk P w K mg base (L2.CX P w) 1 A.n_InvalidChar A.d_InvalidChar ["self", "value"] (spInit A.C_InvalidChar) := ok_InvalidChar T
  refine T.F_check_char.okX sc_check_char (fun vs H Q E h => ?_) (fun cdv A' outer s H vs Q E hr h => ?_)
  · obtain ⟨x, rfl, _⟩ := h
    rfl
  · obtain ⟨x, rfl, ty, q1, q2⟩ := h
    have hr1 : Room (1 + 1) _ := hr.mono (by decide)
    refine ⟨_, (pss_one (ps_if (pt_not (pt_val (pe_call G_is_char (hr.mono (by decide)) (by rfl) T.g_is_char T.F_is_char.kp T.b_is_char .nil pass0 (pa_cons (pv 0) pa_nil)))) (pss_one (ps_raise rfl (takes_of rfl rfl rfl rfl) (pmk_oex T.x_InvalidChar T.i_InvalidChar T.t_InvalidChar G_InvalidChar hr1 T.b_InvalidChar .nil passL (by rfl) T.g_InvalidChar (pa_cons (pv 0) pa_nil)))) pss_nil)), ?_⟩
    refine ⟨_, rfl, x, rfl, ty, _, rfl, ?_⟩
    refine ite2 (fun e => ?_) (fun e => ?_)
    · have e' : chB x = false := by simpa using e
      exact ⟨_, rfl, (by show 1 ≤ 1000; decide), thrown (q2 e')⟩
    · have e' : chB x = true := by simpa using e
      exact q1 e'
theorem ok_check_kind (T : Txt K mg A) : FnOk P w K mg base (L2.CX P w) 3 A.a_check_kind A.d_check_kind ["kind"] (spCheck A.C_InvalidKind kdB) := by
  have G_is_kind : FnOk P w K mg base CX0 1 A.a_is_kind A.d_is_kind ["value"] spIsKind := ok_is_kind T
  have G_InvalidKind : FnOk P w K mg base (L2.CX P w) 1 A.n_InvalidKind A.d_InvalidKind ["self", "value"] (spInit A.C_InvalidKind) := ok_InvalidKind T
  refine T.F_check_kind.okX sc_check_kind (fun vs H Q E h => ?_) (fun cdv A' outer s H vs Q E hr h => ?_)
  · obtain ⟨x, rfl, _⟩ := h
    rfl
  · obtain ⟨x, rfl, ty, q1, q2⟩ := h
    have hr1 : Room (1 + 1) _ := hr
    refine ⟨_, (pss_one (ps_if (pt_not (pt_val (pe_call G_is_kind (hr.mono (by decide)) (by rfl) T.g_is_kind T.F_is_kind.kp T.b_is_kind .nil pass0 (pa_cons (pv 0) pa_nil)))) (pss_one (ps_raise rfl (takes_of rfl rfl rfl rfl) (pmk_oex T.x_InvalidKind T.i_InvalidKind T.t_InvalidKind G_InvalidKind hr1 T.b_InvalidKind .nil passL (by rfl) T.g_InvalidKind (pa_cons (pv 0) pa_nil)))) pss_nil)), ?_⟩
    refine ⟨_, rfl, x, rfl, ty, _, rfl, ?_⟩
    refine ite2 (fun e => ?_) (fun e => ?_)
    · have e' : kdB x = false := by simpa using e
      exact ⟨_, rfl, (by show 1 ≤ 1000; decide), thrown (q2 e')⟩
    · have e' : kdB x = true := by simpa using e
      exact q1 e'
end
end Tc

/-! # K4B -/
namespace Tc
open PySem PySem.Spec PyProof.Rows L2
/-! ## the mathematics of one character -/
def bytesN (c : Int) : Nat := if c < 128 then 1 else if c < 2048 then 2 else if c < 65536 then 3 else 4
def unitsN (c : Int) : Nat := if c < 65536 then 1 else 2
/-- what is left of c, divided by 64 i times; the bytes behind the first one -/
def left : Nat → Int → Int
  | 0, c => c
  | i + 1, c => left i c / 64
def behind : Nat → Int → List Int
  | 0, _ => []
  | i + 1, c => (128 + left i c % 64) :: behind i c
def first : Nat → Int
  | 1 => 0
  | 2 => 192
  | 3 => 224
  | _ => 240
def bytesOf (c : Int) : List Int := (first (bytesN c) + left (bytesN c - 1) c) :: behind (bytesN c - 1) c
def unitsOf (c : Int) : List Int := if c < 65536 then [c] else [55296 + (c - 65536) / 1024, 56320 + (c - 65536) % 1024]
def widthOf (c : Int) (k : Str) : Nat := if k = "bytes" then bytesN c else if k = "units" then unitsN c else 1
def itemsOf (c : Int) (k : Str) : List Int := if k = "bytes" then bytesOf c else if k = "units" then unitsOf c else [c]
theorem behind_len : ∀ (i : Nat) (c : Int), (behind i c).length = i
  | 0, _ => rfl
  | i + 1, c => by rw [behind, List.length_cons, behind_len i c]
theorem left_bound : ∀ (i : Nat) {c : Int}, 0 ≤ c → 0 ≤ left i c ∧ left i c ≤ c
  | 0, c, h => ⟨h, Int.le_refl _⟩
  | i + 1, c, h => by
    obtain ⟨h1, h2⟩ := left_bound i h
    unfold left
    omega
theorem bytesN_ge (c : Int) : 1 ≤ bytesN c ∧ bytesN c ≤ 4 := by
  unfold bytesN
  repeat' split
  all_goals omega
theorem items_len (c : Int) (k : Str) : (itemsOf c k).length = widthOf c k := by
  unfold itemsOf widthOf
  split
  · unfold bytesOf
    rw [List.length_cons, behind_len]
    have := bytesN_ge c
    omega
  · split
    · unfold unitsOf unitsN
      split <;> rfl
    · rfl
theorem width_le (c : Int) (k : Str) : widthOf c k ≤ 4 := by
  unfold widthOf unitsN
  have := bytesN_ge c
  repeat' split
  all_goals omega
theorem behind_mem : ∀ (i : Nat) {c : Int}, 0 ≤ c → ∀ z ∈ behind i c, 0 ≤ z ∧ z < 1000
  | 0, c, _, z, m => by cases m
  | i + 1, c, h, z, m => by
    rcases List.mem_cons.mp m with e | e
    · have := (left_bound i h).1
      omega
    · exact behind_mem i h z e
theorem items_mem {c : Int} {k : Str} (h : 0 ≤ c) (h2 : c ≤ 1114111) : ∀ z ∈ itemsOf c k, 0 ≤ z ∧ z < 10000000 := by
  intro z m
  unfold itemsOf at m
  split at m
  · unfold bytesOf at m
    rcases List.mem_cons.mp m with e | e
    · have h3 := left_bound (bytesN c - 1) h
      have h4 : 0 ≤ first (bytesN c) ∧ first (bytesN c) ≤ 240 := by
        unfold first
        split <;> omega
      omega
    · have := behind_mem _ h z e
      omega
  · split at m
    · unfold unitsOf at m
      split at m
      · have e := List.mem_singleton.mp m
        omega
      · rcases List.mem_cons.mp m with e | e
        · omega
        · have e := List.mem_singleton.mp e
          omega
    · have e := List.mem_singleton.mp m
      omega
/-! ## the program's counts and items -/
def intL (l : List Int) : List V := l.map V.int
def spW (f : Int → Int) : Sp := fun vs H Q _ => ∃ c : Int, vs = [.int c] ∧ Q (.int (f c)) H
def spWk : Sp := fun vs H Q _ => ∃ (c : Int) (k : Str), vs = [.int c, .str k] ∧ Q (.int (widthOf c k)) H
/-- a new list -/
def Gives (H : Hp) (l : List V) (Q : VK) : Prop := ∀ (p : Addr) (H' : Hp), H p = none → Same H H' → H' p = some (.lst l) → Q (.ref p) H'
def spI (f : Int → List Int) : Sp := fun vs H Q _ => ∃ c : Int, vs = [.int c] ∧ 0 ≤ c ∧ Gives H (intL (f c)) Q
def spIk : Sp := fun vs H Q _ => ∃ (c : Int) (k : Str), vs = [.int c, .str k] ∧ 0 ≤ c ∧ Gives H (intL (itemsOf c k)) Q
theorem same_new {H : Hp} {p : Addr} {o : HO} (h : H p = none) : Same H (upd H p o) := fun b u e => by
  rw [upd_ne (ne_of_none e h)]
  exact e
theorem fdiv_pos {a b : Int} (hb : 0 ≤ b) : a.fdiv b = a / b := Int.fdiv_eq_ediv_of_nonneg a hb
theorem fmod_pos {a b : Int} (hb : 0 ≤ b) : a.fmod b = a % b := Int.fmod_eq_emod_of_nonneg a hb
/-- free behind two new objects is free ahead of them -/
theorem free2 {H H1 : Hp} {l l2 : Addr} {o : HO} (s : Same H H1) (h : upd H1 l o l2 = none) : H l2 = none := by
  by_cases e : l2 = l
  · rw [e, upd_same] at h
    cases h
  · rw [upd_ne e] at h
    exact s.free h
section
variable {P : Program} {w : World} {K : PySem.W.Frag} {mg : Str → Option Value} {base : Heap} {A : Ads}
theorem ok_byte_width (T : Txt K mg A) : FnOk P w K mg base CX0 1 A.a_byte_width A.d_byte_width ["char"] (spW fun c => bytesN c) := by
  refine T.F_byte_width.ok sc_byte_width (fun vs H Q E h => ?_) (fun cdv A' outer s H vs Q E hr h => ?_)
  · obtain ⟨c, rfl, _⟩ := h
    rfl
  · obtain ⟨c, rfl, q⟩ := h
    have q : Q (.int ((bytesN c : Nat) : Int)) H := q
    refine ⟨_, (pss_cons (ps_if (pt_cmpR op_lt (pv 0) pe_int (nomark _)) (pss_one (ps_ret pe_int)) pss_nil) (pss_cons (ps_if (pt_cmpR op_lt (pv 0) pe_int (nomark _)) (pss_one (ps_ret pe_int)) pss_nil) (pss_cons (ps_if (pt_cmpR op_lt (pv 0) (pe_cst (by rfl) T.c_FIRST_WIDE) (nomark _)) (pss_one (ps_ret pe_int)) pss_nil) (pss_one (ps_ret pe_int))))), ?_⟩
    refine ⟨_, rfl, _, _, rfl, rfl, _, rfl, ?_⟩
    refine ite2 (fun e => ?_) (fun e => ?_)
    · have e1 : c < 128 := of_decide_eq_true e
      have z : bytesN c = 1 := if_pos e1
      rw [z] at q
      exact q
    have e1 : ¬ c < 128 := fun y => e (decide_eq_true y)
    refine ⟨_, rfl, _, _, rfl, rfl, _, rfl, ?_⟩
    refine ite2 (fun e => ?_) (fun e => ?_)
    · have e2 : c < 2048 := of_decide_eq_true e
      have z : bytesN c = 2 := by unfold bytesN; rw [if_neg e1, if_pos e2]
      rw [z] at q
      exact q
    have e2 : ¬ c < 2048 := fun y => e (decide_eq_true y)
    refine ⟨_, rfl, _, _, rfl, rfl, _, rfl, ?_⟩
    refine ite2 (fun e => ?_) (fun e => ?_)
    · have e3 : c < 65536 := of_decide_eq_true e
      have z : bytesN c = 3 := by unfold bytesN; rw [if_neg e1, if_neg e2, if_pos e3]
      rw [z] at q
      exact q
    have e3 : ¬ c < 65536 := fun y => e (decide_eq_true y)
    have z : bytesN c = 4 := by unfold bytesN; rw [if_neg e1, if_neg e2, if_neg e3]
    rw [z] at q
    exact q
theorem ok_unit_width (T : Txt K mg A) : FnOk P w K mg base CX0 1 A.a_unit_width A.d_unit_width ["char"] (spW fun c => unitsN c) := by
  refine T.F_unit_width.ok sc_unit_width (fun vs H Q E h => ?_) (fun cdv A' outer s H vs Q E hr h => ?_)
  · obtain ⟨c, rfl, _⟩ := h
    rfl
  · obtain ⟨c, rfl, q⟩ := h
    have q : Q (.int ((unitsN c : Nat) : Int)) H := q
    refine ⟨_, (pss_cons (ps_if (pt_cmpR op_lt (pv 0) (pe_cst (by rfl) T.c_FIRST_WIDE) (nomark _)) (pss_one (ps_ret pe_int)) pss_nil) (pss_one (ps_ret pe_int))), ?_⟩
    refine ⟨_, rfl, _, _, rfl, rfl, _, rfl, ?_⟩
    refine ite2 (fun e => ?_) (fun e => ?_)
    · have e1 : c < 65536 := of_decide_eq_true e
      have z : unitsN c = 1 := if_pos e1
      rw [z] at q
      exact q
    have e1 : ¬ c < 65536 := fun y => e (decide_eq_true y)
    have z : unitsN c = 2 := if_neg e1
    rw [z] at q
    exact q
theorem dec_str {a b : Str} : decide (V.str a = V.str b) = decide (a = b) := by
  by_cases e : a = b
  · rw [e, decide_eq_true rfl, decide_eq_true rfl]
  · rw [decide_eq_false e, decide_eq_false fun z => e (V.str.inj z)]
theorem ok_char_width (T : Txt K mg A) : FnOk P w K mg base CX0 2 A.a_char_width A.d_char_width ["char", "kind"] spWk := by
  have G_byte_width : FnOk P w K mg base CX0 1 A.a_byte_width A.d_byte_width ["char"] (spW fun c => bytesN c) := ok_byte_width T
  have G_unit_width : FnOk P w K mg base CX0 1 A.a_unit_width A.d_unit_width ["char"] (spW fun c => unitsN c) := ok_unit_width T
  refine T.F_char_width.ok sc_char_width (fun vs H Q E h => ?_) (fun cdv A' outer s H vs Q E hr h => ?_)
  · obtain ⟨c, k, rfl, _⟩ := h
    rfl
  · obtain ⟨c, k, rfl, q⟩ := h
    refine ⟨_, (pss_cons (ps_if (pt_cmpR op_eq (pv 1) pe_str (nomark _)) (pss_one (ps_ret (pe_call G_byte_width (hr.mono (by decide)) (by rfl) T.g_byte_width T.F_byte_width.kp T.b_byte_width .nil pass0 (pa_cons (pv 0) pa_nil)))) pss_nil) (pss_cons (ps_if (pt_cmpR op_eq (pv 1) pe_str (nomark _)) (pss_one (ps_ret (pe_call G_unit_width (hr.mono (by decide)) (by rfl) T.g_unit_width T.F_unit_width.kp T.b_unit_width .nil pass0 (pa_cons (pv 0) pa_nil)))) pss_nil) (pss_one (ps_ret pe_int)))), ?_⟩
    refine ⟨_, rfl, rfl, _, rfl, ?_⟩
    refine ite2 (fun e => ?_) (fun e => ?_)
    · have e1 : k = "bytes" := V.str.inj (of_decide_eq_true e)
      have z : widthOf c k = bytesN c := if_pos e1
      rw [z] at q
      exact ⟨_, rfl, c, rfl, q⟩
    have e1 : ¬ k = "bytes" := fun y => e (decide_eq_true (congrArg V.str y))
    refine ⟨_, rfl, rfl, _, rfl, ?_⟩
    refine ite2 (fun e => ?_) (fun e => ?_)
    · have e2 : k = "units" := V.str.inj (of_decide_eq_true e)
      have z : widthOf c k = unitsN c := by unfold widthOf; rw [if_neg e1, if_pos e2]
      rw [z] at q
      exact ⟨_, rfl, c, rfl, q⟩
    have e2 : ¬ k = "units" := fun y => e (decide_eq_true (congrArg V.str y))
    have z : widthOf c k = 1 := by unfold widthOf; rw [if_neg e1, if_neg e2]
    rw [z] at q
    exact q
theorem ok_unit_items (T : Txt K mg A) : FnOk P w K mg base CX0 1 A.a_unit_items A.d_unit_items ["char"] (spI unitsOf) := by
  refine T.F_unit_items.ok sc_unit_items (fun vs H Q E h => ?_) (fun cdv A' outer s H vs Q E hr h => ?_)
  · obtain ⟨c, rfl, _⟩ := h
    rfl
  · obtain ⟨c, rfl, c0, q⟩ := h
    refine ⟨_, (pss_cons (ps_if (pt_cmpR op_lt (pv 0) (pe_cst (by rfl) T.c_FIRST_WIDE) (nomark _)) (pss_one (ps_ret (pe_lst (pa_cons (pv 0) pa_nil)))) pss_nil) (pss_cons (ps_set (i := 1) sc_unit_items.nd rfl (Or.inl rfl) (pe_op op_sub (pv 0) (pe_cst (by rfl) T.c_FIRST_WIDE))) (pss_one (ps_ret (pe_lst (pa_cons (pe_op op_add (pe_cst (by rfl) T.c_HIGH_UNIT) (pe_op op_fdivN (pv 1) (pe_cst (by rfl) T.c_UNIT_SHARE))) (pa_cons (pe_op op_add (pe_cst (by rfl) T.c_LOW_UNIT) (pe_op op_modN (pv 1) (pe_cst (by rfl) T.c_UNIT_SHARE))) pa_nil))))))), ?_⟩
    refine ⟨_, rfl, _, _, rfl, rfl, _, rfl, ?_⟩
    refine ite2 (fun e => ?_) (fun e => ?_)
    · have e1 : c < 65536 := of_decide_eq_true e
      have z : unitsOf c = [c] := if_pos e1
      rw [z] at q
      exact ⟨_, rfl, (by show 1 ≤ sizeLine; decide), fun p hp => q p _ hp (same_new hp) upd_same⟩
    have e1 : ¬ c < 65536 := fun y => e (decide_eq_true y)
    have z : unitsOf c = [55296 + (c - 65536) / 1024, 56320 + (c - 65536) % 1024] := if_neg e1
    rw [z] at q
    refine ⟨_, rfl, _, _, rfl, rfl, ?_⟩
    refine ⟨_, rfl, _, _, rfl, rfl, ⟨by decide, by decide⟩, _, _, rfl, rfl, _, rfl, _, _, rfl, rfl, (show (1024 : Int) ≠ 0 by decide), _, _, rfl, rfl, (by show 2 ≤ sizeLine; decide), fun p hp => ?_⟩
    refine q p _ hp (same_new hp) ?_
    rw [upd_same]
    show some (HO.lst [V.int (55296 + (c - 65536).fdiv 1024), V.int (56320 + (c - 65536).fmod 1024)]) = _
    rw [fdiv_pos (by decide), fmod_pos (by decide)]
    rfl
theorem first_look (c : Int) (t0 u0 t1 u1 t2 u2 t3 u3 : Tok) : (List.lookup ((bytesN c : Nat) : Int) [((1 : Int), (0 : Int), t0, u0), (2, 192, t1, u1), (3, 224, t2, u2), (4, 240, t3, u3)]).map (·.1) = some (first (bytesN c)) := by
  have h := bytesN_ge c
  generalize bytesN c = n at h
  have : n = 1 ∨ n = 2 ∨ n = 3 ∨ n = 4 := by omega
  rcases this with rfl | rfl | rfl | rfl <;> rfl
theorem ok_byte_items (T : Txt K mg A) : FnOk P w K mg base CX0 2 A.a_byte_items A.d_byte_items ["char"] (spI bytesOf) := by
  have G_byte_width : FnOk P w K mg base CX0 1 A.a_byte_width A.d_byte_width ["char"] (spW fun c => bytesN c) := ok_byte_width T
  refine T.F_byte_items.ok sc_byte_items (fun vs H Q E h => ?_) (fun cdv A' outer s H vs Q E hr h => ?_)
  · obtain ⟨c, rfl, _⟩ := h
    rfl
  · obtain ⟨c, rfl, c0, q⟩ := h
    obtain ⟨t0, u0, t1, u1, t2, u2, t3, u3, hk⟩ := T.s_FIRST_BYTES
    have hn := bytesN_ge c
    refine ⟨_, (pss_cons (ps_set (i := 1) sc_byte_items.nd rfl (Or.inl rfl) (pe_call G_byte_width (hr.mono (by decide)) (by rfl) T.g_byte_width T.F_byte_width.kp T.b_byte_width .nil pass0 (pa_cons (pv 0) pa_nil))) (pss_cons (ps_set (i := 2) sc_byte_items.nd rfl (Or.inl rfl) (pe_lst pa_nil)) (pss_cons (ps_set (i := 3) sc_byte_items.nd rfl (Or.inl rfl) (pv 0)) (pss_cons (ps_while PassesOwn.never (pt_cmpR op_lt (pe_callB call_len (by rfl) T.z_len (by decide +kernel) (pa_cons (pv 2) pa_nil)) (pe_op op_sub (pv 1) pe_int) (nomark _)) (pss_cons (ps_set (i := 2) sc_byte_items.nd rfl (Or.inl rfl) (pe_op op_cat (pe_lst (pa_cons (pe_op op_add (pe_cst (by rfl) T.c_NEXT_BYTE) (pe_op op_modN (pv 3) (pe_cst (by rfl) T.c_BYTE_SHARE))) pa_nil)) (pv 2))) (pss_one (ps_set (i := 3) sc_byte_items.nd rfl (Or.inl rfl) (pe_op op_fdivN (pv 3) (pe_cst (by rfl) T.c_BYTE_SHARE)))))) (pss_one (ps_ret (pe_op op_cat (pe_lst (pa_cons (pe_op op_add (pe_ix (ix_kints [(1, 0, t0, u0), (2, 192, t1, u1), (3, 224, t2, u2), (4, 240, t3, u3)]) (pe_ref (by rfl) T.g_FIRST_BYTES) (pv 1) (fun _ _ => rfl)) (pv 3)) pa_nil)) (pv 2)))))))), ?_⟩
    refine ⟨_, rfl, c, rfl, ?_⟩
    refine ⟨Nat.zero_le _, fun p hp => ?_⟩
    refine ⟨_, rfl, ?_⟩
    refine ⟨fun m σ H' => ∃ (i : Nat) (p : Addr), i + m = bytesN c - 1 ∧ σ = [some (.int c), some (.int (bytesN c : Nat)), some (.ref p), some (.int (left i c))] ∧ Same H H' ∧ H' p = some (.lst (intL (behind i c))),
      ⟨bytesN c - 1, 0, p, by omega, rfl, same_new hp, upd_same⟩, ?_⟩
    rintro m σ H' ⟨i, p, him, rfl, sm, h1⟩
    have hl : (intL (behind i c)).length = i := by rw [intL, List.length_map, behind_len]
    refine ⟨_, rfl, .ref p, _, rfl, .inl ⟨_, SqL.of h1, rfl⟩, _, rfl, _, _, rfl, rfl, _, _, rfl, rfl, _, rfl, ?_⟩
    rw [hl]
    refine ite2 (fun e => ?_) (fun e => ?_)
    · have e1 : (i : Int) < (bytesN c : Nat) - 1 := of_decide_eq_true e
      refine ⟨fun σ' H'' => ∃ (i : Nat) (p : Addr), i + (m - 1) = bytesN c - 1 ∧ σ' = [some (.int c), some (.int (bytesN c : Nat)), some (.ref p), some (.int (left i c))] ∧ Same H H'' ∧ H'' p = some (.lst (intL (behind i c))), fun σ' H'' z => ⟨m - 1, by omega, z⟩, ?_⟩
      refine ⟨_, rfl, _, _, rfl, rfl, (show (64 : Int) ≠ 0 by decide), _, _, rfl, rfl, (by show 1 ≤ sizeLine; decide), fun l hl1 => ?_⟩
      have nlp : p ≠ l := ne_of_none h1 hl1
      refine ⟨_, rfl, l, p, _, _, rfl, rfl, upd_same, (by rw [upd_ne nlp]; exact h1), ?_, fun l2 hl2 => ?_⟩
      · rw [hl]
        show 1 + i ≤ sizeLine
        have : sizeLine = 16777216 := sizeLine_eq
        omega
      · refine ⟨_, rfl, _, _, rfl, rfl, ⟨by decide, by decide⟩, ?_⟩
        refine ⟨i + 1, l2, by omega, ?_, (sm.trans (same_new hl1)).trans (same_new hl2), ?_⟩
        · show [some (V.int c), some (V.int (bytesN c : Nat)), some (V.ref l2), some (V.int ((left i c).fdiv 64))] = _
          rw [fdiv_pos (by decide)]
          rfl
        · rw [upd_same]
          show some (HO.lst ([V.int (128 + (left i c).fmod 64)] ++ intL (behind i c))) = _
          rw [fmod_pos (by decide)]
          rfl
    · have e1 : ¬ (i : Int) < (bytesN c : Nat) - 1 := fun y => e (decide_eq_true y)
      have ei : i = bytesN c - 1 := by omega
      refine ⟨_, rfl, A.t_FIRST_BYTES, _, _, rfl, rfl, hk, first_look c t0 u0 t1 u1 t2 u2 t3 u3, ?_⟩
      refine ⟨_, rfl, _, _, rfl, rfl, (by show 1 ≤ sizeLine; decide), fun l hl1 => ?_⟩
      have nlp : p ≠ l := ne_of_none h1 hl1
      refine ⟨_, rfl, l, p, _, _, rfl, rfl, upd_same, (by rw [upd_ne nlp]; exact h1), ?_, fun l2 hl2 => ?_⟩
      · rw [hl]
        show 1 + i ≤ sizeLine
        have : sizeLine = 16777216 := sizeLine_eq
        omega
      · have sm2 := (sm.trans (same_new hl1)).trans (same_new (o := .lst ([V.int (first (bytesN c) + left i c)] ++ intL (behind i c))) hl2)
        refine q l2 _ (free2 sm hl2) sm2 ?_
        rw [upd_same, ei]
        rfl
theorem ok_char_items (T : Txt K mg A) : FnOk P w K mg base CX0 3 A.a_char_items A.d_char_items ["char", "kind"] spIk := by
  have G_byte_items : FnOk P w K mg base CX0 2 A.a_byte_items A.d_byte_items ["char"] (spI bytesOf) := ok_byte_items T
  have G_unit_items : FnOk P w K mg base CX0 1 A.a_unit_items A.d_unit_items ["char"] (spI unitsOf) := ok_unit_items T
  refine T.F_char_items.ok sc_char_items (fun vs H Q E h => ?_) (fun cdv A' outer s H vs Q E hr h => ?_)
  · obtain ⟨c, k, rfl, _⟩ := h
    rfl
  · obtain ⟨c, k, rfl, c0, q⟩ := h
    refine ⟨_, (pss_cons (ps_if (pt_cmpR op_eq (pv 1) pe_str (nomark _)) (pss_one (ps_ret (pe_call G_byte_items (hr.mono (by decide)) (by rfl) T.g_byte_items T.F_byte_items.kp T.b_byte_items .nil pass0 (pa_cons (pv 0) pa_nil)))) pss_nil) (pss_cons (ps_if (pt_cmpR op_eq (pv 1) pe_str (nomark _)) (pss_one (ps_ret (pe_call G_unit_items (hr.mono (by decide)) (by rfl) T.g_unit_items T.F_unit_items.kp T.b_unit_items .nil pass0 (pa_cons (pv 0) pa_nil)))) pss_nil) (pss_one (ps_ret (pe_lst (pa_cons (pv 0) pa_nil)))))), ?_⟩
    refine ⟨_, rfl, rfl, _, rfl, ?_⟩
    refine ite2 (fun e => ?_) (fun e => ?_)
    · have e1 : k = "bytes" := V.str.inj (of_decide_eq_true e)
      have z : itemsOf c k = bytesOf c := if_pos e1
      rw [z] at q
      exact ⟨_, rfl, c, rfl, c0, q⟩
    have e1 : ¬ k = "bytes" := fun y => e (decide_eq_true (congrArg V.str y))
    refine ⟨_, rfl, rfl, _, rfl, ?_⟩
    refine ite2 (fun e => ?_) (fun e => ?_)
    · have e2 : k = "units" := V.str.inj (of_decide_eq_true e)
      have z : itemsOf c k = unitsOf c := by unfold itemsOf; rw [if_neg e1, if_pos e2]
      rw [z] at q
      exact ⟨_, rfl, c, rfl, c0, q⟩
    have e2 : ¬ k = "units" := fun y => e (decide_eq_true (congrArg V.str y))
    have z : itemsOf c k = [c] := by unfold itemsOf; rw [if_neg e1, if_neg e2]
    rw [z] at q
    exact ⟨_, rfl, (by show 1 ≤ sizeLine; decide), fun p hp => q p _ hp (same_new hp) upd_same⟩
/-- what width, items are asked: the first exception that is due, else the answer -/
def spDoor (A : Ads) (ans : Int → Str → Hp → VK → Prop) : Sp := fun vs H Q E => ∃ x y : V, vs = [x, y] ∧ (∃ t, Ty H x t) ∧ (∃ t, Ty H y t) ∧
  (chB x = false → Thrown A.C_InvalidChar x H E) ∧ (chB x = true → kdB y = false → Thrown A.C_InvalidKind y H E) ∧ ∀ (c : Int) (k : Str), x = .int c → y = .str k → chB x = true → kdB y = true → ans c k H Q
theorem chB_int {x : V} (h : chB x = true) : ∃ c : Int, x = .int c ∧ 0 ≤ c ∧ c ≤ 1114111 := by
  cases x with
  | int c =>
    have h' : (decide (0 ≤ c) && decide (c ≤ 1114111) && !(decide (55296 ≤ c) && decide (c ≤ 57343))) = true := h
    simp only [Bool.and_eq_true, decide_eq_true_eq] at h'
    exact ⟨c, rfl, h'.1.1, h'.1.2⟩
  | non => cases h
  | bl b => cases h
  | str z => cases h
  | byt z => cases h
  | flt z => cases h
  | ref z => cases h
  | ty z => cases h
theorem kdB_str {x : V} (h : kdB x = true) : ∃ k : Str, x = .str k := by
  cases x with
  | str z => exact ⟨z, rfl⟩
  | int z => cases h
  | non => cases h
  | bl b => cases h
  | byt z => cases h
  | flt z => cases h
  | ref z => cases h
  | ty z => cases h
def ansW : Int → Str → Hp → VK → Prop := fun c k H Q => Q (.int (widthOf c k)) H
def ansI : Int → Str → Hp → VK → Prop := fun c k H Q => Gives H (intL (itemsOf c k)) Q
theorem ok_width (T : Txt K mg A) : FnOk P w K mg base (L2.CX P w) 5 A.a_width A.d_width ["char", "kind"] (spDoor A ansW) := by
  have G_check_char : FnOk P w K mg base (L2.CX P w) 4 A.a_check_char A.d_check_char ["char"] (spCheck A.C_InvalidChar chB) := ok_check_char T
  have G_check_kind : FnOk P w K mg base (L2.CX P w) 3 A.a_check_kind A.d_check_kind ["kind"] (spCheck A.C_InvalidKind kdB) := ok_check_kind T
  have G_char_width : FnOk P w K mg base CX0 2 A.a_char_width A.d_char_width ["char", "kind"] spWk := ok_char_width T
  refine T.F_width.okX sc_width (fun vs H Q E h => ?_) (fun cdv A' outer s H vs Q E hr h => ?_)
  · obtain ⟨x, y, rfl, _⟩ := h
    rfl
  · obtain ⟨x, y, rfl, tx, ty, q1, q2, q3⟩ := h
    refine ⟨_, (pss_cons (ps_expr (pe_call G_check_char (hr.mono (by decide)) (by rfl) T.g_check_char T.F_check_char.kp T.b_check_char .nil (passes_call (takes_of rfl rfl rfl rfl) fun _ _ _ _ h => h) (pa_cons (pv 0) pa_nil))) (pss_cons (ps_expr (pe_call G_check_kind (hr.mono (by decide)) (by rfl) T.g_check_kind T.F_check_kind.kp T.b_check_kind .nil (passes_call (takes_of rfl rfl rfl rfl) fun _ _ _ _ h => h) (pa_cons (pv 1) pa_nil))) (pss_one (ps_ret (pe_call G_char_width (hr.mono (by decide)) (by rfl) T.g_char_width T.F_char_width.kp T.b_char_width .nil pass0 (pa_cons (pv 0) (pa_cons (pv 1) pa_nil))))))), ?_⟩
    refine ⟨_, rfl, x, rfl, tx, fun ex => ?_, q1⟩
    refine ⟨_, rfl, y, rfl, ty, fun ey => ?_, q2 ex⟩
    obtain ⟨c, rfl, _⟩ := chB_int ex
    obtain ⟨k, rfl⟩ := kdB_str ey
    exact ⟨_, rfl, _, rfl, c, k, rfl, q3 c k rfl rfl ex ey⟩
theorem ok_items (T : Txt K mg A) : FnOk P w K mg base (L2.CX P w) 5 A.a_items A.d_items ["char", "kind"] (spDoor A ansI) := by
  have G_check_char : FnOk P w K mg base (L2.CX P w) 4 A.a_check_char A.d_check_char ["char"] (spCheck A.C_InvalidChar chB) := ok_check_char T
  have G_check_kind : FnOk P w K mg base (L2.CX P w) 3 A.a_check_kind A.d_check_kind ["kind"] (spCheck A.C_InvalidKind kdB) := ok_check_kind T
  have G_char_items : FnOk P w K mg base CX0 3 A.a_char_items A.d_char_items ["char", "kind"] spIk := ok_char_items T
  refine T.F_items.okX sc_items (fun vs H Q E h => ?_) (fun cdv A' outer s H vs Q E hr h => ?_)
  · obtain ⟨x, y, rfl, _⟩ := h
    rfl
  · obtain ⟨x, y, rfl, tx, ty, q1, q2, q3⟩ := h
    refine ⟨_, (pss_cons (ps_expr (pe_call G_check_char (hr.mono (by decide)) (by rfl) T.g_check_char T.F_check_char.kp T.b_check_char .nil (passes_call (takes_of rfl rfl rfl rfl) fun _ _ _ _ h => h) (pa_cons (pv 0) pa_nil))) (pss_cons (ps_expr (pe_call G_check_kind (hr.mono (by decide)) (by rfl) T.g_check_kind T.F_check_kind.kp T.b_check_kind .nil (passes_call (takes_of rfl rfl rfl rfl) fun _ _ _ _ h => h) (pa_cons (pv 1) pa_nil))) (pss_one (ps_ret (pe_call G_char_items (hr.mono (by decide)) (by rfl) T.g_char_items T.F_char_items.kp T.b_char_items .nil pass0 (pa_cons (pv 0) (pa_cons (pv 1) pa_nil))))))), ?_⟩
    refine ⟨_, rfl, x, rfl, tx, fun ex => ?_, q1⟩
    refine ⟨_, rfl, y, rfl, ty, fun ey => ?_, q2 ex⟩
    obtain ⟨c, rfl, c0, _⟩ := chB_int ex
    obtain ⟨k, rfl⟩ := kdB_str ey
    exact ⟨_, rfl, _, rfl, c, k, rfl, c0, q3 c k rfl rfl ex ey⟩
end
end Tc

/-! # K4C -/
namespace Tc
open PySem PySem.Spec PyProof.Rows L2
/-! ## the law's draws -/
/-- at p the law's box of draws: what is left, a seed, how often it was asked (at most n times) -/
def BagAt (H : Hp) (p : Addr) (n : Int) : Prop := ∃ b0 b1 b2 : Int, H p = some (.lst [.int b0, .int b1, .int b2]) ∧ 0 ≤ b0 ∧ 0 ≤ b1 ∧ b1 < 2147483629 ∧ 0 ≤ b2 ∧ b2 ≤ n
/-- all but what stands at p is as it was -/
def But (p : Addr) (H H' : Hp) : Prop := ∀ b o, b ≠ p → H b = some o → H' b = some o
theorem But.refl (p : Addr) (H : Hp) : But p H H := fun _ _ _ h => h
theorem But.trans {p : Addr} {H H1 H2 : Hp} (a : But p H H1) (b : But p H1 H2) : But p H H2 := fun c o n h => b c o n (a c o n h)
theorem But.of {p : Addr} {H H' : Hp} (a : Same H H') : But p H H' := fun c o _ h => a c o h
theorem but_upd {p : Addr} {H : Hp} {o : HO} : But p H (upd H p o) := fun b u n e => by
  rw [upd_ne n]
  exact e
theorem BagAt.same {H H' : Hp} {p : Addr} {n : Int} (h : BagAt H p n) (s : Same H H') : BagAt H' p n := by
  obtain ⟨b0, b1, b2, e, r⟩ := h
  exact ⟨b0, b1, b2, s _ _ e, r⟩
theorem BagAt.le {H : Hp} {p : Addr} {n m : Int} (h : BagAt H p n) (l : n ≤ m) : BagAt H p m := by
  obtain ⟨b0, b1, b2, e, r1, r2, r3, r4, r5⟩ := h
  exact ⟨b0, b1, b2, e, r1, r2, r3, r4, Int.le_trans r5 l⟩
theorem BagAt.there {H : Hp} {p : Addr} {n : Int} (h : BagAt H p n) : ∃ xs, H p = some (.lst xs) := by
  obtain ⟨b0, b1, b2, e, _⟩ := h
  exact ⟨_, e⟩
theorem at_int {l : List Int} {r : Int} (h0 : 0 ≤ r) (h1 : r < l.length) : ∃ z, z ∈ l ∧ atI (intL l) r = some (.int z) := by
  obtain ⟨n, rfl⟩ : ∃ n : Nat, r = n := ⟨r.toNat, by omega⟩
  have hn : n < l.length := by omega
  refine ⟨l[n], List.getElem_mem hn, atI_nat ?_⟩
  unfold intL
  rw [List.getElem?_map, List.getElem?_eq_getElem hn]
  rfl
def spCell (K : PySem.W.Frag) : Sp := fun vs H Q _ => ∃ (a : Addr) (ns : List Int) (i : Int), vs = [.ref a, .int i] ∧ SqL K H a (intL ns) ∧ 0 ≤ i ∧ ∀ z : Int, Q (.int z) H
def spBag : Sp := fun vs H Q _ => ∃ c : Int, vs = [.int c] ∧ ∀ (p : Addr) (H' : Hp), H p = none → Same H H' → BagAt H' p 0 → Q (.ref p) H'
def spTake : Sp := fun vs H Q _ => ∃ (p : Addr) (m n : Int), vs = [.ref p, .int m] ∧ 0 < m ∧ m < 1073741824 ∧ BagAt H p n ∧ n ≤ 1000000 ∧
  ∀ (r : Int) (H' : Hp), 0 ≤ r → r < m → BagAt H' p (n + 1) → But p H H' → Q (.int r) H'
def spChar : Sp := fun vs H Q _ => ∃ (p : Addr) (n : Int), vs = [.ref p] ∧ BagAt H p n ∧ n ≤ 900000 ∧ ∀ (c : Int) (H' : Hp), chB (.int c) = true → BagAt H' p (n + 3) → But p H H' → Q (.int c) H'
section
variable {P : Program} {w : World} {K : PySem.W.Frag} {mg : Str → Option Value} {base : Heap} {A : Ads}
theorem ok_cell (T : Txt K mg A) : FnOk P w K mg base CX0 1 A.a_l_cell A.d_l_cell ["_law_script", "_law_index"] (spCell K) := by
  refine T.F_l_cell.ok sc_l_cell (fun vs H Q E h => ?_) (fun cdv A' outer s H vs Q E hr h => ?_)
  · obtain ⟨a, ns, i, rfl, _⟩ := h
    rfl
  · obtain ⟨a, ns, i, rfl, hS, i0, q⟩ := h
    refine ⟨_, (pss_cons (ps_if (pt_cmpR op_lt (pv 1) (pe_callB call_len (by rfl) T.z_len (by decide +kernel) (pa_cons (pv 0) pa_nil)) (nomark _)) (pss_one (ps_ret (pe_ix ix_list (pv 0) (pv 1) (fun _ _ => rfl)))) pss_nil) (pss_one (ps_ret (pe_op op_add (pe_op op_mul pe_int (pv 1)) pe_int)))), ?_⟩
    refine ⟨_, rfl, _, rfl, .ref a, _, rfl, .inl ⟨_, hS, rfl⟩, _, _, rfl, rfl, _, rfl, ?_⟩
    refine ite2 (fun e => ?_) (fun e => ?_)
    · have e1 : i < ((intL ns).length : Nat) := of_decide_eq_true e
      rw [intL, List.length_map] at e1
      obtain ⟨z, _, hz⟩ := at_int i0 e1
      exact ⟨_, rfl, _, rfl, a, _, _, _, rfl, rfl, hS, hz, q z⟩
    · exact ⟨_, rfl, _, _, rfl, rfl, .inl ⟨by decide, by decide⟩, _, _, rfl, rfl, q _⟩
theorem ok_bag (T : Txt K mg A) : FnOk P w K mg base CX0 1 A.a_l_bag A.d_l_bag ["_law_cell_here"] spBag := by
  refine T.F_l_bag.ok sc_l_bag (fun vs H Q E h => ?_) (fun cdv A' outer s H vs Q E hr h => ?_)
  · obtain ⟨c, rfl, _⟩ := h
    rfl
  · obtain ⟨c, rfl, q⟩ := h
    refine ⟨_, (pss_one (ps_ret (pe_lst (pa_cons (pe_callB (call_max2 rfl) (by rfl) T.z_max (by decide +kernel) (pa_cons pe_int (pa_cons (pe_op op_sub (pv 0) (pe_op op_pow pe_int pe_int)) pa_nil))) (pa_cons (pe_op op_modN (pv 0) pe_int) (pa_cons pe_int pa_nil)))))), ?_⟩
    refine ⟨_, rfl, _, _, rfl, rfl, ⟨by decide, by decide, by decide⟩, _, _, rfl, rfl, _, _, rfl, ?_⟩
    refine ⟨_, rfl, _, _, rfl, rfl, (show (2147483629 : Int) ≠ 0 by decide), (by show 3 ≤ sizeLine; decide), fun p hp => ?_⟩
    refine q p _ hp (same_new hp) ⟨_, _, _, upd_same, ?_, ?_, ?_, Int.le_refl _, Int.le_refl _⟩
    · split <;> omega
    · rw [fmod_pos (by decide)]
      exact Int.emod_nonneg _ (by decide)
    · rw [fmod_pos (by decide)]
      exact Int.emod_lt_of_pos _ (by decide)
theorem ok_take (T : Txt K mg A) : FnOk P w K mg base CX0 1 A.a_l_take A.d_l_take ["_law_bag_here", "_law_many"] spTake := by
  refine T.F_l_take.ok sc_l_take (fun vs H Q E h => ?_) (fun cdv A' outer s H vs Q E hr h => ?_)
  · obtain ⟨p, m, n, rfl, _⟩ := h
    rfl
  · obtain ⟨p, m, n, rfl, m0, m1, ⟨b0, b1, b2, hp, z0, z1, z2, z3, z4⟩, n1, q⟩ := h
    have a0 : ∀ x y z : V, atI [x, y, z] 0 = some x := fun _ _ _ => rfl
    have a1 : ∀ x y z : V, atI [x, y, z] 1 = some y := fun _ _ _ => rfl
    have a2 : ∀ x y z : V, atI [x, y, z] 2 = some z := fun _ _ _ => rfl
    refine ⟨_, (pss_cons (ps_if (pt_cmpR op_gt (pe_ix ix_list (pv 0) pe_int (fun _ _ => rfl)) pe_int (nomark _)) (pss_cons (ps_set (i := 2) sc_l_take.nd rfl (Or.inl rfl) (pe_op op_modN (pe_ix ix_list (pv 0) pe_int (fun _ _ => rfl)) (pv 1))) (pss_cons (ps_asg (pe_op op_fdivN (pe_ix ix_list (pv 0) pe_int (fun _ _ => rfl)) (pv 1)) (pg_sub (pv 0) pe_int set_list)) (pss_one (ps_ret (pv 2))))) pss_nil) (pss_cons (ps_asg (pe_op op_add (pe_ix ix_list (pv 0) pe_int (fun _ _ => rfl)) pe_int) (pg_sub (pv 0) pe_int set_list)) (pss_cons (ps_set (i := 3) sc_l_take.nd rfl (Or.inl rfl) (pe_op op_modN (pe_op op_pow (pe_op op_add (pe_op op_add (pe_ix ix_list (pv 0) pe_int (fun _ _ => rfl)) (pe_op op_mul pe_int (pe_ix ix_list (pv 0) pe_int (fun _ _ => rfl)))) pe_int) pe_int) pe_int)) (pss_cons (ps_set (i := 3) sc_l_take.nd rfl (Or.inl rfl) (pe_op op_modN (pe_op op_pow (pe_op op_add (pv 3) (pe_op op_mul pe_int (pe_ix ix_list (pv 0) pe_int (fun _ _ => rfl)))) pe_int) pe_int)) (pss_one (ps_ret (pe_op op_modN (pe_op op_fdivN (pv 3) pe_int) (pv 1)))))))), ?_⟩
    refine ⟨_, rfl, p, _, _, _, rfl, rfl, SqL.of hp, a0 _ _ _, _, _, rfl, rfl, _, rfl, ?_⟩
    refine ite2 (fun e => ?_) (fun e => ?_)
    · refine ⟨_, rfl, p, _, _, _, rfl, rfl, SqL.of hp, a0 _ _ _, _, rfl, _, _, rfl, rfl, (show m ≠ 0 by omega), ?_⟩
      refine ⟨_, rfl, p, _, _, _, rfl, rfl, SqL.of hp, a0 _ _ _, _, rfl, _, _, rfl, rfl, ⟨by omega, by omega⟩, _, rfl, p, _, _, 0, rfl, rfl, hp, rfl, ?_⟩
      refine ⟨_, rfl, ?_⟩
      have f1 : b0.fmod m = b0 % m := fmod_pos (by omega)
      have f2 : b0.fdiv m = b0 / m := fdiv_pos (by omega)
      show Q (.int (b0.fmod m)) (upd H p (.lst [.int (b0.fdiv m), .int b1, .int b2]))
      rw [f1, f2]
      refine q _ _ (Int.emod_nonneg _ (by omega)) (Int.emod_lt_of_pos _ m0) ⟨_, _, _, upd_same, Int.ediv_nonneg z0 (by omega), z1, z2, z3, by omega⟩ but_upd
    · refine ⟨_, rfl, p, _, _, _, rfl, rfl, SqL.of hp, a2 _ _ _, _, _, rfl, rfl, _, rfl, p, _, _, 2, rfl, rfl, hp, rfl, ?_⟩
      have hp2 : (upd H p (.lst [.int b0, .int b1, .int (b2 + 1)])) p = some (.lst [.int b0, .int b1, .int (b2 + 1)]) := upd_same
      refine ⟨_, rfl, p, _, _, _, rfl, rfl, SqL.of hp2, a1 _ _ _, _, rfl, p, _, _, _, rfl, rfl, SqL.of hp2, a2 _ _ _, _, _, rfl, rfl, .inl ⟨by decide, by decide⟩, _, _, rfl, rfl, _, _, rfl, rfl, _, _, rfl, rfl, ⟨by decide, by decide, ?_⟩, _, _, rfl, rfl, (show (2147483647 : Int) ≠ 0 by decide), ?_⟩
      · omega
      have g1 := Int.emod_nonneg ((b1 + 15491233 * (b2 + 1) + 601) ^ (5 : Int).toNat) (show (2147483647 : Int) ≠ 0 by decide)
      have g2 := Int.emod_lt_of_pos ((b1 + 15491233 * (b2 + 1) + 601) ^ (5 : Int).toNat) (show (0 : Int) < 2147483647 by decide)
      have f3 : ((b1 + 15491233 * (b2 + 1) + 601) ^ (5 : Int).toNat).fmod 2147483647 = ((b1 + 15491233 * (b2 + 1) + 601) ^ (5 : Int).toNat) % 2147483647 := fmod_pos (by decide)
      rw [← f3] at g1 g2
      generalize hx : ((b1 + 15491233 * (b2 + 1) + 601) ^ (5 : Int).toNat).fmod 2147483647 = x at g1 g2
      refine ⟨_, rfl, _, rfl, p, _, _, _, rfl, rfl, SqL.of hp2, a2 _ _ _, _, _, rfl, rfl, .inl ⟨by decide, by decide⟩, _, _, rfl, rfl, _, _, rfl, rfl, ⟨by decide, by decide, ?_⟩, _, _, rfl, rfl, (show (2147483587 : Int) ≠ 0 by decide), ?_⟩
      · have hx' : x = ((b1 + 15491233 * (b2 + 1) + 601) ^ (5 : Int).toNat).fmod 2147483647 := hx.symm
        first | (rw [hx]; omega) | omega
      refine ⟨_, rfl, _, _, rfl, rfl, ⟨by decide, by decide⟩, _, rfl, _, _, rfl, rfl, (show m ≠ 0 by omega), ?_⟩
      have f4 : ∀ y : Int, y.fmod m = y % m := fun y => fmod_pos (by omega)
      refine q _ _ (by rw [f4]; exact Int.emod_nonneg _ (by omega)) (by rw [f4]; exact Int.emod_lt_of_pos _ m0) ⟨_, _, _, upd_same, z0, z1, z2, by omega, by omega⟩ but_upd
theorem edges_ok : ∀ z ∈ [(0 : Int), 10, 13, 97, 127, 128, 2047, 2048, 55295, 57344, 65535, 65536, 1114111], chB (.int z) = true := by decide
theorem chB_of {z : Int} (h0 : 0 ≤ z) (h1 : z ≤ 1114111) (h2 : z < 55296 ∨ 57343 < z) : chB (.int z) = true := by
  show (decide (0 ≤ z) && decide (z ≤ 1114111) && !(decide (55296 ≤ z) && decide (z ≤ 57343))) = true
  rw [decide_eq_true h0, decide_eq_true h1]
  rcases h2 with h2 | h2
  · rw [decide_eq_false (show ¬ 55296 ≤ z by omega)]
    rfl
  · rw [decide_eq_false (show ¬ z ≤ 57343 by omega), Bool.and_false]
    rfl
theorem ok_char (T : Txt K mg A) : FnOk P w K mg base CX0 2 A.a_l_char A.d_l_char ["_law_bag_here"] spChar := by
  have G_l_take : FnOk P w K mg base CX0 1 A.a_l_take A.d_l_take ["_law_bag_here", "_law_many"] spTake := ok_take T
  refine T.F_l_char.ok sc_l_char (fun vs H Q E h => ?_) (fun cdv A' outer s H vs Q E hr h => ?_)
  · obtain ⟨p, n, rfl, _⟩ := h
    rfl
  · obtain ⟨p, n, rfl, hb, n1, q⟩ := h
    refine ⟨_, (pss_cons (ps_set (i := 1) sc_l_char.nd rfl (Or.inl rfl) (pe_lst (pa_cons pe_int (pa_cons pe_int (pa_cons pe_int (pa_cons pe_int (pa_cons pe_int (pa_cons pe_int (pa_cons pe_int (pa_cons pe_int (pa_cons pe_int (pa_cons pe_int (pa_cons pe_int (pa_cons pe_int (pa_cons pe_int pa_nil))))))))))))))) (pss_cons (ps_if (pt_cmpR op_eq (pe_call G_l_take (hr.mono (by decide)) (by rfl) T.g_l_take T.F_l_take.kp T.b_l_take .nil pass0 (pa_cons (pv 0) (pa_cons pe_int pa_nil))) pe_int (nomark _)) (pss_one (ps_ret (pe_ix ix_list (pv 1) (pe_call G_l_take (hr.mono (by decide)) (by rfl) T.g_l_take T.F_l_take.kp T.b_l_take .nil pass0 (pa_cons (pv 0) (pa_cons pe_int pa_nil))) (fun _ _ => rfl)))) pss_nil) (pss_cons (ps_asg (pe_ix ix_list (pe_lst (pa_cons (pe_tup (pa_cons pe_int (pa_cons pe_int pa_nil))) (pa_cons (pe_tup (pa_cons pe_int (pa_cons pe_int pa_nil))) (pa_cons (pe_tup (pa_cons pe_int (pa_cons pe_int pa_nil))) (pa_cons (pe_tup (pa_cons pe_int (pa_cons pe_int pa_nil))) (pa_cons (pe_tup (pa_cons pe_int (pa_cons pe_int pa_nil))) pa_nil)))))) (pe_call G_l_take (hr.mono (by decide)) (by rfl) T.g_l_take T.F_l_take.kp T.b_l_take .nil pass0 (pa_cons (pv 0) (pa_cons pe_int pa_nil))) (fun _ _ => rfl)) (pg_tup (by rfl) (pgs_cons (pg_name (i := 2) sc_l_char.nd rfl (Or.inl rfl)) (pgs_cons (pg_name (i := 3) sc_l_char.nd rfl (Or.inl rfl)) pgs_nil)))) (pss_one (ps_ret (pe_op op_add (pv 2) (pe_call G_l_take (hr.mono (by decide)) (by rfl) T.g_l_take T.F_l_take.kp T.b_l_take .nil pass0 (pa_cons (pv 0) (pa_cons (pe_op op_add (pe_op op_sub (pv 3) (pv 2)) pe_int) pa_nil))))))))), ?_⟩
    refine ⟨(by show 13 ≤ sizeLine; decide), fun e he => ?_⟩
    have s1 := same_new (o := .lst (intL [0, 10, 13, 97, 127, 128, 2047, 2048, 55295, 57344, 65535, 65536, 1114111])) he
    have nep : e ≠ p := fun z => by
      obtain ⟨xs, hx⟩ := hb.there
      rw [z, hx] at he
      cases he
    refine ⟨_, rfl, p, 2, n, rfl, by decide, by decide, hb.same s1, by omega, fun r1 H1 _ _ hb1 bt1 => ?_⟩
    have he1 : H1 e = some (.lst (intL [0, 10, 13, 97, 127, 128, 2047, 2048, 55295, 57344, 65535, 65536, 1114111])) := bt1 _ _ nep upd_same
    refine ⟨rfl, _, rfl, ?_⟩
    refine ite2 (fun _ => ?_) (fun _ => ?_)
    · refine ⟨_, rfl, _, rfl, p, 13, n + 1, rfl, by decide, by decide, hb1, by omega, fun r2 H2 h20 h21 hb2 bt2 => ?_⟩
      obtain ⟨z, mz, hz⟩ := at_int (l := [0, 10, 13, 97, 127, 128, 2047, 2048, 55295, 57344, 65535, 65536, 1114111]) h20 h21
      exact ⟨e, _, _, _, rfl, rfl, SqL.of (bt2 _ _ nep he1), hz, q z H2 (edges_ok z mz) (hb2.le (by omega)) (((But.of s1).trans bt1).trans bt2)⟩
    · refine ⟨(by show 2 ≤ sizeLine; decide), fun t1 k1 => ⟨(by show 2 ≤ sizeLine; decide), fun t2 k2 => ⟨(by show 2 ≤ sizeLine; decide), fun t3 k3 => ⟨(by show 2 ≤ sizeLine; decide), fun t4 k4 => ⟨(by show 2 ≤ sizeLine; decide), fun t5 k5 => ⟨(by show 5 ≤ sizeLine; decide), fun l kl => ?_⟩⟩⟩⟩⟩⟩
      have c1 := same_new (o := .tup [V.int 0, V.int 127]) k1
      have c2 := same_new (o := .tup [V.int 128, V.int 2047]) k2
      have c3 := same_new (o := .tup [V.int 2048, V.int 55295]) k3
      have c4 := same_new (o := .tup [V.int 57344, V.int 65535]) k4
      have c5 := same_new (o := .tup [V.int 65536, V.int 1114111]) k5
      have c6 := same_new (o := .lst [V.ref t1, V.ref t2, V.ref t3, V.ref t4, V.ref t5]) kl
      have all := c1.trans (c2.trans (c3.trans (c4.trans (c5.trans c6))))
      have hb3 := hb1.same all
      obtain ⟨xs, hx⟩ := hb1.there
      have ne : ∀ {t : Addr} {H' : Hp}, Same H1 H' → H' t = none → t ≠ p := fun {t H'} sm k z => by
        rw [z, sm _ _ hx] at k
        cases k
      have n1' := ne (Same.refl _) k1
      have n2' := ne c1 k2
      have n3' := ne (c1.trans c2) k3
      have n4' := ne (c1.trans (c2.trans c3)) k4
      have n5' := ne (c1.trans (c2.trans (c3.trans c4))) k5
      have n6' := ne (c1.trans (c2.trans (c3.trans (c4.trans c5)))) kl
      have g1 := (c2.trans (c3.trans (c4.trans (c5.trans c6)))) _ _ (upd_same (H := H1) (a := t1) (o := .tup [V.int 0, V.int 127]))
      refine ⟨_, rfl, p, 5, n + 1, rfl, by decide, by decide, hb3, by omega, fun r2 H2 h20 h21 hb2 bt2 => ?_⟩
      have hl := bt2 _ _ n6' upd_same
      obtain ⟨t, lo, hi, ha, ht, w1, w2, w3⟩ : ∃ (t : Addr) (lo hi : Int), atI [V.ref t1, V.ref t2, V.ref t3, V.ref t4, V.ref t5] r2 = some (.ref t) ∧ H2 t = some (.tup [.int lo, .int hi]) ∧ lo ≤ hi ∧ hi - lo < 1073741000 ∧ ∀ z, lo ≤ z → z ≤ hi → chB (.int z) = true := by
        have cs : r2 = 0 ∨ r2 = 1 ∨ r2 = 2 ∨ r2 = 3 ∨ r2 = 4 := by omega
        rcases cs with rfl | rfl | rfl | rfl | rfl
        · exact ⟨t1, 0, 127, rfl, bt2 _ _ n1' g1, by decide, by decide, fun z x y => chB_of (by omega) (by omega) (by omega)⟩
        · exact ⟨t2, 128, 2047, rfl, bt2 _ _ n2' ((c3.trans (c4.trans (c5.trans c6))) _ _ upd_same), by decide, by decide, fun z x y => chB_of (by omega) (by omega) (by omega)⟩
        · exact ⟨t3, 2048, 55295, rfl, bt2 _ _ n3' ((c4.trans (c5.trans c6)) _ _ upd_same), by decide, by decide, fun z x y => chB_of (by omega) (by omega) (by omega)⟩
        · exact ⟨t4, 57344, 65535, rfl, bt2 _ _ n4' ((c5.trans c6) _ _ upd_same), by decide, by decide, fun z x y => chB_of (by omega) (by omega) (by omega)⟩
        · exact ⟨t5, 65536, 1114111, rfl, bt2 _ _ n5' (c6 _ _ upd_same), by decide, by decide, fun z x y => chB_of (by omega) (by omega) (by omega)⟩
      refine ⟨l, _, _, _, rfl, rfl, SqL.of hl, ha, t, _, rfl, SqT.of ht, rfl, _, _, rfl, _, _, rfl, rfl, ?_⟩
      refine ⟨_, rfl, _, rfl, _, rfl, _, rfl, _, _, rfl, rfl, _, _, rfl, rfl, p, hi - lo + 1, n + 1 + 1, rfl, by omega, by omega, hb2, by omega, fun r3 H3 h30 h31 hb4 bt3 => ?_⟩
      refine ⟨_, _, rfl, rfl, q _ H3 (w3 _ (by omega) (by omega)) (hb4.le (by omega)) ((((But.of s1).trans bt1).trans (But.of all)).trans (bt2.trans bt3))⟩
def spLWidth : Sp := fun vs H Q _ => ∃ c : Int, vs = [.int c, .str "bytes"] ∧ ∀ H', Same H H' → Q (.int (bytesN c)) H'
theorem tell (a b : Str) (h : ¬ a = b) : ¬ decide (V.str a = V.str b) = true := fun z => h (V.str.inj (of_decide_eq_true z))
theorem law_place (c : Int) : atI [V.int 4, V.int 3, V.int 2, V.int 1] ((if decide (c < 65536) = true then (1 : Int) else 0) + (if decide (c < 2048) = true then (1 : Int) else 0) + (if decide (c < 128) = true then (1 : Int) else 0)) = some (V.int (bytesN c)) := by
  unfold bytesN
  by_cases h1 : c < 128
  · rw [if_pos (decide_eq_true (show c < 65536 by omega)), if_pos (decide_eq_true (show c < 2048 by omega)), if_pos (decide_eq_true h1), if_pos h1]
    rfl
  · rw [if_neg (show ¬ decide (c < 128) = true by simpa using h1), if_neg h1]
    by_cases h2 : c < 2048
    · rw [if_pos (decide_eq_true (show c < 65536 by omega)), if_pos (decide_eq_true h2), if_pos h2]
      rfl
    · rw [if_neg (show ¬ decide (c < 2048) = true by simpa using h2), if_neg h2]
      by_cases h3 : c < 65536
      · rw [if_pos (decide_eq_true h3), if_pos h3]
        rfl
      · rw [if_neg (show ¬ decide (c < 65536) = true by simpa using h3), if_neg h3]
        rfl
theorem ok_lwidth (T : Txt K mg A) : FnOk P w K mg base CX0 1 A.a_l_width A.d_l_width ["_law_char_here", "_law_kind"] spLWidth := by
  refine T.F_l_width.ok sc_l_width (fun vs H Q E h => ?_) (fun cdv A' outer s H vs Q E hr h => ?_)
  · obtain ⟨c, rfl, _⟩ := h
    rfl
  · obtain ⟨c, rfl, q⟩ := h
    refine ⟨_, (pss_cons (ps_if (pt_cmpR op_eq (pv 1) pe_str (nomark _)) (pss_one (ps_ret pe_int)) pss_nil) (pss_cons (ps_if (pt_cmpR op_eq (pv 1) pe_str (nomark _)) (pss_one (ps_ret (pe_ifExp (pt_cmpR op_lt (pv 0) pe_int (nomark _)) pe_int pe_int))) pss_nil) (pss_one (ps_ret (pe_ix ix_list (pe_lst (pa_cons pe_int (pa_cons pe_int (pa_cons pe_int (pa_cons pe_int pa_nil))))) (pe_op op_add (pe_op op_add (pe_callTy call_int1 (by rfl) T.z_int (by decide +kernel) (pa_cons (pe_cmpR op_lt (pv 0) pe_int (nomark _)) pa_nil)) (pe_callTy call_int1 (by rfl) T.z_int (by decide +kernel) (pa_cons (pe_cmpR op_lt (pv 0) pe_int (nomark _)) pa_nil))) (pe_callTy call_int1 (by rfl) T.z_int (by decide +kernel) (pa_cons (pe_cmpR op_lt (pv 0) pe_int (nomark _)) pa_nil))) (fun _ _ => rfl)))))), ?_⟩
    refine ⟨_, rfl, rfl, _, rfl, ?_⟩
    refine ite2 (fun e => absurd e (tell _ _ (by decide +kernel))) (fun _ => ?_)
    refine ⟨_, rfl, rfl, _, rfl, ?_⟩
    refine ite2 (fun e => absurd e (tell _ _ (by decide +kernel))) (fun _ => ?_)
    refine ⟨(by show 4 ≤ sizeLine; decide), fun l hl => ?_⟩
    refine ⟨_, rfl, _, _, rfl, rfl, .inr ⟨_, rfl, _, rfl, _, _, rfl, rfl, .inr ⟨_, rfl, _, _, rfl, rfl, _, rfl, _, _, rfl, rfl, .inr ⟨_, rfl, _, _, rfl, rfl, ?_⟩⟩⟩⟩
    exact ⟨l, _, _, _, rfl, rfl, SqL.of upd_same, law_place c, q _ (same_new hl)⟩
def spLItems : Sp := fun vs H Q _ => ∃ (c : Int) (k : Str), vs = [.int c, .str k] ∧ 0 ≤ c ∧ (k = "bytes" ∨ k = "units" ∨ k = "chars") ∧ Gives H (intL (itemsOf c k)) Q
end
end Tc

/-! # K4D -/
namespace Tc
open PySem PySem.Spec PyProof.Rows L2
theorem items_one {c : Int} {k : Str} (h : k = "chars" ∨ (k = "units" ∧ c < 65536) ∨ ((k = "bytes" ∨ k = "units" ∨ k = "chars") ∧ c < 128)) : itemsOf c k = [c] := by
  have bu : ¬ ("units" : Str) = "bytes" := by decide +kernel
  have bc : ¬ ("chars" : Str) = "bytes" := by decide +kernel
  have uc : ¬ ("chars" : Str) = "units" := by decide +kernel
  unfold itemsOf
  rcases h with rfl | ⟨rfl, h⟩ | ⟨rfl | rfl | rfl, h⟩
  · rw [if_neg bc, if_neg uc]
  · rw [if_neg bu, if_pos rfl]
    exact if_pos h
  · rw [if_pos rfl]
    unfold bytesOf
    have e : bytesN c = 1 := if_pos h
    rw [e]
    show [0 + c] = [c]
    rw [Int.zero_add]
  · rw [if_neg bu, if_pos rfl]
    exact if_pos (by omega)
  · rw [if_neg bc, if_neg uc]
section
variable {P : Program} {w : World} {K : PySem.W.Frag} {mg : Str → Option Value} {base : Heap} {A : Ads}
theorem ok_litems (T : Txt K mg A) : FnOk P w K mg base CX0 2 A.a_l_items A.d_l_items ["_law_char_here", "_law_kind"] spLItems := by
  have G_l_width : FnOk P w K mg base CX0 1 A.a_l_width A.d_l_width ["_law_char_here", "_law_kind"] spLWidth := ok_lwidth T
  refine T.F_l_items.ok sc_l_items (fun vs H Q E h => ?_) (fun cdv A' outer s H vs Q E hr h => ?_)
  · obtain ⟨c, k, rfl, _⟩ := h
    rfl
  · obtain ⟨c, k, rfl, c0, hk, q⟩ := h
    have one : itemsOf c k = [c] → tRet (tLst (tCons (tVar 0) tNil)) { nx := fun _ H' => Q .non H', rt := Q } (start ["_law_char_here", "_law_kind", "_law_found", "_law_rest", "_law_step"] [.int c, .str k]) H := by
      intro e
      rw [e] at q
      exact ⟨_, rfl, (by show 1 ≤ sizeLine; decide), fun p hp => q p _ hp (same_new hp) upd_same⟩
    have kk : ∀ {z : Str}, decide (V.str k = V.str z) = true → k = z := fun e => V.str.inj (of_decide_eq_true e)
    have nk : ∀ {z : Str}, ¬ decide (V.str k = V.str z) = true → ¬ k = z := fun e y => e (decide_eq_true (congrArg V.str y))
    refine ⟨_, (pss_cons (ps_if (PW.pt (pw_or (pt_cmpR op_eq (pv 1) pe_str (nomark _)) (pw_or (PW.pt (pw_and (pt_cmpR op_eq (pv 1) pe_str (nomark _)) (pw_and1 (pt_cmpR op_lt (pv 0) pe_int (nomark _))))) (pw_or1 (pt_cmpR op_lt (pv 0) pe_int (nomark _)))))) (pss_one (ps_ret (pe_lst (pa_cons (pv 0) pa_nil)))) pss_nil) (pss_cons (ps_if (pt_cmpR op_eq (pv 1) pe_str (nomark _)) (pss_one (ps_ret (pe_lst (pa_cons (pe_op op_add pe_int (pe_op op_fdivN (pe_op op_sub (pv 0) pe_int) pe_int)) (pa_cons (pe_op op_add pe_int (pe_op op_modN (pe_op op_sub (pv 0) pe_int) pe_int)) pa_nil))))) pss_nil) (pss_cons (ps_par (i := 2) (j := 3) rfl sc_l_items.nd rfl rfl (by decide) rfl rfl (pa_cons (pe_lst pa_nil) (pa_cons (pv 0) pa_nil)) (by rfl)) (pss_cons (ps_for PassesOwn.never rfl (pi_range1 (by rfl) T.z_range (pa_cons (pe_op op_sub (pe_call G_l_width (hr.mono (by decide)) (by rfl) T.g_l_width T.F_l_width.kp T.b_l_width .nil pass0 (pa_cons (pv 0) (pa_cons pe_str pa_nil))) pe_int) pa_nil)) (pg_name (i := 4) sc_l_items.nd rfl (Or.inl rfl)) (pss_cons (ps_set (i := 2) sc_l_items.nd rfl (Or.inl rfl) (pe_op op_cat (pe_lst (pa_cons (pe_op op_add pe_int (pe_op op_modN (pv 3) pe_int)) pa_nil)) (pv 2))) (pss_one (ps_set (i := 3) sc_l_items.nd rfl (Or.inl rfl) (pe_op op_fdivN (pv 3) pe_int))))) (pss_one (ps_ret (pe_op op_cat (pe_lst (pa_cons (pe_op op_add (pe_ix ix_list (pe_lst (pa_cons pe_int (pa_cons pe_int (pa_cons pe_int pa_nil)))) (pe_op op_sub (pe_callB call_len (by rfl) T.z_len (by decide +kernel) (pa_cons (pv 2) pa_nil)) pe_int) (fun _ _ => rfl)) (pv 3)) pa_nil)) (pv 2)))))))), ?_⟩
    refine ⟨_, rfl, rfl, _, rfl, ?_⟩
    refine ite2 (fun e => ?_) (fun e1 => ?_)
    · exact iteT (one (items_one (.inl (kk e))))
    refine ⟨_, rfl, rfl, _, rfl, ?_⟩
    have done : (k = "units" ∧ c < 65536) ∨ ¬ (k = "units" ∧ c < 65536) := Classical.em _
    refine ite2 (fun e => ?_) (fun e2 => ?_)
    · refine ⟨_, rfl, _, _, rfl, rfl, _, rfl, ?_⟩
      refine ite2 (fun e3 => ?_) (fun e3 => ?_)
      · exact iteT (one (items_one (.inr (.inl ⟨kk e, of_decide_eq_true e3⟩))))
      · refine ⟨_, rfl, _, _, rfl, rfl, _, rfl, ?_⟩
        refine ite2 (fun e4 => ?_) (fun e4 => ?_)
        · exact one (items_one (.inr (.inr ⟨hk, of_decide_eq_true e4⟩)))
        · -- units, two items
          have ek : k = "units" := kk e
          have z : itemsOf c k = [55296 + (c - 65536) / 1024, 56320 + (c - 65536) % 1024] := by
            unfold itemsOf
            rw [ek, if_neg (by decide +kernel), if_pos rfl]
            exact if_neg fun y => e3 (decide_eq_true y)
          rw [z] at q
          refine ⟨_, rfl, rfl, _, rfl, ?_⟩
          refine ite2 (fun _ => ?_) (fun n => absurd e n)
          refine ⟨_, rfl, _, _, rfl, rfl, _, _, rfl, rfl, ⟨by decide, by decide⟩, _, _, rfl, rfl, _, rfl, _, _, rfl, rfl, _, _, rfl, rfl, (show (1024 : Int) ≠ 0 by decide), _, _, rfl, rfl, (by show 2 ≤ sizeLine; decide), fun p hp => ?_⟩
          refine q p _ hp (same_new hp) ?_
          rw [upd_same]
          show some (HO.lst [V.int (55296 + (c - 65536).fdiv 1024), V.int (56320 + (c - 65536).fmod 1024)]) = _
          rw [fdiv_pos (by decide), fmod_pos (by decide)]
          rfl
    · refine iteF ?_
      refine ⟨_, rfl, _, _, rfl, rfl, _, rfl, ?_⟩
      refine ite2 (fun e4 => ?_) (fun e4 => ?_)
      · exact one (items_one (.inr (.inr ⟨hk, of_decide_eq_true e4⟩)))
      refine ⟨_, rfl, rfl, _, rfl, ?_⟩
      refine ite2 (fun e => absurd e e2) (fun _ => ?_)
      have n2 : ¬ c < 128 := fun y => e4 (decide_eq_true y)
      have ek : k = "bytes" := by
        rcases hk with h | h | h
        · exact h
        · exact absurd h (nk e2)
        · exact absurd h (nk e1)
      have zi : itemsOf c k = bytesOf c := if_pos ek
      rw [zi] at q
      have hn := bytesN_ge c
      have hn2 : 2 ≤ bytesN c := by
        unfold bytesN
        rw [if_neg n2]
        repeat' split
        all_goals omega
      refine ⟨Nat.zero_le _, fun l hl => ⟨_, rfl, _, _, rfl, ?_⟩⟩
      have s1 := same_new (o := .lst []) hl
      refine ⟨_, rfl, c, rfl, fun H1 sm1 => ?_⟩
      refine ⟨_, _, rfl, rfl, _, rfl, by omega, by omega, for_range (lo := 0) (n := ((bytesN c : Nat) - 1 : Int).toNat)
        (fun i σ H' => ∃ (v : Option V) (p : Addr), σ = [some (.int c), some (.str k), some (.ref p), some (.int (left i c)), v] ∧ Same H H' ∧ H' p = some (.lst (intL (behind i c))))
        ⟨none, l, rfl, s1.trans sm1, sm1 _ _ upd_same⟩ ?_ ?_⟩
      · rintro i σ H' hi ⟨v, p, rfl, sm, h1⟩
        have hlen : (intL (behind i c)).length = i := by rw [intL, List.length_map, behind_len]
        refine ⟨_, rfl, _, _, rfl, rfl, (show (64 : Int) ≠ 0 by decide), _, _, rfl, rfl, (by show 1 ≤ sizeLine; decide), fun l2 hl2 => ?_⟩
        have nlp : p ≠ l2 := ne_of_none h1 hl2
        refine ⟨_, rfl, l2, p, _, _, rfl, rfl, upd_same, (by rw [upd_ne nlp]; exact h1), ?_, fun l3 hl3 => ?_⟩
        · rw [hlen]
          show 1 + i ≤ sizeLine
          have : sizeLine = 16777216 := sizeLine_eq
          omega
        · refine ⟨_, rfl, _, _, rfl, rfl, ⟨by decide, by decide⟩, ?_⟩
          refine ⟨some (.int (0 + (i : Nat))), l3, ?_, (sm.trans (same_new hl2)).trans (same_new hl3), ?_⟩
          · show [some (V.int c), some (V.str k), some (V.ref l3), some (V.int ((left i c).fdiv 64)), some (V.int (0 + (i : Nat)))] = _
            rw [fdiv_pos (by decide)]
            rfl
          · rw [upd_same]
            show some (HO.lst ([V.int (128 + (left i c).fmod 64)] ++ intL (behind i c))) = _
            rw [fmod_pos (by decide)]
            rfl
      · rintro σ H' ⟨v, p, rfl, sm, h1⟩
        have en : ((bytesN c : Nat) - 1 : Int).toNat = bytesN c - 1 := by omega
        rw [en] at h1 ⊢
        have hlen : (intL (behind (bytesN c - 1) c)).length = bytesN c - 1 := by rw [intL, List.length_map, behind_len]
        have at3 : atI [V.int 192, V.int 224, V.int 240] (((intL (behind (bytesN c - 1) c)).length : Nat) - 1 : Int) = some (.int (first (bytesN c))) := by
          rw [hlen]
          generalize bytesN c = n at hn hn2
          have : n = 2 ∨ n = 3 ∨ n = 4 := by omega
          rcases this with rfl | rfl | rfl <;> rfl
        refine ⟨(by show 3 ≤ sizeLine; decide), fun l2 hl2 => ?_⟩
        have np2 : p ≠ l2 := ne_of_none h1 hl2
        have h2 : (upd H' l2 (.lst [V.int 192, V.int 224, V.int 240])) p = some (.lst (intL (behind (bytesN c - 1) c))) := by
          rw [upd_ne np2]
          exact h1
        refine ⟨_, rfl, .ref p, _, rfl, .inl ⟨_, SqL.of h2, rfl⟩, _, _, rfl, rfl, l2, _, _, _, rfl, rfl, SqL.of upd_same, at3, ?_⟩
        refine ⟨_, rfl, _, _, rfl, rfl, (by show 1 ≤ sizeLine; decide), fun l3 hl3 => ?_⟩
        have np3 : p ≠ l3 := ne_of_none h2 hl3
        refine ⟨_, rfl, l3, p, _, _, rfl, rfl, upd_same, (by rw [upd_ne np3]; exact h2), ?_, fun l4 hl4 => ?_⟩
        · rw [hlen]
          show 1 + (bytesN c - 1) ≤ sizeLine
          have : sizeLine = 16777216 := sizeLine_eq
          omega
        · have sm3 := sm.trans ((same_new hl2).trans (same_new (o := .lst [V.int (first (bytesN c) + left (bytesN c - 1) c)]) hl3))
          have hl4' := (same_new (o := .lst [V.int (first (bytesN c) + left (bytesN c - 1) c)]) hl3).free hl4
          refine q l4 _ (sm.free ((same_new hl2).free hl4')) (sm3.trans (same_new hl4)) ?_
          rw [upd_same]
          rfl
/-! ## what a door tells of its refusal -/
def spCaught : Sp := fun vs H Q _ => ∃ (n : Int) (x y : V), vs = [.int n, x, y] ∧ (∃ t, Ty H x t) ∧ (∃ t, Ty H y t) ∧
  ((chB x = false ∧ Gives H [.str "char", x] Q) ∨ (chB x = true ∧ kdB y = false ∧ Gives H [.str "kind", y] Q))
theorem fld (v : V) : List.lookup ("value" : Str) [(("value" : Str), v)] = some v := by simp [List.lookup]
theorem ok_caught (T : Txt K mg A) : FnOk P w K mg base CX0 6 A.a_l_caught A.d_l_caught ["_law_door", "_law_char_here", "_law_kind"] spCaught := by
  have G_width : FnOk P w K mg base (L2.CX P w) 5 A.a_width A.d_width ["char", "kind"] (spDoor A ansW) := ok_width T
  have G_items : FnOk P w K mg base (L2.CX P w) 5 A.a_items A.d_items ["char", "kind"] (spDoor A ansI) := ok_items T
  refine T.F_l_caught.ok sc_l_caught (fun vs H Q E h => ?_) (fun cdv A' outer s H vs Q E hr h => ?_)
  · obtain ⟨n, x, y, rfl, _⟩ := h
    rfl
  · obtain ⟨n, x, y, rfl, tx, ty, hq⟩ := h
    refine ⟨_, pss_one (ps_try_names (tb := fun W => tRet (tLst (tCons (tC (.str "told")) (tCons (tIf (tTest (tOp rEq (tVar 0) (tC (.int 0)))) (tCallS (spDoor A ansW) (WE W) (tCons (tVar 1) (tCons (tVar 2) tNil))) (tCallS (spDoor A ansI) (WE W) (tCons (tVar 1) (tCons (tVar 2) tNil)))) tNil)))) rfl rfl takes0
      (fun W pn xe tk _ => pss_one (ps_ret (pe_lst (pa_cons pe_str (pa_cons (pe_ifExp (pt_cmpR op_eq (pv 0) pe_int (nomark _))
        (by exact (pe_callS G_width hr rfl T.g_width T.F_width.kp T.b_width (fun σ => passAt tk σ) (by exact (pa_cons (pv 1) (pa_cons (pv 2) pa_nil)))))
        (by exact (pe_callS G_items hr rfl T.g_items T.F_items.kp T.b_items (fun σ => passAt tk σ) (by exact (pa_cons (pv 1) (pa_cons (pv 2) pa_nil)))))) pa_nil)))))
      (ClOk.co (i := 3) (c := .ref A.C_InvalidChar) (ts := fun a cl d => tRet (tLst (tCons (tC (.str "char")) (tCons (tXf a cl d A.C_InvalidChar "value" (tVar 3)) tNil)))) sc_l_caught.nd rfl rfl ⟨rfl, by decide, .inl T.g_InvalidChar⟩
        (fun a ob cl d pn hz hf => pss_one (ps_ret (pe_lst (pa_cons pe_str (pa_cons (by exact (pe_xf T.f_InvalidChar T.v_InvalidChar hz hf (pv 3))) pa_nil)))))
      (ClOk.co (i := 3) (c := .ref A.C_InvalidKind) (ts := fun a cl d => tRet (tLst (tCons (tC (.str "kind")) (tCons (tXf a cl d A.C_InvalidKind "value" (tVar 3)) tNil)))) sc_l_caught.nd rfl rfl ⟨rfl, by decide, .inl T.g_InvalidKind⟩
        (fun a ob cl d pn hz hf => pss_one (ps_ret (pe_lst (pa_cons pe_str (pa_cons (by exact (pe_xf T.f_InvalidKind T.v_InvalidKind hz hf (pv 3))) pa_nil)))))
      ClOk.no))), ?_⟩
    have key : ∀ (ans : Int → Str → Hp → VK → Prop) (D : Ends) (Q' : VK), D.rt = Q → spDoor A ans [x, y] H Q' (WE (wCl K (fun _ _ _ _ => False) D
        [(.ref A.C_InvalidChar, 3, fun a cl d => tRet (tLst (tCons (tC (.str "char")) (tCons (tXf a cl d A.C_InvalidChar "value" (tVar 3)) tNil)))),
         (.ref A.C_InvalidKind, 3, fun a cl d => tRet (tLst (tCons (tC (.str "kind")) (tCons (tXf a cl d A.C_InvalidKind "value" (tVar 3)) tNil))))]) [some (.int n), some x, some y, none]) := by
      intro ans D Q' eD
      refine ⟨x, y, rfl, tx, ty, fun ex d H' sm hd => ?_, fun ex ey d H' sm hd => ?_, fun c k e1 e2 ex ey => ?_⟩
      · rcases hq with ⟨_, q⟩ | ⟨e, _⟩
        · refine ⟨true, T.e_InvalidChar_InvalidChar, fun _ a ha => ?_, fun z => Bool.noConfusion z⟩
          refine ⟨_, rfl, rfl, rfl, d, _, x, rfl, hd, fld x, (by show 2 ≤ sizeLine; decide), fun p hp => ?_⟩
          show D.rt _ _
          rw [eD]
          exact q p _ (sm.free hp) (sm.trans (same_new hp)) upd_same
        · rw [ex] at e
          cases e
      · rcases hq with ⟨e, _⟩ | ⟨_, _, q⟩
        · rw [ex] at e
          cases e
        · refine ⟨false, T.e_InvalidKind_InvalidChar, fun z => Bool.noConfusion z, fun _ => ⟨true, T.e_InvalidKind_InvalidKind, fun _ a ha => ?_, fun z => Bool.noConfusion z⟩⟩
          refine ⟨_, rfl, rfl, rfl, d, _, y, rfl, hd, fld y, (by show 2 ≤ sizeLine; decide), fun p hp => ?_⟩
          show D.rt _ _
          rw [eD]
          exact q p _ (sm.free hp) (sm.trans (same_new hp)) upd_same
      · rcases hq with ⟨e, _⟩ | ⟨_, e, _⟩
        · rw [ex] at e
          cases e
        · rw [ey] at e
          cases e
    refine ⟨_, rfl, rfl, _, rfl, ?_⟩
    refine ite2 (fun _ => ?_) (fun _ => ?_)
    · exact ⟨_, rfl, _, rfl, key ansW _ _ rfl⟩
    · exact ⟨_, rfl, _, rfl, key ansI _ _ rfl⟩
end
end Tc

/-! # K4L -/
namespace Tc
open PySem PySem.Spec PyProof.Rows L2
/-! ## odd values, strange values -/
def oddInts : List Int := [-1, 55296, 57343, 56000, 1114112, 10 ^ (29 : Int).toNat]
inductive Odd (H : Hp) : V → Prop
  | non : Odd H .non
  | bl (b : Bool) : Odd H (.bl b)
  | int {i : Int} (h : i ∈ oddInts) : Odd H (.int i)
  | str : Odd H (.str "a")
  | lst {l : Addr} (h : H l = some (.lst [.int 97])) : Odd H (.ref l)
  | tup {l : Addr} (h : H l = some (.tup [.int 97])) : Odd H (.ref l)
  | dct {l : Addr} (h : H l = some (.dK [])) : Odd H (.ref l)
def Apart (v : V) (p : Addr) : Prop := v ≠ .ref p
theorem Odd.but {H H' : Hp} {v : V} {p : Addr} (h : Odd H v) (n : Apart v p) (b : But p H H') : Odd H' v := by
  have ne : ∀ {l : Addr}, V.ref l ≠ V.ref p → l ≠ p := fun k z => k (by rw [z])
  cases h with
  | non => exact .non
  | bl b => exact .bl b
  | int h => exact .int h
  | str => exact .str
  | lst h => exact .lst (b _ _ (ne n) h)
  | tup h => exact .tup (b _ _ (ne n) h)
  | dct h => exact .dct (b _ _ (ne n) h)
theorem Odd.same {H H' : Hp} {v : V} (h : Odd H v) (s : Same H H') : Odd H' v := by
  cases h with
  | non => exact .non
  | bl b => exact .bl b
  | int h => exact .int h
  | str => exact .str
  | lst h => exact .lst (s _ _ h)
  | tup h => exact .tup (s _ _ h)
  | dct h => exact .dct (s _ _ h)
theorem Odd.ty {H : Hp} {v : V} (h : Odd H v) : ∃ t, Ty H v t := by
  cases h with
  | non => exact ⟨_, .non⟩
  | bl b => exact ⟨_, .bl b⟩
  | int h => exact ⟨_, .int _⟩
  | str => exact ⟨_, .str _⟩
  | lst h => exact ⟨_, .lst h⟩
  | tup h => exact ⟨_, .tup h⟩
  | dct h => exact ⟨_, .dct h⟩
theorem oddInts_no : ∀ i ∈ oddInts, chB (.int i) = false := by decide +kernel
theorem Odd.no {H : Hp} {v : V} (h : Odd H v) : chB v = false := by
  cases h with
  | int h => exact oddInts_no _ h
  | non => rfl
  | bl b => rfl
  | str => rfl
  | lst h => rfl
  | tup h => rfl
  | dct h => rfl
/-- what is shown of ['char', v] -/
def Fit (d : PyData) : Prop := d.showable = true ∧ d.depth ≤ 8 ∧ d.shown.length ≤ sizeLine
theorem fitInts : ∀ i ∈ oddInts, (PyData.list [.str "char", .int i]).showable = true ∧ (PyData.list [.str "char", .int i]).depth ≤ 8 ∧ (PyData.list [.str "char", .int i]).shown.length ≤ 1000 := by decide +kernel
theorem Fit.of {d : PyData} (h : d.showable = true ∧ d.depth ≤ 8 ∧ d.shown.length ≤ 1000) : Fit d := ⟨h.1, h.2.1, Nat.le_trans h.2.2 (by decide)⟩
theorem Odd.data {K : PySem.W.Frag} {H : Hp} {v : V} (h : Odd H v) : ∃ d, (∀ H', Same H H' → Dq K H' v d) ∧ Fit (.list [.str "char", d]) := by
  cases h with
  | non => exact ⟨_, fun _ _ => .no, Fit.of (by decide +kernel)⟩
  | bl b => exact ⟨_, fun _ _ => .bo b, Fit.of (by cases b <;> decide +kernel)⟩
  | int h => exact ⟨_, fun _ _ => .it _, Fit.of (fitInts _ h)⟩
  | str => exact ⟨_, fun _ _ => .tx _, Fit.of (by decide +kernel)⟩
  | lst h => exact ⟨_, fun _ s => .li (SqL.of (s _ _ h)) (.co (.it 97) .no), Fit.of (by decide +kernel)⟩
  | tup h => exact ⟨_, fun _ s => .tu (SqT.of (s _ _ h)) (.co (.it 97) .no), Fit.of (by decide +kernel)⟩
  | dct h => exact ⟨_, fun _ s => .em (s _ _ h), Fit.of (by decide +kernel)⟩
def strStrs : List Str := ["", "Bytes", "byte", "chars "]
/-- n: how long a list among them may have grown -/
inductive Strange (H : Hp) (n : Nat) : V → Prop
  | non : Strange H n .non
  | bl (b : Bool) : Strange H n (.bl b)
  | int (i : Int) : Strange H n (.int i)
  | str {s : Str} (h : s ∈ strStrs) : Strange H n (.str s)
  | lst {l : Addr} {xs : List V} (h : H l = some (.lst xs)) (z : xs.length ≤ n) : Strange H n (.ref l)
  | tup {l : Addr} {xs : List V} (h : H l = some (.tup xs)) : Strange H n (.ref l)
  | dct {l : Addr} {kvs : List (Key × V)} (h : H l = some (.dK kvs)) : Strange H n (.ref l)
theorem Strange.ty {H : Hp} {n : Nat} {v : V} (h : Strange H n v) : ∃ t, Ty H v t := by
  cases h with
  | non => exact ⟨_, .non⟩
  | bl b => exact ⟨_, .bl b⟩
  | int i => exact ⟨_, .int i⟩
  | str h => exact ⟨_, .str _⟩
  | lst h => exact ⟨_, .lst h⟩
  | tup h => exact ⟨_, .tup h⟩
  | dct h => exact ⟨_, .dct h⟩
theorem strStrs_no : ∀ s ∈ strStrs, kdB (.str s) = false := by decide +kernel
theorem Strange.no {H : Hp} {n : Nat} {v : V} (h : Strange H n v) : kdB v = false := by
  cases h with
  | str h => exact strStrs_no _ h
  | non => rfl
  | bl b => rfl
  | int i => rfl
  | lst h => rfl
  | tup h => rfl
  | dct h => rfl
theorem Strange.same {H H' : Hp} {n : Nat} {v : V} (h : Strange H n v) (s : Same H H') : Strange H' n v := by
  cases h with
  | non => exact .non
  | bl b => exact .bl b
  | int i => exact .int i
  | str h => exact .str h
  | lst h z => exact .lst (s _ _ h) z
  | tup h => exact .tup (s _ _ h)
  | dct h => exact .dct (s _ _ h)
theorem Strange.but {H H' : Hp} {n : Nat} {v : V} {p : Addr} (h : Strange H n v) (m : Apart v p) (b : But p H H') : Strange H' n v := by
  have ne : ∀ {l : Addr}, V.ref l ≠ V.ref p → l ≠ p := fun k z => k (by rw [z])
  cases h with
  | non => exact .non
  | bl b => exact .bl b
  | int i => exact .int i
  | str h => exact .str h
  | lst h z => exact .lst (b _ _ (ne m) h) z
  | tup h => exact .tup (b _ _ (ne m) h)
  | dct h => exact .dct (b _ _ (ne m) h)
theorem Strange.le {H : Hp} {n m : Nat} {v : V} (h : Strange H n v) (k : n ≤ m) : Strange H m v := by
  cases h with
  | non => exact .non
  | bl b => exact .bl b
  | int i => exact .int i
  | str h => exact .str h
  | lst h z => exact .lst h (Nat.le_trans z k)
  | tup h => exact .tup h
  | dct h => exact .dct h
theorem Strange.plain {H : Hp} {n : Nat} {v : V} (h : Strange H n v) : plainV v = true := by
  cases h <;> rfl
/-! ## what is shown of a list of small whole numbers -/
theorem from_le : ∀ (ts : List Str) (k : Nat) (acc : Str), (∀ t ∈ ts, t.length ≤ 10) → (textFrom k acc ts).length ≤ acc.length + 12 * ts.length
  | [], k, acc, _ => Nat.le_add_right _ _
  | t :: r, k, acc, h => by
    have ih := from_le r (k + 1) (acc ++ (if k > 0 then ", " else "" : String) ++ t) fun u m => h u (List.mem_cons_of_mem _ m)
    have e0 : (Str.ofString "").length = 0 := by decide +kernel
    have e3 : (Str.ofString ", ").length = 2 := by decide +kernel
    have e : (acc ++ (if k > 0 then ", " else "" : String) ++ t).length ≤ acc.length + 2 + t.length := by
      rw [Str.length_append, Str.length_append]
      by_cases c : k > 0
      · rw [if_pos c, e3]
        omega
      · rw [if_neg c, e0]
        omega
    have ht := h t List.mem_cons_self
    rw [List.length_cons]
    show (textFrom (k + 1) (acc ++ (if k > 0 then ", " else "" : String) ++ t) r).length ≤ _
    omega
theorem shownAll_mem : ∀ (l : List Int) (t : Str), t ∈ PyData.shownAll (l.map PyData.int) → ∃ z ∈ l, t = Str.ofString (toString z)
  | [], t, m => by cases m
  | x :: r, t, m => by
    rcases List.mem_cons.mp m with e | e
    · exact ⟨x, List.mem_cons_self, e⟩
    · obtain ⟨z, hz, e⟩ := shownAll_mem r t e
      exact ⟨z, List.mem_cons_of_mem _ hz, e⟩
theorem shownAll_len : ∀ l : List Int, (PyData.shownAll (l.map PyData.int)).length = l.length
  | [] => rfl
  | x :: r => congrArg (· + 1) (shownAll_len r)
theorem showableAll_of : ∀ l : List Int, (∀ z ∈ l, 0 ≤ z ∧ z < 10000000) → PyData.showableAll (l.map PyData.int) = true
  | [], _ => rfl
  | x :: r, h => by
    have h1 := h x List.mem_cons_self
    have ih := showableAll_of r fun z m => h z (List.mem_cons_of_mem _ m)
    have hx : x.natAbs.log2 < 1920 := by
      have lt : x.natAbs < 2 ^ 24 := by omega
      by_cases z : x.natAbs = 0
      · rw [z]
        decide
      · exact Nat.lt_trans ((Nat.log2_lt z).mpr lt) (by decide)
    show (decide (x.natAbs.log2 < 1920) && PyData.showableAll (r.map PyData.int)) = true
    rw [decide_eq_true hx, ih]
    rfl
theorem depthAll_of : ∀ l : List Int, (PyData.list (l.map PyData.int)).depth ≤ 8 := by
  intro l
  have : PyData.depthAll (l.map PyData.int) ≤ 1 := by
    induction l with
    | nil => decide
    | cons x r ih =>
      show max (PyData.depth (.int x)) (PyData.depthAll (r.map PyData.int)) ≤ 1
      have e : PyData.depth (.int x) ≤ 1 := by simp [PyData.depth]
      omega
  show PyData.depthAll (l.map PyData.int) + 1 ≤ 8
  omega
theorem fit_ints {l : List Int} (h : ∀ z ∈ l, 0 ≤ z ∧ z < 10000000) (hl : l.length ≤ 4) : Fit (.list (l.map PyData.int)) := by
  refine ⟨showableAll_of l h, depthAll_of l, ?_⟩
  have f := from_le (PyData.shownAll (l.map PyData.int)) 0 "[" fun t m => by
    obtain ⟨z, hz, rfl⟩ := shownAll_mem l t m
    exact toString_length_le (h z hz).1 (by decide) (by have := (h z hz).2; omega)
  rw [shownAll_len] at f
  have e1 : (Str.ofString "[").length = 1 := by decide +kernel
  have e2 : (Str.ofString "]").length = 1 := by decide +kernel
  show (listText (PyData.shownAll (l.map PyData.int))).length ≤ sizeLine
  unfold listText
  rw [Str.length_append, e2]
  rw [e1] at f
  have : sizeLine = 16777216 := sizeLine_eq
  omega
theorem dq_ints {K : PySem.W.Frag} {H : Hp} : ∀ l : List Int, DqA K H (intL l) (l.map PyData.int)
  | [] => .no
  | x :: r => .co (.it x) (dq_ints r)
theorem small_log {n : Nat} (h : n ≤ 4) : ((n : Nat) : Int).natAbs.log2 < 1920 := by
  have : n = 0 ∨ n = 1 ∨ n = 2 ∨ n = 3 ∨ n = 4 := by omega
  rcases this with rfl | rfl | rfl | rfl | rfl <;> decide
theorem kit_list {K : PySem.W.Frag} {H : Hp} {n : Nat} {v : V} (h : Strange H n v) : ∃ t b, TyX K H v (.type t) ∧ PySem.W.kitOne K (.type t) (.type "list") = some b ∧ (b = true → ∃ l xs, v = .ref l ∧ H l = some (.lst xs) ∧ xs.length ≤ n) := by
  cases h with
  | non => exact ⟨_, false, Ty.non.x, kit_ty (by decide +kernel), fun z => Bool.noConfusion z⟩
  | bl b => exact ⟨_, false, (Ty.bl b).x, kit_ty (by decide +kernel), fun z => Bool.noConfusion z⟩
  | int i => exact ⟨_, false, (Ty.int i).x, kit_ty (by decide +kernel), fun z => Bool.noConfusion z⟩
  | str h => exact ⟨_, false, (Ty.str _).x, kit_ty (by decide +kernel), fun z => Bool.noConfusion z⟩
  | lst h z => exact ⟨_, true, (Ty.lst h).x, kit_ty (by decide +kernel), fun _ => ⟨_, _, rfl, h, z⟩⟩
  | tup h => exact ⟨_, false, (Ty.tup h).x, kit_ty (by decide +kernel), fun z => Bool.noConfusion z⟩
  | dct h => exact ⟨_, false, (Ty.dct h).x, kit_ty (by decide +kernel), fun z => Bool.noConfusion z⟩
end Tc

/-! # K4M -/
namespace Tc
open PySem PySem.Spec PyProof.Rows L2
/-- what is asked of the law's def -/
def LawOk (P : Program) : Prop := ∀ (w : World) (K : PySem.W.Frag) (mg : Str → Option Value) (A : Ads) (base : Heap) (H : Hp) (s : Shared) (a : Addr) (ns : List Int),
  Txt K mg A → (∀ (s : Shared) (v : Value), BindsTo s A.d_law ⟨[v], []⟩ [("_law_script", v)]) → ns.length ≤ 63 → SqL K H a (ns.map V.int) → Only H → Env0 P w K mg base callerA [] s H → SysD base →
  codeAny (model P w) callerA (.call (.ref A.a_law) ⟨[.ref a], []⟩) (CR CX0 [] P w H s (fun v _ => v = .bl true) fun _ _ _ => False) s
theorem But.same {p : Addr} {H H' : Hp} (h : But p H H') (n : H p = none) : Same H H' := fun b o e => h b o (fun z => by
  rw [z, n] at e
  cases e) e
theorem law_ok (P : Program) : LawOk P := by
  intro w K mg A base H s a ns T hb hn hS hO e0 sysb
  have G_l_cell : FnOk P w K mg base CX0 1 A.a_l_cell A.d_l_cell ["_law_script", "_law_index"] (spCell K) := ok_cell T
  have G_l_bag : FnOk P w K mg base CX0 1 A.a_l_bag A.d_l_bag ["_law_cell_here"] spBag := ok_bag T
  have G_l_take : FnOk P w K mg base CX0 1 A.a_l_take A.d_l_take ["_law_bag_here", "_law_many"] spTake := ok_take T
  have G_l_char : FnOk P w K mg base CX0 2 A.a_l_char A.d_l_char ["_law_bag_here"] spChar := ok_char T
  have G_l_items : FnOk P w K mg base CX0 2 A.a_l_items A.d_l_items ["_law_char_here", "_law_kind"] spLItems := ok_litems T
  have G_l_caught : FnOk P w K mg base CX0 6 A.a_l_caught A.d_l_caught ["_law_door", "_law_char_here", "_law_kind"] spCaught := ok_caught T
  have G_width : FnOk P w K mg base (L2.CX P w) 5 A.a_width A.d_width ["char", "kind"] (spDoor A ansW) := ok_width T
  have G_items : FnOk P w K mg base (L2.CX P w) 5 A.a_items A.d_items ["char", "kind"] (spDoor A ansI) := ok_items T
  refine fn_here (k := 6) (x := "law") (qual := "law") (st := s_law) (N := ["_law_script", "_law_index", "_law_bag_here", "_law_turn", "_law_char_here", "_law_kind", "_law_lap", "_law_found", "_law_odd", "_law_strange", "_law_door"]) (ps := ["_law_script"])
    (us := [.ref a]) (vs := [.ref a]) T.F_law sc_law ⟨rfl, by decide, by decide⟩ e0 (hb s (.ref a)) (.cons rfl .nil) rfl (fun cdv hr => ?_)
  refine ⟨_, PSs.nox (pss_cons (ps_for PassesOwn.never rfl (pi_range1 (by rfl) T.z_range (pa_cons (pe_callB (call_max2 rfl) (by rfl) T.z_max (by decide +kernel) (pa_cons pe_int (pa_cons (pe_callB (call_min2 rfl) (by rfl) T.z_min (by decide +kernel) (pa_cons pe_int (pa_cons (pe_callB call_len (by rfl) T.z_len (by decide +kernel) (pa_cons (pv 0) pa_nil)) pa_nil))) pa_nil))) pa_nil)) (pg_name (i := 1) sc_law.nd rfl (Or.inl rfl)) (pss_cons (ps_set (i := 2) sc_law.nd rfl (Or.inl rfl) (pe_call G_l_bag (hr.mono (by decide)) (by rfl) T.g_l_bag T.F_l_bag.kp T.b_l_bag .nil pass0 (pa_cons (pe_call G_l_cell (hr.mono (by decide)) (by rfl) T.g_l_cell T.F_l_cell.kp T.b_l_cell .nil pass0 (pa_cons (pv 0) (pa_cons (pv 1) pa_nil))) pa_nil))) (pss_one (ps_for PassesOwn.never rfl (pi_range1 (by rfl) T.z_range (pa_cons pe_int pa_nil)) (pg_name (i := 3) sc_law.nd rfl (Or.inl rfl)) (pss_cons (ps_set (i := 4) sc_law.nd rfl (Or.inl rfl) (pe_call G_l_char (hr.mono (by decide)) (by rfl) T.g_l_char T.F_l_char.kp T.b_l_char .nil pass0 (pa_cons (pv 2) pa_nil))) (pss_cons (ps_for PassesOwn.never rfl (pi_list (pe_lst (pa_cons pe_str (pa_cons pe_str (pa_cons pe_str pa_nil))))) (pg_name (i := 5) sc_law.nd rfl (Or.inl rfl)) (pss_one (ps_for PassesOwn.never rfl (pi_range1 (by rfl) T.z_range (pa_cons pe_int pa_nil)) (pg_name (i := 6) sc_law.nd rfl (Or.inl rfl)) (pss_cons (ps_set (i := 7) sc_law.nd rfl (Or.inl rfl) (pe_call G_items (hr.mono (by decide)) (by rfl) T.g_items T.F_items.kp T.b_items .nil passL (pa_cons (pv 4) (pa_cons (pv 5) pa_nil)))) (pss_cons (ps_if (PW.pt (pw_or (pt_cmpR op_ne (pe_callB (call_reprQ rfl hr.units sysb) (by rfl) T.z_repr (by decide +kernel) (pa_cons (pv 7) pa_nil)) (pe_callB (call_reprQ rfl hr.units sysb) (by rfl) T.z_repr (by decide +kernel) (pa_cons (pe_call G_l_items (hr.mono (by decide)) (by rfl) T.g_l_items T.F_l_items.kp T.b_l_items .nil pass0 (pa_cons (pv 4) (pa_cons (pv 5) pa_nil))) pa_nil)) (nomark _)) (pw_or1 (pt_cmpR op_ne (pe_callB (call_reprQ rfl hr.units sysb) (by rfl) T.z_repr (by decide +kernel) (pa_cons (pe_call G_width (hr.mono (by decide)) (by rfl) T.g_width T.F_width.kp T.b_width .nil passL (pa_cons (pv 4) (pa_cons (pv 5) pa_nil))) pa_nil)) (pe_callB (call_reprQ rfl hr.units sysb) (by rfl) T.z_repr (by decide +kernel) (pa_cons (pe_callB call_len (by rfl) T.z_len (by decide +kernel) (pa_cons (pv 7) pa_nil)) pa_nil)) (nomark _))))) (pss_one (ps_ret pe_bl)) pss_nil) (pss_one (ps_expr (pe_bm PySem.F.plainAttrs_list PySem.F.slot_list_append PySem.F.type_list_append mt_append (pv 7) (pa_cons pe_str pa_nil))))))))) (pss_cons (ps_set (i := 8) sc_law.nd rfl (Or.inl rfl) (pe_lst (pa_cons pe_non (pa_cons pe_bl (pa_cons pe_bl (pa_cons (pe_un un_neg pe_int) (pa_cons pe_int (pa_cons pe_int (pa_cons pe_int (pa_cons pe_int (pa_cons pe_str (pa_cons (pe_lst (pa_cons pe_int pa_nil)) (pa_cons (pe_tup (pa_cons pe_int pa_nil)) (pa_cons pe_dnewK (pa_cons (pe_op op_pow pe_int pe_int) pa_nil))))))))))))))) (pss_cons (ps_set (i := 8) sc_law.nd rfl (Or.inl rfl) (pe_ix ix_list (pv 8) (pe_call G_l_take (hr.mono (by decide)) (by rfl) T.g_l_take T.F_l_take.kp T.b_l_take .nil pass0 (pa_cons (pv 2) (pa_cons pe_int pa_nil))) (fun _ _ => rfl))) (pss_cons (ps_set (i := 9) sc_law.nd rfl (Or.inl rfl) (pe_ix ix_list (pe_lst (pa_cons pe_non (pa_cons pe_bl (pa_cons pe_str (pa_cons pe_str (pa_cons pe_str (pa_cons pe_int (pa_cons (pe_lst (pa_cons pe_str pa_nil)) (pa_cons pe_dnewK (pa_cons (pe_tup pa_nil) (pa_cons pe_str pa_nil))))))))))) (pe_call G_l_take (hr.mono (by decide)) (by rfl) T.g_l_take T.F_l_take.kp T.b_l_take .nil pass0 (pa_cons (pv 2) (pa_cons pe_int pa_nil))) (fun _ _ => rfl))) (pss_one (ps_for PassesOwn.never rfl (pi_range1 (by rfl) T.z_range (pa_cons pe_int pa_nil)) (pg_name (i := 10) sc_law.nd rfl (Or.inl rfl)) (pss_cons (ps_if (pt_cmpR op_ne (pe_callB (call_reprQ rfl hr.units sysb) (by rfl) T.z_repr (by decide +kernel) (pa_cons (pe_call G_l_caught (hr.mono (by decide)) (by rfl) T.g_l_caught T.F_l_caught.kp T.b_l_caught .nil pass0 (pa_cons (pv 10) (pa_cons (pv 8) (pa_cons (pe_ix ix_list (pe_lst (pa_cons (pv 9) (pa_cons pe_str pa_nil))) (pe_call G_l_take (hr.mono (by decide)) (by rfl) T.g_l_take T.F_l_take.kp T.b_l_take .nil pass0 (pa_cons (pv 2) (pa_cons pe_int pa_nil))) (fun _ _ => rfl)) pa_nil)))) pa_nil)) (pe_callB (call_reprQ rfl hr.units sysb) (by rfl) T.z_repr (by decide +kernel) (pa_cons (pe_lst (pa_cons pe_str (pa_cons (pv 8) pa_nil))) pa_nil)) (nomark _)) (pss_one (ps_ret pe_bl)) pss_nil) (pss_cons (ps_set (i := 7) sc_law.nd rfl (Or.inl rfl) (pe_call G_l_caught (hr.mono (by decide)) (by rfl) T.g_l_caught T.F_l_caught.kp T.b_l_caught .nil pass0 (pa_cons (pv 10) (pa_cons (pv 4) (pa_cons (pv 9) pa_nil))))) (pss_cons (ps_if (pt_val (pe_callB call_isi (by rfl) T.z_isinstance (by decide +kernel) (pa_cons (pv 9) (pa_cons (pe_bltn (by rfl) T.z_list (by decide +kernel) (v := .ty "list") rfl) pa_nil)))) (pss_one (ps_expr (pe_bm PySem.F.plainAttrs_list PySem.F.slot_list_append PySem.F.type_list_append mt_append (pv 9) (pa_cons pe_str pa_nil)))) pss_nil) (pss_one (ps_if (pt_cmpR (op_neSame hr.units) (pv 7) (pe_lst (pa_cons pe_str (pa_cons (pv 9) pa_nil))) (nomark _)) (pss_one (ps_ret pe_bl)) pss_nil)))))))))))))))) (pss_one (ps_ret pe_bl))), ?_⟩
  refine ⟨_, rfl, .ref a, _, rfl, .inl ⟨_, hS, rfl⟩, _, _, rfl, _, _, rfl, _, rfl, ?_, ?_, for_range (lo := 0)
    (fun i σ H' => ∃ v1 v2 v3 v4 v5 v6 v7 v8 v9 v10 : Option V, σ = [some (.ref a), v1, v2, v3, v4, v5, v6, v7, v8, v9, v10] ∧ Same H H')
    ⟨none, none, none, none, none, none, none, none, none, none, rfl, Same.refl H⟩ ?_ ?_⟩
  · repeat' split
    all_goals omega
  · repeat' split
    all_goals omega
  · rintro i σ Ha hi ⟨v1, v2, v3, v4, v5, v6, v7, v8, v9, v10, rfl, sm⟩
    refine ⟨_, rfl, _, rfl, a, ns, _, rfl, sm.seq hS, by omega, fun z => ⟨z, rfl, fun p H1 hp s1 hb1 => ?_⟩⟩
    refine ⟨6, rfl, by decide, by decide, for_range (lo := 0) (n := 6)
      (fun j σ H2 => ∃ v3 v4 v5 v6 v7 v8 v9 v10 : Option V, σ = [some (.ref a), some (.int (0 + (i : Nat))), some (.ref p), v3, v4, v5, v6, v7, v8, v9, v10] ∧ But p Ha H2 ∧ BagAt H2 p (100 * (j : Nat)))
      ⟨v3, v4, v5, v6, v7, v8, v9, v10, rfl, But.of s1, hb1.le (by omega)⟩ ?_ ?_⟩
    · rintro j σ H2 hj ⟨v3, v4, v5, v6, v7, v8, v9, v10, rfl, bt, bg⟩
      refine ⟨_, rfl, p, _, rfl, bg, by omega, fun c H3 hc bg3 bt3 => ?_⟩
      obtain ⟨c', ec, c0, c1⟩ := chB_int hc
      cases ec
      refine ⟨(by show 3 ≤ sizeLine; decide), fun kl hkl => ⟨kl, rfl, ⟨_, SqL.of upd_same⟩, for_list (K := K) (a := kl) (xs := [.str "bytes", .str "units", .str "chars"])
        (fun m σ H5 => ∃ v5 v6 v7 : Option V, σ = [some (.ref a), some (.int (0 + (i : Nat))), some (.ref p), some (.int (0 + (j : Nat))), some (.int c), v5, v6, v7, v8, v9, v10] ∧ Same (upd H3 kl (.lst [.str "bytes", .str "units", .str "chars"])) H5)
        ⟨v5, v6, v7, rfl, Same.refl _⟩ (fun m σ H5 _ ⟨_, _, _, _, s5⟩ => SqL.of (s5 _ _ upd_same)) ?_ ?_⟩⟩
      · rintro m x σ H5 hx ⟨v5, v6, v7, rfl, s5⟩
        obtain ⟨k, rfl, hk, kd⟩ : ∃ k : Str, x = .str k ∧ (k = "bytes" ∨ k = "units" ∨ k = "chars") ∧ kdB (.str k) = true := by
          rcases m with _ | _ | _ | m
          · exact ⟨_, (Option.some.inj hx).symm, .inl rfl, by decide +kernel⟩
          · exact ⟨_, (Option.some.inj hx).symm, .inr (.inl rfl), by decide +kernel⟩
          · exact ⟨_, (Option.some.inj hx).symm, .inr (.inr rfl), by decide +kernel⟩
          · cases hx
        refine ⟨2, rfl, by decide, by decide, for_range (lo := 0) (n := 2)
          (fun q σ H6 => ∃ v6 v7 : Option V, σ = [some (.ref a), some (.int (0 + (i : Nat))), some (.ref p), some (.int (0 + (j : Nat))), some (.int c), some (.str k), v6, v7, v8, v9, v10] ∧ Same (upd H3 kl (.lst [.str "bytes", .str "units", .str "chars"])) H6)
          ⟨v6, v7, rfl, s5⟩ ?_ ?_⟩
        · rintro q σ H6 hq ⟨v6, v7, rfl, s6⟩
          have F1 : Fit (.list ((itemsOf c k).map PyData.int)) := fit_ints (items_mem c0 c1) (by rw [items_len]; exact width_le c k)
          have no1 : chB (.int c) = false → False := fun e => by
            rw [hc] at e
            cases e
          have no2 : kdB (.str k) = false → False := fun e => by
            rw [kd] at e
            cases e
          refine ⟨_, rfl, _, rfl, .int c, .str k, rfl, ⟨_, .int c⟩, ⟨_, .str k⟩, fun e => (no1 e).elim, fun _ e => (no2 e).elim, fun c' k' e1 e2 _ _ => ?_⟩
          cases e1
          cases e2
          intro f H7 hf s7 hl7
          refine ⟨_, rfl, .inr ⟨f, _, rfl, .li (SqL.of hl7) (dq_ints _), F1.1, F1.2.1, F1.2.2, ?_⟩⟩
          refine ⟨_, rfl, _, rfl, c, k, rfl, c0, hk, fun g H8 hg s8 hl8 => .inr ⟨g, _, rfl, .li (SqL.of hl8) (dq_ints _), F1.1, F1.2.1, F1.2.2, ?_⟩⟩
          refine ⟨rfl, _, rfl, iteNS rfl ?_⟩
          refine ⟨_, rfl, _, rfl, .int c, .str k, rfl, ⟨_, .int c⟩, ⟨_, .str k⟩, fun e => (no1 e).elim, fun _ e => (no2 e).elim, fun c' k' e1 e2 _ _ => ?_⟩
          cases e1
          cases e2
          have hf8 := s8 _ _ hl7
          have ln : (intL (itemsOf c k)).length = widthOf c k := by rw [intL, List.length_map, items_len]
          refine .inl ⟨_, rfl, small_log (width_le c k), ?_⟩
          refine ⟨_, rfl, .ref f, _, rfl, .inl ⟨_, SqL.of hf8, rfl⟩, .inl ⟨_, rfl, small_log (by rw [ln]; exact width_le c k), ?_⟩⟩
          refine ⟨rfl, _, rfl, iteNS (by rw [ln]) ?_⟩
          have lt : (intL (itemsOf c k)).length < sizeLine := by
            rw [ln]
            exact Nat.lt_of_le_of_lt (width_le c k) (by decide)
          refine ⟨_, rfl, .inl ⟨rfl, _, SqL.of hf8⟩, f, _, _, rfl, rfl, hf8, lt, ?_⟩
          refine ⟨some (.int (0 + (q : Nat))), some (.ref f), rfl, fun b o e => ?_⟩
          have nb : b ≠ f := ne_of_none e (s6.free hf)
          rw [upd_ne nb]
          exact s8 _ _ (s7 _ _ (s6 _ _ e))
        · rintro σ H6 ⟨v6, v7, rfl, s6⟩
          exact ⟨some (.str k), v6, v7, rfl, s6⟩
      · rintro σ H5 ⟨v5, v6, v7, rfl, s5⟩
        have bg5 := (bg3.same (same_new hkl)).same s5
        have bt5 : But p Ha H5 := (bt.trans bt3).trans (But.of ((same_new hkl).trans s5))
        obtain ⟨px, hpx⟩ := bg5.there
        refine ⟨_, rfl, (by show 1 ≤ sizeLine; decide), fun l1 h1 => ⟨(by show 1 ≤ sizeLine; decide), fun t1 h2 => fun d1 h3 => ⟨_, _, rfl, rfl, ⟨by decide, by decide, by decide⟩, (by show 13 ≤ sizeLine; decide), fun ol h4 => ?_⟩⟩⟩
        have x1 := same_new (o := .lst [V.int 97]) h1
        have x2 := same_new (o := .tup [V.int 97]) h2
        have x3 := same_new (o := .dK []) h3
        have x4 := same_new (o := .lst [V.non, V.bl true, V.bl false, V.int (-1), V.int 55296, V.int 57343, V.int 56000, V.int 1114112, V.str "a", V.ref l1, V.ref t1, V.ref d1, V.int (10 ^ (29 : Int).toNat)]) h4
        have np : ∀ {t : Addr} {H' : Hp}, Same H5 H' → H' t = none → t ≠ p := fun {t H'} sx k z => by
          rw [z, sx _ _ hpx] at k
          cases k
        have n1 := np (Same.refl _) h1
        have n2 := np x1 h2
        have n3 := np (x1.trans x2) h3
        have n4 := np (x1.trans (x2.trans x3)) h4
        refine ⟨_, rfl, _, rfl, p, 13, _, rfl, by decide, by decide, (((bg5.same x1).same x2).same x3).same x4, by omega, fun r H7 r0 r1 bg7 bt7 => ?_⟩
        have hol := bt7 _ _ n4 upd_same
        have g1 := bt7 _ _ n1 ((x2.trans (x3.trans x4)) _ _ upd_same)
        have g2 := bt7 _ _ n2 ((x3.trans x4) _ _ upd_same)
        have g3 := bt7 _ _ n3 (x4 _ _ upd_same)
        have bt7' : But p Ha H7 := (bt5.trans (But.of (x1.trans (x2.trans (x3.trans x4))))).trans bt7
        have ap : ∀ {t : Addr}, t ≠ p → Apart (V.ref t) p := fun h z => h (V.ref.inj z)
        obtain ⟨v, hv, ov, av, lv⟩ : ∃ v, atI [V.non, V.bl true, V.bl false, V.int (-1), V.int 55296, V.int 57343, V.int 56000, V.int 1114112, V.str "a", V.ref l1, V.ref t1, V.ref d1, V.int (10 ^ (29 : Int).toNat)] r = some v ∧ Odd H7 v ∧ Apart v p ∧ ∀ q, H7 q = none → Apart v q := by
          have is : ∀ {t : Addr} {o : HO}, H7 t = some o → ∀ q, H7 q = none → Apart (V.ref t) q := fun h q k z => by
            rw [V.ref.inj z, k] at h
            cases h
          have cs : r = 0 ∨ r = 1 ∨ r = 2 ∨ r = 3 ∨ r = 4 ∨ r = 5 ∨ r = 6 ∨ r = 7 ∨ r = 8 ∨ r = 9 ∨ r = 10 ∨ r = 11 ∨ r = 12 := by omega
          rcases cs with rfl | rfl | rfl | rfl | rfl | rfl | rfl | rfl | rfl | rfl | rfl | rfl | rfl
          · exact ⟨_, rfl, .non, (fun z => nomatch z), fun _ _ z => nomatch z⟩
          · exact ⟨_, rfl, .bl _, (fun z => nomatch z), fun _ _ z => nomatch z⟩
          · exact ⟨_, rfl, .bl _, (fun z => nomatch z), fun _ _ z => nomatch z⟩
          · exact ⟨_, rfl, .int (by decide), (fun z => nomatch z), fun _ _ z => nomatch z⟩
          · exact ⟨_, rfl, .int (by decide), (fun z => nomatch z), fun _ _ z => nomatch z⟩
          · exact ⟨_, rfl, .int (by decide), (fun z => nomatch z), fun _ _ z => nomatch z⟩
          · exact ⟨_, rfl, .int (by decide), (fun z => nomatch z), fun _ _ z => nomatch z⟩
          · exact ⟨_, rfl, .int (by decide), (fun z => nomatch z), fun _ _ z => nomatch z⟩
          · exact ⟨_, rfl, .str, (fun z => nomatch z), fun _ _ z => nomatch z⟩
          · exact ⟨_, rfl, .lst g1, ap n1, is g1⟩
          · exact ⟨_, rfl, .tup g2, ap n2, is g2⟩
          · exact ⟨_, rfl, .dct g3, ap n3, is g3⟩
          · exact ⟨_, rfl, .int (by decide), (fun z => nomatch z), fun _ _ z => nomatch z⟩
        refine ⟨ol, _, _, v, rfl, rfl, SqL.of hol, hv, ?_⟩
        obtain ⟨py, hpy⟩ := bg7.there
        refine ⟨(by show 1 ≤ sizeLine; decide), fun l2 k1 => fun d2 k2 => ⟨Nat.zero_le _, fun t2 k3 => ⟨(by show 10 ≤ sizeLine; decide), fun sl k4 => ?_⟩⟩⟩
        have y1 := same_new (o := .lst [V.str "bytes"]) k1
        have y2 := same_new (o := .dK []) k2
        have y3 := same_new (o := .tup []) k3
        have y4 := same_new (o := .lst [V.non, V.bl true, V.str "", V.str "Bytes", V.str "byte", V.int 0, V.ref l2, V.ref d2, V.ref t2, V.str "chars "]) k4
        have np7 : ∀ {t : Addr} {H' : Hp}, Same H7 H' → H' t = none → t ≠ p := fun {t H'} sx k z => by
          rw [z, sx _ _ hpy] at k
          cases k
        have m1 := np7 (Same.refl _) k1
        have m2 := np7 y1 k2
        have m3 := np7 (y1.trans y2) k3
        have m4 := np7 (y1.trans (y2.trans y3)) k4
        refine ⟨_, rfl, p, 10, _, rfl, by decide, by decide, (((bg7.same y1).same y2).same y3).same y4, by omega, fun r2 H9 r20 r21 bg9 bt9 => ?_⟩
        have hsl := bt9 _ _ m4 upd_same
        have e1 := bt9 _ _ m1 ((y2.trans (y3.trans y4)) _ _ upd_same)
        have e2 := bt9 _ _ m2 ((y3.trans y4) _ _ upd_same)
        have e3 := bt9 _ _ m3 (y4 _ _ upd_same)
        have y := y1.trans (y2.trans (y3.trans y4))
        have bt9' : But p Ha H9 := (bt7'.trans (But.of y)).trans bt9
        obtain ⟨u, hu, su, au, fu⟩ : ∃ u, atI [V.non, V.bl true, V.str "", V.str "Bytes", V.str "byte", V.int 0, V.ref l2, V.ref d2, V.ref t2, V.str "chars "] r2 = some u ∧ Strange H9 1 u ∧ Apart u p ∧ ∀ l, u = .ref l → H7 l = none := by
          have cs : r2 = 0 ∨ r2 = 1 ∨ r2 = 2 ∨ r2 = 3 ∨ r2 = 4 ∨ r2 = 5 ∨ r2 = 6 ∨ r2 = 7 ∨ r2 = 8 ∨ r2 = 9 := by omega
          have q1 : ∀ l, V.ref l2 = V.ref l → H7 l = none := fun l z => by
            rw [← V.ref.inj z]
            exact k1
          have q2 : ∀ l, V.ref d2 = V.ref l → H7 l = none := fun l z => by
            rw [← V.ref.inj z]
            exact y1.free k2
          have q3 : ∀ l, V.ref t2 = V.ref l → H7 l = none := fun l z => by
            rw [← V.ref.inj z]
            exact (y1.trans y2).free k3
          rcases cs with rfl | rfl | rfl | rfl | rfl | rfl | rfl | rfl | rfl | rfl
          · exact ⟨_, rfl, .non, (fun z => nomatch z), fun _ z => nomatch z⟩
          · exact ⟨_, rfl, .bl _, (fun z => nomatch z), fun _ z => nomatch z⟩
          · exact ⟨_, rfl, .str (by decide +kernel), (fun z => nomatch z), fun _ z => nomatch z⟩
          · exact ⟨_, rfl, .str (by decide +kernel), (fun z => nomatch z), fun _ z => nomatch z⟩
          · exact ⟨_, rfl, .str (by decide +kernel), (fun z => nomatch z), fun _ z => nomatch z⟩
          · exact ⟨_, rfl, .int _, (fun z => nomatch z), fun _ z => nomatch z⟩
          · exact ⟨_, rfl, .lst e1 (Nat.le_refl _), ap m1, q1⟩
          · exact ⟨_, rfl, .dct e2, ap m2, q2⟩
          · exact ⟨_, rfl, .tup e3, ap m3, q3⟩
          · exact ⟨_, rfl, .str (by decide +kernel), (fun z => nomatch z), fun _ z => nomatch z⟩
        refine ⟨sl, _, _, u, rfl, rfl, SqL.of hsl, hu, ?_⟩
        have ua : ∀ l, u = .ref l → Ha l = none := fun l z => by
          have h7 := fu l z
          have nl : l ≠ p := fun w => au (by rw [z, w])
          cases q : Ha l with
          | none => rfl
          | some o =>
            rw [bt7' _ _ nl q] at h7
            cases h7
        refine ⟨2, rfl, by decide, by decide, for_range (lo := 0) (n := 2)
          (fun q σ H' => ∃ v7 v10 : Option V, σ = [some (.ref a), some (.int (0 + (i : Nat))), some (.ref p), some (.int (0 + (j : Nat))), some (.int c), v5, v6, v7, some v, some u, v10] ∧ But p Ha H' ∧ BagAt H' p (100 * (j : Nat) + 5 + (q : Nat)) ∧ Odd H' v ∧ Strange H' (1 + q) u)
          ⟨v7, v10, rfl, bt9', bg9.le (by omega), (ov.same y).but av bt9, su⟩ ?_ ?_⟩
        · rintro q σ H10 hq ⟨v7, v10, rfl, bt10, bg10, ov10, su10⟩
          obtain ⟨pz, hpz⟩ := bg10.there
          refine ⟨_, rfl, _, rfl, _, rfl, (by show 2 ≤ sizeLine; decide), fun wl kw => ?_⟩
          have w1 := same_new (o := .lst [u, V.str "bytes"]) kw
          have nw : wl ≠ p := fun z => by
            rw [z, hpz] at kw
            cases kw
          refine ⟨_, rfl, p, 2, _, rfl, by decide, by decide, bg10.same w1, by omega, fun r3 H11 r30 r31 bg11 bt11 => ?_⟩
          have hw := bt11 _ _ nw upd_same
          have ov11 := (ov10.same w1).but av bt11
          have su11 := (su10.same w1).but au bt11
          obtain ⟨d, hd, fd⟩ := ov11.data (K := K)
          obtain ⟨y, hy, ty⟩ : ∃ y, atI [u, V.str "bytes"] r3 = some y ∧ ∃ t, Ty H11 y t := by
            have cs : r3 = 0 ∨ r3 = 1 := by omega
            rcases cs with rfl | rfl
            · exact ⟨_, rfl, su11.ty⟩
            · exact ⟨_, rfl, _, .str _⟩
          refine ⟨wl, _, _, y, rfl, rfl, SqL.of hw, hy, _, v, y, rfl, ov11.ty, ty, .inl ⟨ov11.no, fun g H12 hg s12 hl12 => ?_⟩⟩
          refine .inr ⟨g, _, rfl, .li (SqL.of hl12) (.co (.tx "char") (.co (hd _ s12) .no)), fd.1, fd.2.1, fd.2.2, ?_⟩
          refine ⟨_, rfl, (by show 2 ≤ sizeLine; decide), fun g2 hg2 => .inr ⟨g2, _, rfl, .li (SqL.of upd_same) (.co (.tx "char") (.co (hd _ (s12.trans (same_new hg2))) .no)), fd.1, fd.2.1, fd.2.2, ?_⟩⟩
          refine ⟨rfl, _, rfl, iteNS rfl ?_⟩
          have s13 := s12.trans (same_new (o := .lst [V.str "char", v]) hg2)
          have su13 := su11.same s13
          have bg13 := bg11.same s13
          have ov13 := ov11.same s13
          have bt13 : But p Ha _ := ((bt10.trans (But.of w1)).trans bt11).trans (But.of s13)
          refine ⟨_, rfl, _, rfl, _, rfl, _, .int c, u, rfl, ⟨_, .int c⟩, su13.ty, .inr ⟨hc, su13.no, fun f H14 hf s14 hl14 => ?_⟩⟩
          have su14 := su13.same s14
          have bg14 := bg13.same s14
          have ov14 := ov13.same s14
          have bt14 : But p Ha H14 := bt13.trans (But.of s14)
          obtain ⟨t, b, tyx, kit, yes⟩ := kit_list (K := K) su14
          refine ⟨_, rfl, u, .ty "list", .type t, .type "list", b, rfl, .ty _, tyx, kit, b, rfl, ?_⟩
          refine ite2 (fun e => ?_) (fun e => ?_)
          · obtain ⟨l, xs, rfl, hxl, zl⟩ := yes e
            have nlp : l ≠ p := fun z => au (by rw [z])
            have nlf : f ≠ l := fun z => by
              have w0 := su13
              cases w0 with
              | lst h z' =>
                rw [z, h] at hf
                cases hf
              | tup h =>
                rw [z, h] at hf
                cases hf
              | dct h =>
                rw [z, h] at hf
                cases hf
            have lt : xs.length < sizeLine := by
              have : sizeLine = 16777216 := sizeLine_eq
              omega
            refine ⟨_, rfl, .inl ⟨rfl, _, SqL.of hxl⟩, l, _, _, rfl, rfl, hxl, lt, ?_⟩
            have hf15 : (upd H14 l (.lst (xs ++ [V.str "Late 1"]))) f = some (.lst [V.str "kind", V.ref l]) := by
              rw [upd_ne nlf]
              exact hl14
            refine ⟨_, rfl, _, rfl, (by show 2 ≤ sizeLine; decide), fun g3 hg3 => ⟨f, g3, [.str "kind", .ref l], rfl, rfl, SqL.of ((same_new hg3) _ _ hf15), SqL.of upd_same, rfl, _, rfl, iteF ?_⟩⟩
            have s16 := same_new (o := .lst [V.str "kind", V.ref l]) hg3
            refine ⟨some (.ref f), some (.int (0 + (q : Nat))), rfl, ?_, ?_, ?_, ?_⟩
            · intro b' o n' e'
              have nb : b' ≠ l := ne_of_none e' (ua l rfl)
              refine s16 _ _ ?_
              rw [upd_ne nb]
              exact bt14 _ _ n' e'
            · obtain ⟨b0, b1, b2, hb', z0, z1, z2, z3, z4⟩ := bg14
              exact ⟨b0, b1, b2, s16 _ _ (by rw [upd_ne (Ne.symm nlp)]; exact hb'), z0, z1, z2, z3, by omega⟩
            · exact (ov14.but (p := l) (lv l (fu l rfl)) but_upd).same s16
            · exact .lst (s16 _ _ upd_same) (by rw [List.length_append, List.length_singleton]; omega)
          · refine ⟨_, rfl, _, rfl, (by show 2 ≤ sizeLine; decide), fun g3 hg3 => ⟨f, g3, [.str "kind", u], rfl, rfl, SqL.of ((same_new hg3) _ _ hl14), SqL.of upd_same, ?_, _, rfl, iteF ?_⟩⟩
            · show (plainV u && true) = true
              rw [su14.plain]
              rfl
            have s16 := same_new (o := .lst [V.str "kind", u]) hg3
            exact ⟨some (.ref f), some (.int (0 + (q : Nat))), rfl, bt14.trans (But.of s16), (bg14.same s16).le (by omega), ov14.same s16, (su14.same s16).le (by omega)⟩
        · rintro σ H' ⟨v7, v10, rfl, bt', bg', _, _⟩
          exact ⟨some (.int (0 + (j : Nat))), some (.int c), v5, v6, v7, some v, some u, v10, rfl, bt', bg'.le (by omega)⟩
    · rintro σ H2 ⟨v3, v4, v5, v6, v7, v8, v9, v10, rfl, bt, bg⟩
      exact ⟨some (.int (0 + (i : Nat))), some (.ref p), v3, v4, v5, v6, v7, v8, v9, v10, rfl, sm.trans (bt.same hp)⟩
  · rintro σ H' ⟨v1, v2, v3, v4, v5, v6, v7, v8, v9, v10, rfl, sm⟩
    exact rfl
end Tc

namespace Tc
open PySem PySem.Spec PyProof.Rows L2
theorem refsVE_two {P : Addr} : PySem.HandSPX.refsVE [.ref P, .type "ValueError", .type "Exception", .type "BaseException", .type "object"] = true := by
  show PySem.HandSPX.refsVE [.type "ValueError", .type "Exception", .type "BaseException", .type "object"] = true
  decide +kernel
theorem exm_two {K : PySem.W.Frag} {C D : Addr} {b : Bool} (h1 : PySem.W.subIn K (.ref D) (.type "BaseException") = some true) (h2 : PySem.W.isClsIn K D = true) (h3 : PySem.W.typeIn K (.ref D) = some (.type "type")) (h4 : PySem.W.subIn K (.ref C) (.ref D) = some b) :
    PySem.W.exmOne K (.ref C) (.ref D) = some b := by
  have e1 : (PySem.W.subIn K (.ref D) (.type "BaseException") == some true) = true := by rw [h1] <;> rfl
  have e2 : ((PySem.W.clsIn K D).isSome && PySem.W.typeIn K (.ref D) == some (.type "type")) = true := by
    have h5 : (PySem.W.clsIn K D).isSome = true := h2
    rw [h5, h3] <;> rfl
  show (if (PySem.W.subIn K (.ref D) (.type "BaseException") == some true) = true then
    (if ((PySem.W.clsIn K D).isSome && PySem.W.typeIn K (.ref D) == some (.type "type")) = true then PySem.W.subIn K (.ref C) (.ref D) else none) else none) = some b
  rw [if_pos e1, if_pos e2]
  exact h4
theorem all_mk {K : PySem.W.Frag} {h : Heap} {mg : Str → Option Value} {fa : Addr} (X : K.In h) (G : h.Ns mainGlobals mg) (hfa : mg "law" = some (.ref fa))
    {f1 : Addr} {od1 an1 : Option Addr} {sl1 : Array (Option Value)} {oc1 kV1 dc1 pm1 cd1 ct1 : Value}
    {f2 : Addr} {od2 an2 : Option Addr} {sl2 : Array (Option Value)} {oc2 kV2 dc2 pm2 cd2 ct2 : Value}
    {f3 : Addr} {od3 an3 : Option Addr} {sl3 : Array (Option Value)} {oc3 kV3 dc3 pm3 cd3 ct3 : Value}
    {f4 : Addr} {od4 an4 : Option Addr} {sl4 : Array (Option Value)} {oc4 kV4 dc4 pm4 cd4 ct4 : Value}
    {f5 : Addr} {od5 an5 : Option Addr} {sl5 : Array (Option Value)} {oc5 kV5 dc5 pm5 cd5 ct5 : Value}
    {f6 : Addr} {od6 an6 : Option Addr} {sl6 : Array (Option Value)} {oc6 kV6 dc6 pm6 cd6 ct6 : Value}
    {f7 : Addr} {od7 an7 : Option Addr} {sl7 : Array (Option Value)} {oc7 kV7 dc7 pm7 cd7 ct7 : Value}
    {f8 : Addr} {od8 an8 : Option Addr} {sl8 : Array (Option Value)} {oc8 kV8 dc8 pm8 cd8 ct8 : Value}
    {f9 : Addr} {od9 an9 : Option Addr} {sl9 : Array (Option Value)} {oc9 kV9 dc9 pm9 cd9 ct9 : Value}
    {f10 : Addr} {od10 an10 : Option Addr} {sl10 : Array (Option Value)} {oc10 kV10 dc10 pm10 cd10 ct10 : Value}
    {f11 : Addr} {od11 an11 : Option Addr} {sl11 : Array (Option Value)} {oc11 kV11 dc11 pm11 cd11 ct11 : Value}
    {f12 : Addr} {od12 an12 : Option Addr} {sl12 : Array (Option Value)} {oc12 kV12 dc12 pm12 cd12 ct12 : Value}
    {f13 : Addr} {od13 an13 : Option Addr} {sl13 : Array (Option Value)} {oc13 kV13 dc13 pm13 cd13 ct13 : Value}
    {f14 : Addr} {od14 an14 : Option Addr} {sl14 : Array (Option Value)} {oc14 kV14 dc14 pm14 cd14 ct14 : Value}
    {f15 : Addr} {od15 an15 : Option Addr} {sl15 : Array (Option Value)} {oc15 kV15 dc15 pm15 cd15 ct15 : Value}
    {f16 : Addr} {od16 an16 : Option Addr} {sl16 : Array (Option Value)} {oc16 kV16 dc16 pm16 cd16 ct16 : Value}
    {f17 : Addr} {od17 an17 : Option Addr} {sl17 : Array (Option Value)} {oc17 kV17 dc17 pm17 cd17 ct17 : Value}
    {f18 : Addr} {od18 an18 : Option Addr} {sl18 : Array (Option Value)} {oc18 kV18 dc18 pm18 cd18 ct18 : Value}
    {f19 : Addr} {od19 an19 : Option Addr} {sl19 : Array (Option Value)} {oc19 kV19 dc19 pm19 cd19 ct19 : Value}
    {f20 : Addr} {od20 an20 : Option Addr} {sl20 : Array (Option Value)} {oc20 kV20 dc20 pm20 cd20 ct20 : Value}
    {f21 : Addr} {od21 an21 : Option Addr} {sl21 : Array (Option Value)} {oc21 kV21 dc21 pm21 cd21 ct21 : Value}
    {f22 : Addr} {od22 an22 : Option Addr} {sl22 : Array (Option Value)} {oc22 kV22 dc22 pm22 cd22 ct22 : Value}
    {C_InvalidChar n_InvalidChar P_InvalidChar : Addr} {nm_InvalidChar q_InvalidChar : Str} {N_InvalidChar : Addr} {bs_InvalidChar : List Value} {sn_InvalidChar : List Str} {sub_InvalidChar : List Value} {ab_InvalidChar : Bool} {col_InvalidChar : Option Bool} {dd_InvalidChar : Option Addr} {m0_InvalidChar m1_InvalidChar m2_InvalidChar m3_InvalidChar m5_InvalidChar : Option Value} {od_InvalidChar an_InvalidChar : Option Addr} {sl_InvalidChar : Array (Option Value)} {oc_InvalidChar kV_InvalidChar dc_InvalidChar pm_InvalidChar cd_InvalidChar ct_InvalidChar : Value}
    {C_InvalidKind n_InvalidKind P_InvalidKind : Addr} {nm_InvalidKind q_InvalidKind : Str} {N_InvalidKind : Addr} {bs_InvalidKind : List Value} {sn_InvalidKind : List Str} {sub_InvalidKind : List Value} {ab_InvalidKind : Bool} {col_InvalidKind : Option Bool} {dd_InvalidKind : Option Addr} {m0_InvalidKind m1_InvalidKind m2_InvalidKind m3_InvalidKind m5_InvalidKind : Option Value} {od_InvalidKind an_InvalidKind : Option Addr} {sl_InvalidKind : Array (Option Value)} {oc_InvalidKind kV_InvalidKind dc_InvalidKind pm_InvalidKind cd_InvalidKind ct_InvalidKind : Value}
    {t_LAST_CHAR : Tok}
    {t_FIRST_SURROGATE : Tok}
    {t_LAST_SURROGATE : Tok}
    {t_NEXT_BYTE : Tok}
    {t_BYTE_SHARE : Tok}
    {t_FIRST_WIDE : Tok}
    {t_HIGH_UNIT : Tok}
    {t_LOW_UNIT : Tok}
    {t_UNIT_SHARE : Tok}
    {t_KINDS : Addr} {dd_KINDS : Option Addr} {n_KINDS : Nat} {sl_KINDS : Array (Option Value)} {k0_KINDS k1_KINDS k2_KINDS : Tok}
    {t_FIRST_BYTES : Addr} {n_FIRST_BYTES : Nat} {k0_FIRST_BYTES v0_FIRST_BYTES k1_FIRST_BYTES v1_FIRST_BYTES k2_FIRST_BYTES v2_FIRST_BYTES k3_FIRST_BYTES v3_FIRST_BYTES : Tok}
    (a1 : PySem.W.nsIn K mainGlobals "is_integer" = some (some (.ref f1)))
    (l1 : K.lookup f1 = some ⟨oc1, od1, .func (PySem.W.fnOf "is_integer" "is_integer" (defArgs s_is_integer) (defBody s_is_integer) (defScope s_is_integer) .none kV1 dc1 pm1 an1 cd1 ct1), sl1⟩)
    (c1 : PySem.W.codeIn K cd1 "is_integer" = true)
    (k1 : PySem.W.keepIn K (.ref f1) = true)
    (a2 : PySem.W.nsIn K mainGlobals "is_whole" = some (some (.ref f2)))
    (l2 : K.lookup f2 = some ⟨oc2, od2, .func (PySem.W.fnOf "is_whole" "is_whole" (defArgs s_is_whole) (defBody s_is_whole) (defScope s_is_whole) .none kV2 dc2 pm2 an2 cd2 ct2), sl2⟩)
    (c2 : PySem.W.codeIn K cd2 "is_whole" = true)
    (k2 : PySem.W.keepIn K (.ref f2) = true)
    (a3 : PySem.W.nsIn K mainGlobals "is_char" = some (some (.ref f3)))
    (l3 : K.lookup f3 = some ⟨oc3, od3, .func (PySem.W.fnOf "is_char" "is_char" (defArgs s_is_char) (defBody s_is_char) (defScope s_is_char) .none kV3 dc3 pm3 an3 cd3 ct3), sl3⟩)
    (c3 : PySem.W.codeIn K cd3 "is_char" = true)
    (k3 : PySem.W.keepIn K (.ref f3) = true)
    (a4 : PySem.W.nsIn K mainGlobals "is_kind" = some (some (.ref f4)))
    (l4 : K.lookup f4 = some ⟨oc4, od4, .func (PySem.W.fnOf "is_kind" "is_kind" (defArgs s_is_kind) (defBody s_is_kind) (defScope s_is_kind) .none kV4 dc4 pm4 an4 cd4 ct4), sl4⟩)
    (c4 : PySem.W.codeIn K cd4 "is_kind" = true)
    (k4 : PySem.W.keepIn K (.ref f4) = true)
    (a5 : PySem.W.nsIn K mainGlobals "width" = some (some (.ref f5)))
    (l5 : K.lookup f5 = some ⟨oc5, od5, .func (PySem.W.fnOf "width" "width" (defArgs s_width) (defBody s_width) (defScope s_width) .none kV5 dc5 pm5 an5 cd5 ct5), sl5⟩)
    (c5 : PySem.W.codeIn K cd5 "width" = true)
    (k5 : PySem.W.keepIn K (.ref f5) = true)
    (a6 : PySem.W.nsIn K mainGlobals "items" = some (some (.ref f6)))
    (l6 : K.lookup f6 = some ⟨oc6, od6, .func (PySem.W.fnOf "items" "items" (defArgs s_items) (defBody s_items) (defScope s_items) .none kV6 dc6 pm6 an6 cd6 ct6), sl6⟩)
    (c6 : PySem.W.codeIn K cd6 "items" = true)
    (k6 : PySem.W.keepIn K (.ref f6) = true)
    (a7 : PySem.W.nsIn K mainGlobals "check_char" = some (some (.ref f7)))
    (l7 : K.lookup f7 = some ⟨oc7, od7, .func (PySem.W.fnOf "check_char" "check_char" (defArgs s_check_char) (defBody s_check_char) (defScope s_check_char) .none kV7 dc7 pm7 an7 cd7 ct7), sl7⟩)
    (c7 : PySem.W.codeIn K cd7 "check_char" = true)
    (k7 : PySem.W.keepIn K (.ref f7) = true)
    (a8 : PySem.W.nsIn K mainGlobals "check_kind" = some (some (.ref f8)))
    (l8 : K.lookup f8 = some ⟨oc8, od8, .func (PySem.W.fnOf "check_kind" "check_kind" (defArgs s_check_kind) (defBody s_check_kind) (defScope s_check_kind) .none kV8 dc8 pm8 an8 cd8 ct8), sl8⟩)
    (c8 : PySem.W.codeIn K cd8 "check_kind" = true)
    (k8 : PySem.W.keepIn K (.ref f8) = true)
    (a9 : PySem.W.nsIn K mainGlobals "char_width" = some (some (.ref f9)))
    (l9 : K.lookup f9 = some ⟨oc9, od9, .func (PySem.W.fnOf "char_width" "char_width" (defArgs s_char_width) (defBody s_char_width) (defScope s_char_width) .none kV9 dc9 pm9 an9 cd9 ct9), sl9⟩)
    (c9 : PySem.W.codeIn K cd9 "char_width" = true)
    (k9 : PySem.W.keepIn K (.ref f9) = true)
    (a10 : PySem.W.nsIn K mainGlobals "byte_width" = some (some (.ref f10)))
    (l10 : K.lookup f10 = some ⟨oc10, od10, .func (PySem.W.fnOf "byte_width" "byte_width" (defArgs s_byte_width) (defBody s_byte_width) (defScope s_byte_width) .none kV10 dc10 pm10 an10 cd10 ct10), sl10⟩)
    (c10 : PySem.W.codeIn K cd10 "byte_width" = true)
    (k10 : PySem.W.keepIn K (.ref f10) = true)
    (a11 : PySem.W.nsIn K mainGlobals "unit_width" = some (some (.ref f11)))
    (l11 : K.lookup f11 = some ⟨oc11, od11, .func (PySem.W.fnOf "unit_width" "unit_width" (defArgs s_unit_width) (defBody s_unit_width) (defScope s_unit_width) .none kV11 dc11 pm11 an11 cd11 ct11), sl11⟩)
    (c11 : PySem.W.codeIn K cd11 "unit_width" = true)
    (k11 : PySem.W.keepIn K (.ref f11) = true)
    (a12 : PySem.W.nsIn K mainGlobals "char_items" = some (some (.ref f12)))
    (l12 : K.lookup f12 = some ⟨oc12, od12, .func (PySem.W.fnOf "char_items" "char_items" (defArgs s_char_items) (defBody s_char_items) (defScope s_char_items) .none kV12 dc12 pm12 an12 cd12 ct12), sl12⟩)
    (c12 : PySem.W.codeIn K cd12 "char_items" = true)
    (k12 : PySem.W.keepIn K (.ref f12) = true)
    (a13 : PySem.W.nsIn K mainGlobals "byte_items" = some (some (.ref f13)))
    (l13 : K.lookup f13 = some ⟨oc13, od13, .func (PySem.W.fnOf "byte_items" "byte_items" (defArgs s_byte_items) (defBody s_byte_items) (defScope s_byte_items) .none kV13 dc13 pm13 an13 cd13 ct13), sl13⟩)
    (c13 : PySem.W.codeIn K cd13 "byte_items" = true)
    (k13 : PySem.W.keepIn K (.ref f13) = true)
    (a14 : PySem.W.nsIn K mainGlobals "unit_items" = some (some (.ref f14)))
    (l14 : K.lookup f14 = some ⟨oc14, od14, .func (PySem.W.fnOf "unit_items" "unit_items" (defArgs s_unit_items) (defBody s_unit_items) (defScope s_unit_items) .none kV14 dc14 pm14 an14 cd14 ct14), sl14⟩)
    (c14 : PySem.W.codeIn K cd14 "unit_items" = true)
    (k14 : PySem.W.keepIn K (.ref f14) = true)
    (a15 : PySem.W.nsIn K mainGlobals "_law_cell" = some (some (.ref f15)))
    (l15 : K.lookup f15 = some ⟨oc15, od15, .func (PySem.W.fnOf "_law_cell" "_law_cell" (defArgs s_l_cell) (defBody s_l_cell) (defScope s_l_cell) .none kV15 dc15 pm15 an15 cd15 ct15), sl15⟩)
    (c15 : PySem.W.codeIn K cd15 "_law_cell" = true)
    (k15 : PySem.W.keepIn K (.ref f15) = true)
    (a16 : PySem.W.nsIn K mainGlobals "_law_bag" = some (some (.ref f16)))
    (l16 : K.lookup f16 = some ⟨oc16, od16, .func (PySem.W.fnOf "_law_bag" "_law_bag" (defArgs s_l_bag) (defBody s_l_bag) (defScope s_l_bag) .none kV16 dc16 pm16 an16 cd16 ct16), sl16⟩)
    (c16 : PySem.W.codeIn K cd16 "_law_bag" = true)
    (k16 : PySem.W.keepIn K (.ref f16) = true)
    (a17 : PySem.W.nsIn K mainGlobals "_law_take" = some (some (.ref f17)))
    (l17 : K.lookup f17 = some ⟨oc17, od17, .func (PySem.W.fnOf "_law_take" "_law_take" (defArgs s_l_take) (defBody s_l_take) (defScope s_l_take) .none kV17 dc17 pm17 an17 cd17 ct17), sl17⟩)
    (c17 : PySem.W.codeIn K cd17 "_law_take" = true)
    (k17 : PySem.W.keepIn K (.ref f17) = true)
    (a18 : PySem.W.nsIn K mainGlobals "_law_char" = some (some (.ref f18)))
    (l18 : K.lookup f18 = some ⟨oc18, od18, .func (PySem.W.fnOf "_law_char" "_law_char" (defArgs s_l_char) (defBody s_l_char) (defScope s_l_char) .none kV18 dc18 pm18 an18 cd18 ct18), sl18⟩)
    (c18 : PySem.W.codeIn K cd18 "_law_char" = true)
    (k18 : PySem.W.keepIn K (.ref f18) = true)
    (a19 : PySem.W.nsIn K mainGlobals "_law_width" = some (some (.ref f19)))
    (l19 : K.lookup f19 = some ⟨oc19, od19, .func (PySem.W.fnOf "_law_width" "_law_width" (defArgs s_l_width) (defBody s_l_width) (defScope s_l_width) .none kV19 dc19 pm19 an19 cd19 ct19), sl19⟩)
    (c19 : PySem.W.codeIn K cd19 "_law_width" = true)
    (k19 : PySem.W.keepIn K (.ref f19) = true)
    (a20 : PySem.W.nsIn K mainGlobals "_law_items" = some (some (.ref f20)))
    (l20 : K.lookup f20 = some ⟨oc20, od20, .func (PySem.W.fnOf "_law_items" "_law_items" (defArgs s_l_items) (defBody s_l_items) (defScope s_l_items) .none kV20 dc20 pm20 an20 cd20 ct20), sl20⟩)
    (c20 : PySem.W.codeIn K cd20 "_law_items" = true)
    (k20 : PySem.W.keepIn K (.ref f20) = true)
    (a21 : PySem.W.nsIn K mainGlobals "_law_caught" = some (some (.ref f21)))
    (l21 : K.lookup f21 = some ⟨oc21, od21, .func (PySem.W.fnOf "_law_caught" "_law_caught" (defArgs s_l_caught) (defBody s_l_caught) (defScope s_l_caught) .none kV21 dc21 pm21 an21 cd21 ct21), sl21⟩)
    (c21 : PySem.W.codeIn K cd21 "_law_caught" = true)
    (k21 : PySem.W.keepIn K (.ref f21) = true)
    (a22 : PySem.W.nsIn K mainGlobals "law" = some (some (.ref f22)))
    (l22 : K.lookup f22 = some ⟨oc22, od22, .func (PySem.W.fnOf "law" "law" (defArgs s_law) (defBody s_law) (defScope s_law) .none kV22 dc22 pm22 an22 cd22 ct22), sl22⟩)
    (c22 : PySem.W.codeIn K cd22 "law" = true)
    (k22 : PySem.W.keepIn K (.ref f22) = true)
    (aC_InvalidChar : PySem.W.nsIn K mainGlobals "InvalidChar" = some (some (.ref C_InvalidChar)))
    (xL_InvalidChar : K.lookup C_InvalidChar = some (excClassObj nm_InvalidChar q_InvalidChar C_InvalidChar N_InvalidChar bs_InvalidChar [.ref P_InvalidChar, .type "ValueError", .type "Exception", .type "BaseException", .type "object"] true sn_InvalidChar sub_InvalidChar ab_InvalidChar col_InvalidChar dd_InvalidChar m0_InvalidChar m1_InvalidChar m2_InvalidChar m3_InvalidChar m5_InvalidChar "ValueError.__new__"))
    (sa_InvalidChar : PySem.W.findIn K (.ref C_InvalidChar) "__setattr__" = some (some (.builtin "object.__setattr__")))
    (ga_InvalidChar : PySem.W.findIn K (.ref C_InvalidChar) "__getattribute__" = some (some (.builtin "BaseException.__getattribute__")))
    (gg_InvalidChar : PySem.W.findIn K (.ref C_InvalidChar) "__getattr__" = some none)
    (nv_InvalidChar : PySem.W.findIn K (.ref C_InvalidChar) "value" = some none)
    (in_InvalidChar : PySem.W.findIn K (.ref C_InvalidChar) "__init__" = some (some (.ref n_InvalidChar)))
    (ti_InvalidChar : PySem.W.typeIn K (.ref n_InvalidChar) = some (.type "function"))
    (li_InvalidChar : K.lookup n_InvalidChar = some ⟨oc_InvalidChar, od_InvalidChar, .func (PySem.W.fnOf "__init__" "InvalidChar.__init__" (defArgs s_InvalidChar) (defBody s_InvalidChar) (defScope s_InvalidChar) .none kV_InvalidChar dc_InvalidChar pm_InvalidChar an_InvalidChar cd_InvalidChar ct_InvalidChar), sl_InvalidChar⟩)
    (ci_InvalidChar : PySem.W.codeIn K cd_InvalidChar "InvalidChar.__init__" = true)
    (ki_InvalidChar : PySem.W.keepIn K (.ref n_InvalidChar) = true)
    (kC_InvalidChar : PySem.W.keepIn K (.ref C_InvalidChar) = true)
    (eC_InvalidChar : PySem.W.subIn K (.ref C_InvalidChar) (.type "BaseException") = some true)
    (tC_InvalidChar : PySem.W.typeIn K (.ref C_InvalidChar) = some (.type "type"))
    (hC_InvalidChar : PySem.W.hasDictIn K C_InvalidChar = true)
    (iC_InvalidChar : PySem.W.isClsIn K C_InvalidChar = true)
    (aC_InvalidKind : PySem.W.nsIn K mainGlobals "InvalidKind" = some (some (.ref C_InvalidKind)))
    (xL_InvalidKind : K.lookup C_InvalidKind = some (excClassObj nm_InvalidKind q_InvalidKind C_InvalidKind N_InvalidKind bs_InvalidKind [.ref P_InvalidKind, .type "ValueError", .type "Exception", .type "BaseException", .type "object"] true sn_InvalidKind sub_InvalidKind ab_InvalidKind col_InvalidKind dd_InvalidKind m0_InvalidKind m1_InvalidKind m2_InvalidKind m3_InvalidKind m5_InvalidKind "ValueError.__new__"))
    (sa_InvalidKind : PySem.W.findIn K (.ref C_InvalidKind) "__setattr__" = some (some (.builtin "object.__setattr__")))
    (ga_InvalidKind : PySem.W.findIn K (.ref C_InvalidKind) "__getattribute__" = some (some (.builtin "BaseException.__getattribute__")))
    (gg_InvalidKind : PySem.W.findIn K (.ref C_InvalidKind) "__getattr__" = some none)
    (nv_InvalidKind : PySem.W.findIn K (.ref C_InvalidKind) "value" = some none)
    (in_InvalidKind : PySem.W.findIn K (.ref C_InvalidKind) "__init__" = some (some (.ref n_InvalidKind)))
    (ti_InvalidKind : PySem.W.typeIn K (.ref n_InvalidKind) = some (.type "function"))
    (li_InvalidKind : K.lookup n_InvalidKind = some ⟨oc_InvalidKind, od_InvalidKind, .func (PySem.W.fnOf "__init__" "InvalidKind.__init__" (defArgs s_InvalidKind) (defBody s_InvalidKind) (defScope s_InvalidKind) .none kV_InvalidKind dc_InvalidKind pm_InvalidKind an_InvalidKind cd_InvalidKind ct_InvalidKind), sl_InvalidKind⟩)
    (ci_InvalidKind : PySem.W.codeIn K cd_InvalidKind "InvalidKind.__init__" = true)
    (ki_InvalidKind : PySem.W.keepIn K (.ref n_InvalidKind) = true)
    (kC_InvalidKind : PySem.W.keepIn K (.ref C_InvalidKind) = true)
    (eC_InvalidKind : PySem.W.subIn K (.ref C_InvalidKind) (.type "BaseException") = some true)
    (tC_InvalidKind : PySem.W.typeIn K (.ref C_InvalidKind) = some (.type "type"))
    (hC_InvalidKind : PySem.W.hasDictIn K C_InvalidKind = true)
    (iC_InvalidKind : PySem.W.isClsIn K C_InvalidKind = true)
    (s_InvalidChar_InvalidChar : PySem.W.subIn K (.ref C_InvalidChar) (.ref C_InvalidChar) = some true)
    (s_InvalidChar_InvalidKind : PySem.W.subIn K (.ref C_InvalidChar) (.ref C_InvalidKind) = some false)
    (s_InvalidKind_InvalidChar : PySem.W.subIn K (.ref C_InvalidKind) (.ref C_InvalidChar) = some false)
    (s_InvalidKind_InvalidKind : PySem.W.subIn K (.ref C_InvalidKind) (.ref C_InvalidKind) = some true)
    (v_LAST_CHAR : PySem.W.nsIn K mainGlobals "LAST_CHAR" = some (some (.int 1114111 t_LAST_CHAR)))
    (v_FIRST_SURROGATE : PySem.W.nsIn K mainGlobals "FIRST_SURROGATE" = some (some (.int 55296 t_FIRST_SURROGATE)))
    (v_LAST_SURROGATE : PySem.W.nsIn K mainGlobals "LAST_SURROGATE" = some (some (.int 57343 t_LAST_SURROGATE)))
    (v_NEXT_BYTE : PySem.W.nsIn K mainGlobals "NEXT_BYTE" = some (some (.int 128 t_NEXT_BYTE)))
    (v_BYTE_SHARE : PySem.W.nsIn K mainGlobals "BYTE_SHARE" = some (some (.int 64 t_BYTE_SHARE)))
    (v_FIRST_WIDE : PySem.W.nsIn K mainGlobals "FIRST_WIDE" = some (some (.int 65536 t_FIRST_WIDE)))
    (v_HIGH_UNIT : PySem.W.nsIn K mainGlobals "HIGH_UNIT" = some (some (.int 55296 t_HIGH_UNIT)))
    (v_LOW_UNIT : PySem.W.nsIn K mainGlobals "LOW_UNIT" = some (some (.int 56320 t_LOW_UNIT)))
    (v_UNIT_SHARE : PySem.W.nsIn K mainGlobals "UNIT_SHARE" = some (some (.int 1024 t_UNIT_SHARE)))
    (g_KINDS : PySem.W.nsIn K mainGlobals "KINDS" = some (some (.ref t_KINDS)))
    (l_KINDS : K.lookup t_KINDS = some ⟨.type "tuple", dd_KINDS, .seq #[.str "bytes" k0_KINDS, .str "units" k1_KINDS, .str "chars" k2_KINDS] n_KINDS, sl_KINDS⟩)
    (g_FIRST_BYTES : PySem.W.nsIn K mainGlobals "FIRST_BYTES" = some (some (.ref t_FIRST_BYTES)))
    (l_FIRST_BYTES : K.lookup t_FIRST_BYTES = some ⟨.type "dict", none, .dict #[⟨1, .int 1 k0_FIRST_BYTES, .int 0 v0_FIRST_BYTES⟩, ⟨2, .int 2 k1_FIRST_BYTES, .int 192 v1_FIRST_BYTES⟩, ⟨3, .int 3 k2_FIRST_BYTES, .int 224 v2_FIRST_BYTES⟩, ⟨4, .int 4 k3_FIRST_BYTES, .int 240 v3_FIRST_BYTES⟩] n_FIRST_BYTES, #[]⟩)
    (z_bool : PySem.W.nsIn K mainGlobals "bool" = some none)
    (z_int : PySem.W.nsIn K mainGlobals "int" = some none)
    (z_isinstance : PySem.W.nsIn K mainGlobals "isinstance" = some none)
    (z_len : PySem.W.nsIn K mainGlobals "len" = some none)
    (z_list : PySem.W.nsIn K mainGlobals "list" = some none)
    (z_max : PySem.W.nsIn K mainGlobals "max" = some none)
    (z_min : PySem.W.nsIn K mainGlobals "min" = some none)
    (z_range : PySem.W.nsIn K mainGlobals "range" = some none)
    (z_repr : PySem.W.nsIn K mainGlobals "repr" = some none)
    (z_str : PySem.W.nsIn K mainGlobals "str" = some none) :
    ∃ A : Ads, A.a_law = fa ∧ Txt K mg A ∧ ∀ (s : Shared) (v : Value), BindsTo s A.d_law ⟨[v], []⟩ [("_law_script", v)] := by
  have F1 := fun_mk (st := s_is_integer) l1 c1 k1
  have F2 := fun_mk (st := s_is_whole) l2 c2 k2
  have F3 := fun_mk (st := s_is_char) l3 c3 k3
  have F4 := fun_mk (st := s_is_kind) l4 c4 k4
  have F5 := fun_mk (st := s_width) l5 c5 k5
  have F6 := fun_mk (st := s_items) l6 c6 k6
  have F7 := fun_mk (st := s_check_char) l7 c7 k7
  have F8 := fun_mk (st := s_check_kind) l8 c8 k8
  have F9 := fun_mk (st := s_char_width) l9 c9 k9
  have F10 := fun_mk (st := s_byte_width) l10 c10 k10
  have F11 := fun_mk (st := s_unit_width) l11 c11 k11
  have F12 := fun_mk (st := s_char_items) l12 c12 k12
  have F13 := fun_mk (st := s_byte_items) l13 c13 k13
  have F14 := fun_mk (st := s_unit_items) l14 c14 k14
  have F15 := fun_mk (st := s_l_cell) l15 c15 k15
  have F16 := fun_mk (st := s_l_bag) l16 c16 k16
  have F17 := fun_mk (st := s_l_take) l17 c17 k17
  have F18 := fun_mk (st := s_l_char) l18 c18 k18
  have F19 := fun_mk (st := s_l_width) l19 c19 k19
  have F20 := fun_mk (st := s_l_items) l20 c20 k20
  have F21 := fun_mk (st := s_l_caught) l21 c21 k21
  have F22 := fun_mk (st := s_law) l22 c22 k22
  have F_InvalidChar := fun_mk (st := s_InvalidChar) li_InvalidChar ci_InvalidChar ki_InvalidChar
  have F_InvalidKind := fun_mk (st := s_InvalidKind) li_InvalidKind ci_InvalidKind ki_InvalidKind
  have e := hfa.symm.trans (PySem.W.mg_of X G a22)
  have e1 : fa = f22 := by injection (Option.some.inj e)
  subst e1
  refine ⟨{ a_is_integer := f1, d_is_integer := PySem.W.fnOf "is_integer" "is_integer" (defArgs s_is_integer) (defBody s_is_integer) (defScope s_is_integer) .none kV1 dc1 pm1 an1 cd1 ct1, a_is_whole := f2, d_is_whole := PySem.W.fnOf "is_whole" "is_whole" (defArgs s_is_whole) (defBody s_is_whole) (defScope s_is_whole) .none kV2 dc2 pm2 an2 cd2 ct2, a_is_char := f3, d_is_char := PySem.W.fnOf "is_char" "is_char" (defArgs s_is_char) (defBody s_is_char) (defScope s_is_char) .none kV3 dc3 pm3 an3 cd3 ct3, a_is_kind := f4, d_is_kind := PySem.W.fnOf "is_kind" "is_kind" (defArgs s_is_kind) (defBody s_is_kind) (defScope s_is_kind) .none kV4 dc4 pm4 an4 cd4 ct4, a_width := f5, d_width := PySem.W.fnOf "width" "width" (defArgs s_width) (defBody s_width) (defScope s_width) .none kV5 dc5 pm5 an5 cd5 ct5, a_items := f6, d_items := PySem.W.fnOf "items" "items" (defArgs s_items) (defBody s_items) (defScope s_items) .none kV6 dc6 pm6 an6 cd6 ct6, a_check_char := f7, d_check_char := PySem.W.fnOf "check_char" "check_char" (defArgs s_check_char) (defBody s_check_char) (defScope s_check_char) .none kV7 dc7 pm7 an7 cd7 ct7, a_check_kind := f8, d_check_kind := PySem.W.fnOf "check_kind" "check_kind" (defArgs s_check_kind) (defBody s_check_kind) (defScope s_check_kind) .none kV8 dc8 pm8 an8 cd8 ct8, a_char_width := f9, d_char_width := PySem.W.fnOf "char_width" "char_width" (defArgs s_char_width) (defBody s_char_width) (defScope s_char_width) .none kV9 dc9 pm9 an9 cd9 ct9, a_byte_width := f10, d_byte_width := PySem.W.fnOf "byte_width" "byte_width" (defArgs s_byte_width) (defBody s_byte_width) (defScope s_byte_width) .none kV10 dc10 pm10 an10 cd10 ct10, a_unit_width := f11, d_unit_width := PySem.W.fnOf "unit_width" "unit_width" (defArgs s_unit_width) (defBody s_unit_width) (defScope s_unit_width) .none kV11 dc11 pm11 an11 cd11 ct11, a_char_items := f12, d_char_items := PySem.W.fnOf "char_items" "char_items" (defArgs s_char_items) (defBody s_char_items) (defScope s_char_items) .none kV12 dc12 pm12 an12 cd12 ct12, a_byte_items := f13, d_byte_items := PySem.W.fnOf "byte_items" "byte_items" (defArgs s_byte_items) (defBody s_byte_items) (defScope s_byte_items) .none kV13 dc13 pm13 an13 cd13 ct13, a_unit_items := f14, d_unit_items := PySem.W.fnOf "unit_items" "unit_items" (defArgs s_unit_items) (defBody s_unit_items) (defScope s_unit_items) .none kV14 dc14 pm14 an14 cd14 ct14, a_l_cell := f15, d_l_cell := PySem.W.fnOf "_law_cell" "_law_cell" (defArgs s_l_cell) (defBody s_l_cell) (defScope s_l_cell) .none kV15 dc15 pm15 an15 cd15 ct15, a_l_bag := f16, d_l_bag := PySem.W.fnOf "_law_bag" "_law_bag" (defArgs s_l_bag) (defBody s_l_bag) (defScope s_l_bag) .none kV16 dc16 pm16 an16 cd16 ct16, a_l_take := f17, d_l_take := PySem.W.fnOf "_law_take" "_law_take" (defArgs s_l_take) (defBody s_l_take) (defScope s_l_take) .none kV17 dc17 pm17 an17 cd17 ct17, a_l_char := f18, d_l_char := PySem.W.fnOf "_law_char" "_law_char" (defArgs s_l_char) (defBody s_l_char) (defScope s_l_char) .none kV18 dc18 pm18 an18 cd18 ct18, a_l_width := f19, d_l_width := PySem.W.fnOf "_law_width" "_law_width" (defArgs s_l_width) (defBody s_l_width) (defScope s_l_width) .none kV19 dc19 pm19 an19 cd19 ct19, a_l_items := f20, d_l_items := PySem.W.fnOf "_law_items" "_law_items" (defArgs s_l_items) (defBody s_l_items) (defScope s_l_items) .none kV20 dc20 pm20 an20 cd20 ct20, a_l_caught := f21, d_l_caught := PySem.W.fnOf "_law_caught" "_law_caught" (defArgs s_l_caught) (defBody s_l_caught) (defScope s_l_caught) .none kV21 dc21 pm21 an21 cd21 ct21, a_law := fa, d_law := PySem.W.fnOf "law" "law" (defArgs s_law) (defBody s_law) (defScope s_law) .none kV22 dc22 pm22 an22 cd22 ct22, C_InvalidChar := C_InvalidChar, n_InvalidChar := n_InvalidChar, d_InvalidChar := PySem.W.fnOf "__init__" "InvalidChar.__init__" (defArgs s_InvalidChar) (defBody s_InvalidChar) (defScope s_InvalidChar) .none kV_InvalidChar dc_InvalidChar pm_InvalidChar an_InvalidChar cd_InvalidChar ct_InvalidChar, C_InvalidKind := C_InvalidKind, n_InvalidKind := n_InvalidKind, d_InvalidKind := PySem.W.fnOf "__init__" "InvalidKind.__init__" (defArgs s_InvalidKind) (defBody s_InvalidKind) (defScope s_InvalidKind) .none kV_InvalidKind dc_InvalidKind pm_InvalidKind an_InvalidKind cd_InvalidKind ct_InvalidKind, t_KINDS := t_KINDS, t_FIRST_BYTES := t_FIRST_BYTES }, rfl, ?_, fun s v => .of_eq rfl⟩
  exact {
    g_is_integer := PySem.W.mg_of X G a1
    F_is_integer := F1
    b_is_integer := F1.binds (ps := ["value", "low", "high"]) fun _ _ _ _ _ _ us hl => match us, hl with | [_, _, _], _ => rfl
    g_is_whole := PySem.W.mg_of X G a2
    F_is_whole := F2
    b_is_whole := F2.binds (ps := ["value"]) fun _ _ _ _ _ _ us hl => match us, hl with | [_], _ => rfl
    g_is_char := PySem.W.mg_of X G a3
    F_is_char := F3
    b_is_char := F3.binds (ps := ["value"]) fun _ _ _ _ _ _ us hl => match us, hl with | [_], _ => rfl
    g_is_kind := PySem.W.mg_of X G a4
    F_is_kind := F4
    b_is_kind := F4.binds (ps := ["value"]) fun _ _ _ _ _ _ us hl => match us, hl with | [_], _ => rfl
    g_width := PySem.W.mg_of X G a5
    F_width := F5
    b_width := F5.binds (ps := ["char", "kind"]) fun _ _ _ _ _ _ us hl => match us, hl with | [_, _], _ => rfl
    g_items := PySem.W.mg_of X G a6
    F_items := F6
    b_items := F6.binds (ps := ["char", "kind"]) fun _ _ _ _ _ _ us hl => match us, hl with | [_, _], _ => rfl
    g_check_char := PySem.W.mg_of X G a7
    F_check_char := F7
    b_check_char := F7.binds (ps := ["char"]) fun _ _ _ _ _ _ us hl => match us, hl with | [_], _ => rfl
    g_check_kind := PySem.W.mg_of X G a8
    F_check_kind := F8
    b_check_kind := F8.binds (ps := ["kind"]) fun _ _ _ _ _ _ us hl => match us, hl with | [_], _ => rfl
    g_char_width := PySem.W.mg_of X G a9
    F_char_width := F9
    b_char_width := F9.binds (ps := ["char", "kind"]) fun _ _ _ _ _ _ us hl => match us, hl with | [_, _], _ => rfl
    g_byte_width := PySem.W.mg_of X G a10
    F_byte_width := F10
    b_byte_width := F10.binds (ps := ["char"]) fun _ _ _ _ _ _ us hl => match us, hl with | [_], _ => rfl
    g_unit_width := PySem.W.mg_of X G a11
    F_unit_width := F11
    b_unit_width := F11.binds (ps := ["char"]) fun _ _ _ _ _ _ us hl => match us, hl with | [_], _ => rfl
    g_char_items := PySem.W.mg_of X G a12
    F_char_items := F12
    b_char_items := F12.binds (ps := ["char", "kind"]) fun _ _ _ _ _ _ us hl => match us, hl with | [_, _], _ => rfl
    g_byte_items := PySem.W.mg_of X G a13
    F_byte_items := F13
    b_byte_items := F13.binds (ps := ["char"]) fun _ _ _ _ _ _ us hl => match us, hl with | [_], _ => rfl
    g_unit_items := PySem.W.mg_of X G a14
    F_unit_items := F14
    b_unit_items := F14.binds (ps := ["char"]) fun _ _ _ _ _ _ us hl => match us, hl with | [_], _ => rfl
    g_l_cell := PySem.W.mg_of X G a15
    F_l_cell := F15
    b_l_cell := F15.binds (ps := ["_law_script", "_law_index"]) fun _ _ _ _ _ _ us hl => match us, hl with | [_, _], _ => rfl
    g_l_bag := PySem.W.mg_of X G a16
    F_l_bag := F16
    b_l_bag := F16.binds (ps := ["_law_cell_here"]) fun _ _ _ _ _ _ us hl => match us, hl with | [_], _ => rfl
    g_l_take := PySem.W.mg_of X G a17
    F_l_take := F17
    b_l_take := F17.binds (ps := ["_law_bag_here", "_law_many"]) fun _ _ _ _ _ _ us hl => match us, hl with | [_, _], _ => rfl
    g_l_char := PySem.W.mg_of X G a18
    F_l_char := F18
    b_l_char := F18.binds (ps := ["_law_bag_here"]) fun _ _ _ _ _ _ us hl => match us, hl with | [_], _ => rfl
    g_l_width := PySem.W.mg_of X G a19
    F_l_width := F19
    b_l_width := F19.binds (ps := ["_law_char_here", "_law_kind"]) fun _ _ _ _ _ _ us hl => match us, hl with | [_, _], _ => rfl
    g_l_items := PySem.W.mg_of X G a20
    F_l_items := F20
    b_l_items := F20.binds (ps := ["_law_char_here", "_law_kind"]) fun _ _ _ _ _ _ us hl => match us, hl with | [_, _], _ => rfl
    g_l_caught := PySem.W.mg_of X G a21
    F_l_caught := F21
    b_l_caught := F21.binds (ps := ["_law_door", "_law_char_here", "_law_kind"]) fun _ _ _ _ _ _ us hl => match us, hl with | [_, _, _], _ => rfl
    g_law := PySem.W.mg_of X G a22
    F_law := F22
    g_InvalidChar := PySem.W.mg_of X G aC_InvalidChar
    x_InvalidChar := ⟨⟨_, _, _, _, _, _, _, _, _, _, _, _, _, _, _, xL_InvalidChar, refsVE_two⟩, sa_InvalidChar, eC_InvalidChar, tC_InvalidChar, kC_InvalidChar⟩
    f_InvalidChar := ⟨ga_InvalidChar, gg_InvalidChar, eC_InvalidChar, hC_InvalidChar⟩
    i_InvalidChar := in_InvalidChar
    t_InvalidChar := ti_InvalidChar
    F_InvalidChar := F_InvalidChar
    b_InvalidChar := F_InvalidChar.binds (ps := ["self", "value"]) fun _ _ _ _ _ _ us hl => match us, hl with | [_, _], _ => rfl
    v_InvalidChar := nv_InvalidChar
    g_InvalidKind := PySem.W.mg_of X G aC_InvalidKind
    x_InvalidKind := ⟨⟨_, _, _, _, _, _, _, _, _, _, _, _, _, _, _, xL_InvalidKind, refsVE_two⟩, sa_InvalidKind, eC_InvalidKind, tC_InvalidKind, kC_InvalidKind⟩
    f_InvalidKind := ⟨ga_InvalidKind, gg_InvalidKind, eC_InvalidKind, hC_InvalidKind⟩
    i_InvalidKind := in_InvalidKind
    t_InvalidKind := ti_InvalidKind
    F_InvalidKind := F_InvalidKind
    b_InvalidKind := F_InvalidKind.binds (ps := ["self", "value"]) fun _ _ _ _ _ _ us hl => match us, hl with | [_, _], _ => rfl
    v_InvalidKind := nv_InvalidKind
    e_InvalidChar_InvalidChar := exm_two eC_InvalidChar iC_InvalidChar tC_InvalidChar s_InvalidChar_InvalidChar
    e_InvalidChar_InvalidKind := exm_two eC_InvalidKind iC_InvalidKind tC_InvalidKind s_InvalidChar_InvalidKind
    e_InvalidKind_InvalidChar := exm_two eC_InvalidChar iC_InvalidChar tC_InvalidChar s_InvalidKind_InvalidChar
    e_InvalidKind_InvalidKind := exm_two eC_InvalidKind iC_InvalidKind tC_InvalidKind s_InvalidKind_InvalidKind
    c_LAST_CHAR := ⟨_, PySem.W.mg_of X G v_LAST_CHAR⟩
    c_FIRST_SURROGATE := ⟨_, PySem.W.mg_of X G v_FIRST_SURROGATE⟩
    c_LAST_SURROGATE := ⟨_, PySem.W.mg_of X G v_LAST_SURROGATE⟩
    c_NEXT_BYTE := ⟨_, PySem.W.mg_of X G v_NEXT_BYTE⟩
    c_BYTE_SHARE := ⟨_, PySem.W.mg_of X G v_BYTE_SHARE⟩
    c_FIRST_WIDE := ⟨_, PySem.W.mg_of X G v_FIRST_WIDE⟩
    c_HIGH_UNIT := ⟨_, PySem.W.mg_of X G v_HIGH_UNIT⟩
    c_LOW_UNIT := ⟨_, PySem.W.mg_of X G v_LOW_UNIT⟩
    c_UNIT_SHARE := ⟨_, PySem.W.mg_of X G v_UNIT_SHARE⟩
    g_KINDS := PySem.W.mg_of X G g_KINDS
    s_KINDS := fun H => .inr ⟨_, _, _, l_KINDS, rfl, rfl, (by show 3 ≤ sizeLine; decide), .cons ⟨_, rfl⟩ (.cons ⟨_, rfl⟩ (.cons ⟨_, rfl⟩ (.nil)))⟩
    g_FIRST_BYTES := PySem.W.mg_of X G g_FIRST_BYTES
    s_FIRST_BYTES := ⟨_, _, _, _, _, _, _, _, _, l_FIRST_BYTES⟩
    z_bool := PySem.W.mg_none_of X G z_bool
    z_int := PySem.W.mg_none_of X G z_int
    z_isinstance := PySem.W.mg_none_of X G z_isinstance
    z_len := PySem.W.mg_none_of X G z_len
    z_list := PySem.W.mg_none_of X G z_list
    z_max := PySem.W.mg_none_of X G z_max
    z_min := PySem.W.mg_none_of X G z_min
    z_range := PySem.W.mg_none_of X G z_range
    z_repr := PySem.W.mg_none_of X G z_repr
    z_str := PySem.W.mg_none_of X G z_str
  }
theorem walk_here {l : PySem.W.OpenLaw} {q : Program} {loose : List Str} {XP : (Str → Option Value) → Heap → Prop} {YP : World → Heap → Prop} {d : DefRec} {K : Params → PySem.W.Frag}
    (hn : l.most = some 63) (hdf : d.params.defaults = []) (noImp : importsNone q = true) (hY : ∀ (w : World) (h : Heap), YP w h → (K w.params).In h) (ok : LawOk l.prog)
    (F : ∀ (w : World) (mg : Str → Option Value) (fa : Addr) (h : Heap), (K w.params).In h → h.Ns mainGlobals mg → mg d.name = some (.ref fa) →
      ∃ A : Ads, A.a_law = fa ∧ Txt (K w.params) mg A ∧ ∀ (s : Shared) (v : Value), BindsTo s A.d_law ⟨[v], []⟩ [("_law_script", v)]) :
    PySem.W.WalkO q loose XP YP l.row.toRowW d [] (fun f vs => PySem.call f vs) := by
  refine Att.attach_call hn hdf fun w s₀ s₁ mg mb fa o pm cd doc a vs ns G Y ho hd hcd hmg hobj hints hlen hg => ?_
  have KH := hY w _ Y
  obtain ⟨A, rfl, T, hb⟩ := F w mg fa _ KH G.T.g hmg
  exact call_here KH G.T.g G.T.b G.T.builtins G.T.nolimit (let ⟨mm, z, _⟩ := (G.T.seer noImp).mods; ⟨mm, z⟩) hg hobj hints (Nat.le_trans hlen (by decide)) fun base H _ _ hO hS e0 sb => ok w _ mg A base H s₁ a ns T hb hlen hS hO e0 sb

end Tc

open PySem PySem.W PyProof.Rows in
set_option maxRecDepth 100000 in
set_option maxHeartbeats 0 in
theorem PySem.Challenge.cw_threecounts_k04_widths_and_items_holds : PySem.Challenge.rw_threecounts_k04_widths_and_items.Holds := by
  w_on; o_law; k_head; (case hw => w_witness2)
  k_fill
  refine Tc.walk_here (l := PySem.Challenge.rw_threecounts_k04_widths_and_items) rfl rfl (by decide +kernel) (fun w h Y => PySem.W.kIn_of Y) (Tc.law_ok _) ?F
  case F =>
    intro w mg fa h KX G hmg
    refine' Tc.all_mk KX G hmg ?a1 ?l1 ?c1 ?k1 ?a2 ?l2 ?c2 ?k2 ?a3 ?l3 ?c3 ?k3 ?a4 ?l4 ?c4 ?k4 ?a5 ?l5 ?c5 ?k5 ?a6 ?l6 ?c6 ?k6 ?a7 ?l7 ?c7 ?k7 ?a8 ?l8 ?c8 ?k8 ?a9 ?l9 ?c9 ?k9 ?a10 ?l10 ?c10 ?k10 ?a11 ?l11 ?c11 ?k11 ?a12 ?l12 ?c12 ?k12 ?a13 ?l13 ?c13 ?k13 ?a14 ?l14 ?c14 ?k14 ?a15 ?l15 ?c15 ?k15 ?a16 ?l16 ?c16 ?k16 ?a17 ?l17 ?c17 ?k17 ?a18 ?l18 ?c18 ?k18 ?a19 ?l19 ?c19 ?k19 ?a20 ?l20 ?c20 ?k20 ?a21 ?l21 ?c21 ?k21 ?a22 ?l22 ?c22 ?k22 ?aC_InvalidChar ?xL_InvalidChar ?sa_InvalidChar ?ga_InvalidChar ?gg_InvalidChar ?nv_InvalidChar ?in_InvalidChar ?ti_InvalidChar ?li_InvalidChar ?ci_InvalidChar ?ki_InvalidChar ?kC_InvalidChar ?eC_InvalidChar ?tC_InvalidChar ?hC_InvalidChar ?iC_InvalidChar ?aC_InvalidKind ?xL_InvalidKind ?sa_InvalidKind ?ga_InvalidKind ?gg_InvalidKind ?nv_InvalidKind ?in_InvalidKind ?ti_InvalidKind ?li_InvalidKind ?ci_InvalidKind ?ki_InvalidKind ?kC_InvalidKind ?eC_InvalidKind ?tC_InvalidKind ?hC_InvalidKind ?iC_InvalidKind ?s_InvalidChar_InvalidChar ?s_InvalidChar_InvalidKind ?s_InvalidKind_InvalidChar ?s_InvalidKind_InvalidKind ?v_LAST_CHAR ?v_FIRST_SURROGATE ?v_LAST_SURROGATE ?v_NEXT_BYTE ?v_BYTE_SHARE ?v_FIRST_WIDE ?v_HIGH_UNIT ?v_LOW_UNIT ?v_UNIT_SHARE ?g_KINDS ?l_KINDS ?g_FIRST_BYTES ?l_FIRST_BYTES ?z_bool ?z_int ?z_isinstance ?z_len ?z_list ?z_max ?z_min ?z_range ?z_repr ?z_str
    (case a1 => k_is)
    (case l1 => k_is)
    (case c1 => k_is)
    (case k1 => k_is)
    (case a2 => k_is)
    (case l2 => k_is)
    (case c2 => k_is)
    (case k2 => k_is)
    (case a3 => k_is)
    (case l3 => k_is)
    (case c3 => k_is)
    (case k3 => k_is)
    (case a4 => k_is)
    (case l4 => k_is)
    (case c4 => k_is)
    (case k4 => k_is)
    (case a5 => k_is)
    (case l5 => k_is)
    (case c5 => k_is)
    (case k5 => k_is)
    (case a6 => k_is)
    (case l6 => k_is)
    (case c6 => k_is)
    (case k6 => k_is)
    (case a7 => k_is)
    (case l7 => k_is)
    (case c7 => k_is)
    (case k7 => k_is)
    (case a8 => k_is)
    (case l8 => k_is)
    (case c8 => k_is)
    (case k8 => k_is)
    (case a9 => k_is)
    (case l9 => k_is)
    (case c9 => k_is)
    (case k9 => k_is)
    (case a10 => k_is)
    (case l10 => k_is)
    (case c10 => k_is)
    (case k10 => k_is)
    (case a11 => k_is)
    (case l11 => k_is)
    (case c11 => k_is)
    (case k11 => k_is)
    (case a12 => k_is)
    (case l12 => k_is)
    (case c12 => k_is)
    (case k12 => k_is)
    (case a13 => k_is)
    (case l13 => k_is)
    (case c13 => k_is)
    (case k13 => k_is)
    (case a14 => k_is)
    (case l14 => k_is)
    (case c14 => k_is)
    (case k14 => k_is)
    (case a15 => k_is)
    (case l15 => k_is)
    (case c15 => k_is)
    (case k15 => k_is)
    (case a16 => k_is)
    (case l16 => k_is)
    (case c16 => k_is)
    (case k16 => k_is)
    (case a17 => k_is)
    (case l17 => k_is)
    (case c17 => k_is)
    (case k17 => k_is)
    (case a18 => k_is)
    (case l18 => k_is)
    (case c18 => k_is)
    (case k18 => k_is)
    (case a19 => k_is)
    (case l19 => k_is)
    (case c19 => k_is)
    (case k19 => k_is)
    (case a20 => k_is)
    (case l20 => k_is)
    (case c20 => k_is)
    (case k20 => k_is)
    (case a21 => k_is)
    (case l21 => k_is)
    (case c21 => k_is)
    (case k21 => k_is)
    (case a22 => k_is)
    (case l22 => k_is)
    (case c22 => k_is)
    (case k22 => k_is)
    (case aC_InvalidChar => k_is)
    (case xL_InvalidChar => k_is)
    (case sa_InvalidChar => k_is)
    (case ga_InvalidChar => k_is)
    (case gg_InvalidChar => k_is)
    (case nv_InvalidChar => k_is)
    (case in_InvalidChar => k_is)
    (case ti_InvalidChar => k_is)
    (case li_InvalidChar => k_is)
    (case ci_InvalidChar => k_is)
    (case ki_InvalidChar => k_is)
    (case kC_InvalidChar => k_is)
    (case eC_InvalidChar => k_is)
    (case tC_InvalidChar => k_is)
    (case hC_InvalidChar => k_is)
    (case iC_InvalidChar => k_is)
    (case aC_InvalidKind => k_is)
    (case xL_InvalidKind => k_is)
    (case sa_InvalidKind => k_is)
    (case ga_InvalidKind => k_is)
    (case gg_InvalidKind => k_is)
    (case nv_InvalidKind => k_is)
    (case in_InvalidKind => k_is)
    (case ti_InvalidKind => k_is)
    (case li_InvalidKind => k_is)
    (case ci_InvalidKind => k_is)
    (case ki_InvalidKind => k_is)
    (case kC_InvalidKind => k_is)
    (case eC_InvalidKind => k_is)
    (case tC_InvalidKind => k_is)
    (case hC_InvalidKind => k_is)
    (case iC_InvalidKind => k_is)
    (case s_InvalidChar_InvalidChar => first | rfl | k_is)
    (case s_InvalidChar_InvalidKind => first | rfl | k_is)
    (case s_InvalidKind_InvalidChar => first | rfl | k_is)
    (case s_InvalidKind_InvalidKind => first | rfl | k_is)
    (case v_LAST_CHAR => k_is)
    (case v_FIRST_SURROGATE => k_is)
    (case v_LAST_SURROGATE => k_is)
    (case v_NEXT_BYTE => k_is)
    (case v_BYTE_SHARE => k_is)
    (case v_FIRST_WIDE => k_is)
    (case v_HIGH_UNIT => k_is)
    (case v_LOW_UNIT => k_is)
    (case v_UNIT_SHARE => k_is)
    (case g_KINDS => k_is)
    (case l_KINDS => k_is)
    (case g_FIRST_BYTES => k_is)
    (case l_FIRST_BYTES => k_is)
    (case z_bool => k_is)
    (case z_int => k_is)
    (case z_isinstance => k_is)
    (case z_len => k_is)
    (case z_list => k_is)
    (case z_max => k_is)
    (case z_min => k_is)
    (case z_range => k_is)
    (case z_repr => k_is)
    (case z_str => k_is)

